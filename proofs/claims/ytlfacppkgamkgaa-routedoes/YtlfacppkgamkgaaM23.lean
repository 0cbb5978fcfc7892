
/-
  RouteLongest: the walk.
-/
import Derived.Test.YtlfacppkgamkgaaM22
namespace Go.Proofs.Ytlfacppkgamkgaa
open Go.RowKit Go.Shelf

section
variable {o : Oper} {w : World} {ev : Operand → Value}
theorem exec_quo8 (x : Operand) (k : Nat) (ho : o.op = .binOp .quo 3 x (.const (.int .i64 8)) 3) (hc : ∀ v, ev (.const v) = v) (hx : ev x = .int .i64 (k : Int)) (hk : k < 32) : (execOp ev o).run Try.prog w = .ok (.value (.int .i64 ((k / 8 : Nat) : Int))) w := by
  have e : (k : Int).tdiv 8 = ((k / 8 : Nat) : Int) := by rw [Int.tdiv_eq_ediv_of_nonneg (by omega)]; omega
  have e2 : IntKind.i64.wrap ((k / 8 : Nat) : Int) = ((k / 8 : Nat) : Int) := by rw [IntKind.wrap_i64]; omega
  unfold execOp
  simp [ho, hx, hc, go_sem]
  first | omega | (rw [IntKind.wrap_i64]; omega)
theorem exec_rem8 (x : Operand) (k : Nat) (ho : o.op = .binOp .rem 3 x (.const (.int .i64 8)) 3) (hc : ∀ v, ev (.const v) = v) (hx : ev x = .int .i64 (k : Int)) : (execOp ev o).run Try.prog w = .ok (.value (.int .i64 ((k % 8 : Nat) : Int))) w := by
  have e : (k : Int).tmod 8 = (k : Int) % 8 := Int.tmod_eq_emod_of_nonneg (by omega)
  unfold execOp
  simp [ho, hx, hc, go_sem, e]
theorem exec_cvu (x : Operand) (k : Nat) (ho : o.op = .convert 3 45 x) (hx : ev x = .int .i64 (k : Int)) (hk : k < 32) : (execOp ev o).run Try.prog w = .ok (.value (.int .u64 (k : Int))) w := by
  unfold execOp
  simp [ho, hx, go_sem]
  rw [IntKind.wrap_u64]
  omega
theorem exec_cv8 (x : Operand) (k : Nat) (ho : o.op = .convert 3 5 x) (hx : ev x = .int .i64 (k : Int)) (hk : k < 255) : (execOp ev o).run Try.prog w = .ok (.value (.int .u8 (k : Int))) w := by
  unfold execOp
  simp [ho, hx, go_sem]
  rw [IntKind.wrap_u8]
  omega
theorem exec_shr8 (y : Operand) (z : Nat) (ho : o.op = .binOp .shr 5 (.const (.int .u8 128)) y 45) (hc : ∀ v, ev (.const v) = v) (hy : ev y = .int .u64 (z : Int)) (hz : z < 8) : (execOp ev o).run Try.prog w = .ok (.value (.int .u8 (128 / 2 ^ z))) w := by
  unfold execOp
  have h9 : z = 0 ∨ z = 1 ∨ z = 2 ∨ z = 3 ∨ z = 4 ∨ z = 5 ∨ z = 6 ∨ z = 7 := by omega
  rcases h9 with rfl | rfl | rfl | rfl | rfl | rfl | rfl | rfl <;> simp [ho, hc, hy, go_sem] <;> rfl
theorem exec_andN (x y : Operand) (a m : Int) (ho : o.op = .binOp .andNot 5 x y 5) (hx : ev x = .int .u8 a) (hy : ev y = .int .u8 m) : (execOp ev o).run Try.prog w = .ok (.value (.int .u8 (bits .andNot .u8 a m))) w := by
  unfold execOp
  simp [ho, hx, hy, go_sem]
theorem exec_ixB (x y : Operand) (g i : Nat) (ho : o.op = .indexAddr 44 x y) (hx : ev x = .pointer (some ⟨g, 0, none⟩)) (hy : ev y = .int .i64 (i : Int)) (hi : i < 33) : (execOp ev o).run Try.prog w = .ok (.value (.pointer (some ⟨g, i, none⟩))) w := by
  have hki : (i : Int) < 33 := by omega
  unfold execOp
  simp [ho, hx, hy, go_sem, hki]
theorem exec_bldI (x : Operand) (k : Int) (ho : o.op = .build 31 #[(0, .const (.int .u8 10)), (1, .const (.int .u8 0)), (2, .const (.int .u8 0)), (3, x)]) (hc : ∀ v, ev (.const v) = v) (hx : ev x = .int .u8 k) : (execOp ev o).run Try.prog w = .ok (.value (.agg (I4.vals ⟨10, 0, 0, k⟩).toArray)) w := by
  unfold execOp
  simp [ho, hx, hc, go_sem, I4.vals]
theorem exec_bldW (x y z : Operand) (n g : I4) (k : Int) (ho : o.op = .build 33 #[(0, x), (1, y), (2, z), (3, .const (.bool true))]) (hc : ∀ v, ev (.const v) = v) (hx : ev x = .agg n.vals.toArray) (hy : ev y = .int .i64 k) (hz : ev z = .agg g.vals.toArray) : (execOp ev o).run Try.prog w = .ok (.value (.agg (Wy.cells ⟨n, k, g, true⟩).toArray)) w := by
  unfold execOp
  simp [ho, hx, hy, hz, hc, go_sem, Wy.cells, I4.vals]
end
/-- the octets lie at s -/
def Oct (W : World) (s : Nat) (f : Nat → Int) : Prop := (∀ j, j < 4 → W.cell? ⟨s, j, none⟩ = some (.int .u8 (f j))) ∧ ∀ j, W.frozen? ⟨s, j, none⟩ = false
theorem Oct.ip {W : World} {s : Nat} {x : I4} {f : Nat → Int} (h : Oct W s f) (e : ∀ j, j < 4 → f j = octet x j) : CellsAt W s 0 x.vals := fun j v hv => by
  rcases j with _ | _ | _ | _ | j
  · cases hv; have := h.1 0 (by omega); rw [e 0 (by omega)] at this; exact this
  · cases hv; have := h.1 1 (by omega); rw [e 1 (by omega)] at this; exact this
  · cases hv; have := h.1 2 (by omega); rw [e 2 (by omega)] at this; exact this
  · cases hv; have := h.1 3 (by omega); rw [e 3 (by omega)] at this; exact this
  · cases hv
theorem Oct.of {W : World} {s : Nat} {x : I4} {f : Nat → Int} (h : CellsAt W s 0 x.vals) (hf : ∀ j, W.frozen? ⟨s, j, none⟩ = false) (e : ∀ j, f j = octet x j) : Oct W s f := ⟨fun j hj => by
  rw [e]
  rcases j with _ | _ | _ | _ | j
  · exact h 0 _ rfl
  · exact h 1 _ rfl
  · exact h 2 _ rfl
  · exact h 3 _ rfl
  · omega, hf⟩
theorem Oct.put {W : World} {s : Nat} {x : I4} {n K : Nat} (hx : x.Ok) (hn : n ≤ K) (hK : K < 32) (h : Oct W s (no x n K)) : Oct (W.setCell ⟨s, K / 8, none⟩ (.int .u8 (bits .andNot .u8 (no x n K (K / 8)) (128 / 2 ^ (K % 8))))) s (no x n (K + 1)) := by
  refine ⟨fun j hj => ?_, fun j => by rw [World.frozen?_setCell]; exact h.2 j⟩
  rw [no_step hx n K j hn hK]
  by_cases e : j = K / 8
  · rw [if_pos e, e]
    exact World.cell?_setCell_same _ _ _ (h.1 (K / 8) (by omega))
  · rw [if_neg e, setCell_out e]
    exact h.1 j hj
end Go.Proofs.Ytlfacppkgamkgaa
