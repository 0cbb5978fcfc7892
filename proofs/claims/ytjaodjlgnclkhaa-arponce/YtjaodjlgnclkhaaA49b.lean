
/-
  ArpOnce: what the walk's regions need.
-/
import Derived.Test.YtjaodjlgnclkhaaA49
namespace Go.Proofs.Ytjaodjlgnclkhaa
open Go.RowKit Go.Shelf

theorem oneU (w : World) : (isAgg 5).run Try.prog w = .ok false w := by kernel_rfl
theorem exec_m2 {o : Oper} {w : World} {ev : Operand → Value} (k d : Int) (x : Operand) (ho : o.op = .build 23 #[(0, .const (.int .u8 k)), (1, x)]) (hc : ∀ v, ev (.const v) = v) (hx : ev x = .int .u8 d) : (execOp ev o).run Try.prog w = .ok (.value (.agg (M6.vals ⟨k, d, 0, 0, 0, 0⟩).toArray)) w := by
  unfold execOp
  rw [ho]
  simp only [List.map_toArray, List.map_cons, List.map_nil, hc, hx]
  kernel_rfl
theorem exec_arO {o : Oper} {w : World} {ev : Operand → Value} (x y z : Operand) (m0 m1 m2 m3 m4 m5 i0 i1 i2 i3 j0 j1 j2 j3 : Int) (ho : o.op = .build 27 #[(0, .const (.bool true)), (1, x), (2, y), (4, z)]) (hx : ev x = .agg #[.int .u8 m0, .int .u8 m1, .int .u8 m2, .int .u8 m3, .int .u8 m4, .int .u8 m5]) (hy : ev y = .agg #[.int .u8 i0, .int .u8 i1, .int .u8 i2, .int .u8 i3]) (hz : ev z = .agg #[.int .u8 j0, .int .u8 j1, .int .u8 j2, .int .u8 j3]) (hc : ∀ v, ev (.const v) = v) :
    (execOp ev o).run Try.prog w = .ok (.value (.agg (Ar.vals ⟨true, ⟨m0, m1, m2, m3, m4, m5⟩, ⟨i0, i1, i2, i3⟩, zM, ⟨j0, j1, j2, j3⟩⟩).toArray)) w := by
  unfold execOp
  rw [ho]
  simp only [List.map_toArray, List.map_cons, List.map_nil, hx, hy, hz, hc]
  kernel_rfl
theorem exec_gei {o : Oper} {w : World} {ev : Operand → Value} (x y : Operand) (t : TypeId) (a b : Int) (r : Bool) (ho : o.op = .binOp .geq 3 x y t) (hx : ev x = .int .i64 a) (hy : ev y = .int .i64 b) (hr : decide (b ≤ a) = r) : (execOp ev o).run Try.prog w = .ok (.value (.bool r)) w := by
  unfold execOp
  simp [ho, hx, hy, go_sem, hr]
theorem exec_neb {o : Oper} {w : World} {ev : Operand → Value} (x y : Operand) (t : TypeId) (a : Int) (ho : o.op = .binOp .neq 5 x y t) (hx : ev x = .int .u8 a) (hy : ev y = .int .u8 a) : (execOp ev o).run Try.prog w = .ok (.value (.bool false)) w := by
  unfold execOp
  simp [ho, hx, hy, go_sem]
theorem exec_ixW {o : Oper} {w : World} {ev : Operand → Value} (x y : Operand) (g : Nat) (k : Nat) (ho : o.op = .indexAddr 50 x y) (hx : ev x = .pointer (some ⟨g, 0, none⟩)) (hy : ev y = .int .i64 (k : Int)) (hk : k < 200) : (execOp ev o).run Try.prog w = .ok (.value (.pointer (some ⟨g, k, none⟩))) w := by
  have hki : (k : Int) < 200 := by omega
  unfold execOp
  simp [ho, hx, hy, go_sem, hki]
section
variable {n0 : Nat} {w0 W W' : World} {c sw sn st : Nat} {L L' : List Nb} {WH WN : Nat → Int} {TD : Nat → Bool} {ρ ρ' : Nat → Role}
/-- a block that is new is the law's own -/
theorem Oq.fresh (h : Oq n0 w0 c sw sn st L WH WN TD ρ W) {g : Nat} (hg : W.heap.size ≤ g) : Own n0 sw sn st ρ g := by
  have ⟨l1, l2, l3⟩ := h.l
  have := h.sz
  exact ⟨by omega, h.fit g hg, by omega, by omega, by omega⟩
/-- a row of numbers, where a new block is laid and filled -/
theorem row_lay {O : Nat → Prop} {v : Value} {G : List Int} (hr : RowN O W v G) (b : Below W.heap.size W W') {s : Nat} (hs : W.heap.size ≤ s) (vs : List Value) : RowN O (W'.setCells s 0 vs) v G := by
  have hr1 : RowN (fun g => O g ∧ g < W.heap.size) W v G := hr.own (fun g hg e => ⟨e, hg⟩)
  exact ((hr1.later b).but (But.cells s vs 0 W') (fun g e e2 => by have e2 : g = s := e2; have := e.2; omega)).own (fun _ _ e => e.1)
/-- what an append of one's own rows leaves -/
theorem Oq.appd (h : Oq n0 w0 c sw sn st L WH WN TD ρ W) {v x : Value} {G M : List Int} (hG : RowN (Own n0 sw sn st ρ) W v G) (hM : RowN (Own n0 sw sn st ρ) W x M) (hl : G.length + M.length ≤ 8796093022208) :
    ∃ a' c' w2, (Builtin.append_ #[54, 54] 54 #[v, x]).run Try.prog W = .ok (.slice a' (G ++ M).length c') w2 ∧ RowN (Own n0 sw sn st ρ) w2 (.slice a' (G ++ M).length c') (G ++ M) ∧ Oq n0 w0 c sw sn st L WH WN TD ρ w2 := by
  obtain ⟨a', c', w2, hrun, hR, hb⟩ := hG.app hM hl
  exact ⟨a', c', w2, hrun, hR.own (fun g _ e => e.elim id (fun e => h.fresh e.1)), h.off hb (fun g _ e => e)⟩
theorem Oq.rowW (_ : Oq n0 w0 c sw sn st L WH WN TD ρ W) {v : Value} {G : List Int} (hG : RowN (Own n0 sw sn st ρ) W v G) (q : Nat) (u : Value) : RowN (Own n0 sw sn st ρ) (W.setCell ⟨sw, q, none⟩ u) v G ∧ RowN (Own n0 sw sn st ρ) (W.setCell ⟨sn, q, none⟩ u) v G ∧ RowN (Own n0 sw sn st ρ) (W.setCell ⟨st, q, none⟩ u) v G :=
  ⟨hG.but (K := Only sw) (But.cellb (K := Only sw) (b := sw) (But.refl _ _) rfl q _) (fun _ e e2 => e.2.2.1 e2), hG.but (K := Only sn) (But.cellb (K := Only sn) (b := sn) (But.refl _ _) rfl q _) (fun _ e e2 => e.2.2.2.1 e2), hG.but (K := Only st) (But.cellb (K := Only st) (b := st) (But.refl _ _) rfl q _) (fun _ e e2 => e.2.2.2.2 e2)⟩
/-- a new block is filled -/
theorem Oq.lay (h : Oq n0 w0 c sw sn st L WH WN TD ρ W) (b : Below W.heap.size W W') {s : Nat} (hs : W.heap.size ≤ s) (vs : List Value) : Oq n0 w0 c sw sn st L WH WN TD ρ (W'.setCells s 0 vs) :=
  (h.later b).off (K := Only s) (But.cells s vs 0 W') (fun g _ e => by have e : g = s := e; rw [e]; exact h.fresh hs)
end
theorem OnM.tlen {len : Nat} {now : Int} {n : Nat} {WH WN : Nat → Int} {TD : Nat → Bool} {L : List Nb} {T : List Int} (h : OnM len now n WH WN TD L T) : T.length ≤ n := by
  have hm : (T.map Int.toNat).Nodup := by
    unfold List.Nodup
    rw [List.pairwise_map]
    refine h.tn.imp_of_mem (fun {x y} hx hy hne e => hne ?_)
    obtain ⟨q, e1, _⟩ := h.t x hx
    obtain ⟨q', e2, _⟩ := h.t y hy
    omega
  have := nodup_lt n _ hm (fun q hq => by
    obtain ⟨x, hx, rfl⟩ := List.mem_map.1 hq
    obtain ⟨q, e1, e2, _⟩ := h.t x hx
    omega)
  simpa using this
end Go.Proofs.Ytjaodjlgnclkhaa
