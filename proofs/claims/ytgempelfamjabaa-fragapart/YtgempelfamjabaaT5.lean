
/-
  Package icmp: the bucket.
-/
import Derived.Test.YtgempelfamjabaaT4
namespace Go.Proofs.Ytgempelfamjabaa
open Go.RowKit Go.Shelf

/-- a bucket in numbers -/
structure Bk where
  left : Int
  since : Int
  now : Int
  deriving DecidableEq
def Bk.cells (x : Bk) : List Value := [.int .i64 x.left, .int .i64 x.since, .int .i64 x.now]
/-- a bucket in memory -/
structure BkAt (W : World) (b : Nat) (x : Bk) : Prop where
  cs : CellsAt W b 0 x.cells
  fz : ∀ y, W.frozen? ⟨b, y, none⟩ = false
theorem BkAt.lt {W : World} {b : Nat} {x : Bk} (h : BkAt W b x) : b < W.heap.size := h.cs.lt (by simp [Bk.cells])
theorem BkAt.but {K : Nat → Prop} {W W' : World} {b : Nat} {x : Bk} (h : BkAt W b x) (hb : But K W W') (hk : ¬ K b) : BkAt W' b x :=
  ⟨h.cs.but h.lt hb hk, fun y => (hb.frozen (p := ⟨b, y, none⟩) h.lt hk).trans (h.fz y)⟩
theorem BkAt.later {W W' : World} {b : Nat} {x : Bk} (h : BkAt W b x) (hb : Below W.heap.size W W') : BkAt W' b x := h.but (K := fun _ => False) (But.of_below hb) id
theorem BkAt.c0 {W : World} {b : Nat} {x : Bk} (h : BkAt W b x) : W.cell? ⟨b, 0, none⟩ = some (.int .i64 x.left) := h.cs 0 _ rfl
theorem BkAt.c1 {W : World} {b : Nat} {x : Bk} (h : BkAt W b x) : W.cell? ⟨b, 1, none⟩ = some (.int .i64 x.since) := h.cs 1 _ rfl
theorem BkAt.c2 {W : World} {b : Nat} {x : Bk} (h : BkAt W b x) : W.cell? ⟨b, 2, none⟩ = some (.int .i64 x.now) := h.cs 2 _ rfl
theorem BkAt.of {W : World} {b : Nat} {x : Bk} (h0 : W.cell? ⟨b, 0, none⟩ = some (.int .i64 x.left)) (h1 : W.cell? ⟨b, 1, none⟩ = some (.int .i64 x.since)) (h2 : W.cell? ⟨b, 2, none⟩ = some (.int .i64 x.now)) (hf : ∀ y, W.frozen? ⟨b, y, none⟩ = false) : BkAt W b x := by
  refine ⟨fun j v hv => ?_, hf⟩
  rw [Nat.zero_add]
  rcases j with _ | _ | _ | j
  · cases hv; exact h0
  · cases hv; exact h1
  · cases hv; exact h2
  · cases hv
theorem BkAt.set0 {W : World} {b : Nat} {x : Bk} (h : BkAt W b x) (v : Int) : BkAt (W.setCell ⟨b, 0, none⟩ (.int .i64 v)) b { x with left := v } :=
  .of (World.cell?_setCell_same _ _ _ h.c0) (by rw [setCell_out (by decide)]; exact h.c1) (by rw [setCell_out (by decide)]; exact h.c2) (fun y => by rw [World.frozen?_setCell]; exact h.fz y)
theorem BkAt.set1 {W : World} {b : Nat} {x : Bk} (h : BkAt W b x) (v : Int) : BkAt (W.setCell ⟨b, 1, none⟩ (.int .i64 v)) b { x with since := v } :=
  .of (by rw [setCell_out (by decide)]; exact h.c0) (World.cell?_setCell_same _ _ _ h.c1) (by rw [setCell_out (by decide)]; exact h.c2) (fun y => by rw [World.frozen?_setCell]; exact h.fz y)
theorem BkAt.set2 {W : World} {b : Nat} {x : Bk} (h : BkAt W b x) (v : Int) : BkAt (W.setCell ⟨b, 2, none⟩ (.int .i64 v)) b { x with now := v } :=
  .of (by rw [setCell_out (by decide)]; exact h.c0) (by rw [setCell_out (by decide)]; exact h.c1) (World.cell?_setCell_same _ _ _ h.c2) (fun y => by rw [World.frozen?_setCell]; exact h.fz y)
/-- what holds of its numbers -/
structure Bk.Ok (x : Bk) : Prop where
  l0 : 0 ≤ x.left
  l4 : x.left ≤ 4
  sn : x.since ≤ x.now
  s0 : -1152921504606846976 ≤ x.since
  n1 : x.now ≤ 1152921504606846976
/-- how many there are at a tick -/
def Bk.lf (x : Bk) (t : Int) : Bk :=
  if 4 - x.left ≤ (max x.now t - x.since) / 2 then ⟨4, x.since, max x.now t⟩ else ⟨x.left + (max x.now t - x.since) / 2, x.since + (max x.now t - x.since) / 2 * 2, max x.now t⟩
theorem Bk.Ok.lf {x : Bk} (h : x.Ok) {t : Int} (ht : t ≤ 1152921504606846976) : (x.lf t).Ok := by
  obtain ⟨h1, h2, h3, h4, h5⟩ := h
  unfold Bk.lf
  split
  · exact ⟨by show (0 : Int) ≤ 4; decide, by show (4 : Int) ≤ 4; decide, by show x.since ≤ max x.now t; omega, h4, by show max x.now t ≤ _; omega⟩
  · rename_i hn
    exact ⟨by show 0 ≤ x.left + _; omega, by show x.left + _ ≤ 4; omega, by show x.since + _ ≤ max x.now t; omega, by show _ ≤ x.since + _; omega, by show max x.now t ≤ _; omega⟩
def Bk.tkE (x : Bk) (t : Int) : Int := if (x.lf t).left = 0 then 120 else 0
def Bk.tk (x : Bk) (t : Int) : Bk := if (x.lf t).left = 0 then x.lf t else if (x.lf t).left = 4 then ⟨3, (x.lf t).now, (x.lf t).now⟩ else ⟨(x.lf t).left - 1, (x.lf t).since, (x.lf t).now⟩
theorem Bk.Ok.tk {x : Bk} (h : x.Ok) {t : Int} (ht : t ≤ 1152921504606846976) : (x.tk t).Ok := by
  have k := h.lf ht
  obtain ⟨h1, h2, h3, h4, h5⟩ := k
  unfold Bk.tk
  split
  · exact ⟨h1, h2, h3, h4, h5⟩
  · split
    · exact ⟨by show (0 : Int) ≤ 3; decide, by show (3 : Int) ≤ 4; decide, Int.le_refl _, by show _ ≤ (x.lf t).now; omega, h5⟩
    · exact ⟨by show 0 ≤ (x.lf t).left - 1; omega, by show (x.lf t).left - 1 ≤ 4; omega, h3, h4, h5⟩
section
variable {o : Oper} {w : World} {ev : Operand → Value}
theorem exec_cvU (x : Operand) (k : Int) (ho : o.op = .convert 3 97 x) (hx : ev x = .int .i64 k) : (execOp ev o).run Try.prog w = .ok (.value (.int .u64 (IntKind.u64.wrap k))) w := by
  unfold execOp
  simp [ho, hx, go_sem]
theorem exec_subU (x y : Operand) (t : TypeId) (a b r : Int) (ho : o.op = .binOp .sub 97 x y t) (hx : ev x = .int .u64 a) (hy : ev y = .int .u64 b) (hr : IntKind.u64.wrap (a - b) = r) : (execOp ev o).run Try.prog w = .ok (.value (.int .u64 r)) w := by
  unfold execOp
  simp [ho, hx, hy, go_sem, hr]
theorem exec_quoU (x : Operand) (t : TypeId) (a r : Int) (ho : o.op = .binOp .quo 97 x (.const (.int .u64 2)) t) (hc : ∀ v, ev (.const v) = v) (hx : ev x = .int .u64 a) (h0 : 0 ≤ a) (hr : a / 2 = r) (h1 : a < 18446744073709551616) : (execOp ev o).run Try.prog w = .ok (.value (.int .u64 r)) w := by
  have e : a.tdiv 2 = r := by rw [Int.tdiv_eq_ediv_of_nonneg h0]; exact hr
  have e2 : IntKind.u64.wrap r = r := by simp [IntKind.wrap, IntKind.bits, IntKind.signed]; omega
  unfold execOp
  simp [ho, hx, hc, go_sem, e, e2]
end
theorem wrapU (x : Int) : IntKind.u64.wrap x = x % 18446744073709551616 := by simp [IntKind.wrap, IntKind.bits, IntKind.signed]
end Go.Proofs.Ytgempelfamjabaa
