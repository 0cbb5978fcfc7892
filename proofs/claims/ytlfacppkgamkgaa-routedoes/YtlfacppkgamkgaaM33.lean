
/-
  Both tables in one memory: what a call of either leaves.
-/
import Derived.Test.YtlfacppkgamkgaaM30
import Derived.Test.YtlfacppkgamkgaaM32
import Derived.Test.YtlfacppkgamkgaaMOp
namespace Go.Proofs.Ytlfacppkgamkgaa
open Go.RowKit Go.Shelf

/-- both tables, and the way x in the variable u -/
structure Du (w : World) (rb q u : Nat) (x : Wy) (ws1 ws2 : List Wy) (N : Int) (W : World) : Prop where
  rt : Rt W (rb + 1) rb ws1 N
  rf : RfR W q ws2
  cu : CellsAt W u 0 x.cells
  bel : Below w.heap.size w W
  n0 : w.heap.size ≤ rb
  rq : rb + 1 < q
  ru : rb + 1 < u
  nu : q ≠ u
section
variable {w : World} {rb q u : Nat} {x : Wy} {ws1 ws2 : List Wy} {N : Int} {W W' : World}
theorem Du.ul (h : Du w rb q u x ws1 ws2 N W) : u < W.heap.size := h.cu.lt (by simp [Wy.cells, I4.vals])
theorem Du.later (h : Du w rb q u x ws1 ws2 N W) (hb : Below W.heap.size W W') : Du w rb q u x ws1 ws2 N W' :=
  ⟨h.rt.later hb, h.rf.later hb, h.cu.later h.ul hb, Go.Proofs.Ytlfacppkgamkgaa.later h.bel hb, h.n0, h.rq, h.ru, h.nu⟩
theorem Du.addP (h : Du w rb q u x ws1 ws2 N W) (hx : x.Ok) (hN : N ≤ 4611686018427387904) : Calls Try.prog 8 #[.pointer (some ⟨rb + 1, 0, none⟩), .agg x.cells.toArray] W fun e W' => ∃ v, e = .returned v ∧ v = .int .i64 (adE ws1 x) ∧ Du w rb q u x (adL ws1 x) ws2 (N + 1) W' ∧ (Tl W q u ws2 → Tl W' q u ws2) := by
  refine (Add_any x hx h.rt hN).mono ?_
  rintro _ W' ⟨rfl, h1, h2⟩
  have hq := h.rq
  have hu := h.ru
  refine ⟨_, rfl, rfl, ⟨h1, h.rf.but h2 (fun g hg _ e => by rcases e with e | e <;> omega), h.cu.but h.ul h2 (fun e => by rcases e with e | e <;> omega), h.bel.trans (h2.below h.bel.size (fun g hg e => by have := h.n0; rcases e with e | e <;> omega)), h.n0, h.rq, h.ru, h.nu⟩, fun ht => ht.but h2 (fun g hg _ e => by rcases e with e | e <;> omega)⟩
theorem Du.addR (h : Du w rb q u x ws1 ws2 N W) (hx : x.Ok) (ht : Tl W q u ws2) : Calls Try.prog 9 #[.pointer (some ⟨q, 0, none⟩), .agg x.cells.toArray] W fun e W' => ∃ v, e = .returned v ∧ v = .int .i64 (adE ws2 x) ∧ Du w rb q u x ws1 (adL ws2 x) N W' := by
  refine (rAdd_any x hx h.rf ht).mono ?_
  rintro _ W' ⟨rfl, h1, h2⟩
  have hq := h.rq
  have hn := h.n0
  exact ⟨_, rfl, rfl, h.rt.but h2 (fun e => by have := e.1; omega) (fun e => by have := e.1; omega), h1, h.cu.but h.ul h2 (fun e => by have := e.2; omega), h.bel.trans (h2.below h.bel.size (fun g hg e => by have := e.1; omega)), h.n0, h.rq, h.ru, h.nu⟩
theorem Du.dropP (h : Du w rb q u x ws1 ws2 N W) (hx : x.Ok) : Calls Try.prog 10 #[.pointer (some ⟨rb + 1, 0, none⟩), .agg x.net.vals.toArray, .int .i64 x.bits] W fun e W' => ∃ v, e = .returned v ∧ v = .int .i64 (drE ws1 x.net x.bits) ∧ Du w rb q u x (drL ws1 x.net x.bits) ws2 N W' := by
  refine (Drop_any x.net x.bits hx.net h.rt).mono ?_
  rintro _ W' ⟨rfl, h1, h2⟩
  have hq := h.rq
  have hu := h.ru
  exact ⟨_, rfl, rfl, h1, h.rf.but h2 (fun g hg _ e => by rcases e with e | e <;> omega), h.cu.but h.ul h2 (fun e => by rcases e with e | e <;> omega), h.bel.trans (h2.below h.bel.size (fun g hg e => by have := h.n0; rcases e with e | e <;> omega)), h.n0, h.rq, h.ru, h.nu⟩
theorem Du.dropR (h : Du w rb q u x ws1 ws2 N W) : Calls Try.prog 11 #[.pointer (some ⟨q, 0, none⟩), .agg x.net.vals.toArray, .int .i64 x.bits] W fun e W' => ∃ v, e = .returned v ∧ v = .int .i64 (drE ws2 x.net x.bits) ∧ Du w rb q u x ws1 (drL ws2 x.net x.bits) N W' := by
  refine (rDrop_any x.net x.bits h.rf).mono ?_
  rintro _ W' ⟨rfl, h1, h2⟩
  have hq := h.rq
  have hn := h.n0
  have hne := h.nu
  exact ⟨_, rfl, rfl, h.rt.but h2 (fun e => by have e : rb + 1 = q := e; omega) (fun e => by have e : rb = q := e; omega), h1, h.cu.but h.ul h2 (fun e => hne (Eq.symm e)), h.bel.trans (h2.below h.bel.size (fun g hg e => by have e : g = q := e; omega)), h.n0, h.rq, h.ru, h.nu⟩
end
theorem exec_neW {o : Oper} {w : World} {ev : Operand → Value} (x y : Operand) (t : TypeId) (p : Wy) (ho : o.op = .binOp .neq 33 x y t) (hx : ev x = .agg p.cells.toArray) (hy : ev y = .agg p.cells.toArray) : (execOp ev o).run Try.prog w = .ok (.value (.bool false)) w := by
  obtain ⟨⟨a1, a2, a3, a4⟩, k5, ⟨g1, g2, g3, g4⟩, v6⟩ := p
  have EM := eq_ip
  unfold execOp
  simp [ho, hx, hy, go_sem, I4.vals, Wy.cells, EM, eqI]
end Go.Proofs.Ytlfacppkgamkgaa
