
/-
  A drawn region: two calls, one behind the other, and a new variable, in whichever order.
-/
import Derived.Test.YtlfacppkgamkgaaM9
namespace Go.Proofs.Ytlfacppkgamkgaa
open Go.RowKit Go.Shelf

theorem put_comm (a : Act) (d e : Tmp) (u v : Value) (h : d ≠ e) : (a.put (some d) u).put (some e) v = (a.put (some e) v).put (some d) u := by
  simp only [Act.put]
  congr 1
  exact Array.setIfInBounds_comm _ _ h
/-- the new variable at s, as it begins -/
structure Fresh (n0 : Nat) (w : World) (Z : List Value) (s : Nat) (W : World) : Prop where
  bel : Below n0 w W
  lo : n0 ≤ s
  hi : s < W.heap.size
  at_ : CellsAt W s 0 Z
  fz : ∀ y, W.frozen? ⟨s, y, none⟩ = false
theorem Fresh.later {n0 : Nat} {w : World} {Z : List Value} {s : Nat} {W W' : World} (h : Fresh n0 w Z s W) (hb : Below W.heap.size W W') : Fresh n0 w Z s W' :=
  ⟨h.bel.trans (hb.mono (Nat.le_of_lt (Nat.lt_of_le_of_lt h.lo h.hi))), h.lo, Nat.lt_of_lt_of_le h.hi hb.size, h.at_.later h.hi hb, fun y => (hb.frozen (p := ⟨s, y, none⟩) h.hi).trans (h.fz y)⟩
section
variable {ops : Array Oper} {Q : Exit → Act → World → Prop} {md : Region.Mode} {S : World → Prop}
theorem call_step {i : Nat} {o : Oper} {d : Tmp} {fuel : Nat} {listed : Array Bool} {a : Act} {w : World} {v : Value} (F : FuncId) (vals : Array Value) (hi : ops[i]? = some o) (hd : o.dst = some d) (hw : Region.wanted o (yielded ops a.tmps) = true) (hrun : (execOp a.eval o).run Try.prog w = .ok (.enter F vals) w)
    (hC : Calls Try.prog F vals w fun e w' => e = .returned v ∧ Below w.heap.size w w') (h : ∀ w', Below w.heap.size w w' → S w' ∧ wpAnyH Try.prog md ops Q S fuel (listed.setIfInBounds i true) (a.put (some d) v) w') :
    Go.wpOp Try.prog ops Q i (fun a' w' => S w' ∧ wpAnyH Try.prog md ops Q S fuel (listed.setIfInBounds i true) a' w') a w := by
  unfold Go.wpOp
  simp only [hi, hw, if_true, Oper.wp, hrun, Oper.upon, hd]
  refine .inl (hC.mono ?_)
  rintro _ w2 ⟨rfl, hb⟩
  exact h w2 hb
theorem val_step {i : Nat} {o : Oper} {d : Tmp} {fuel : Nat} {listed : Array Bool} {a : Act} {w w' : World} {v : Value} (hi : ops[i]? = some o) (hd : o.dst = some d) (hw : Region.wanted o (yielded ops a.tmps) = true) (hrun : (execOp a.eval o).run Try.prog w = .ok (.value v) w')
    (h : S w' ∧ wpAnyH Try.prog md ops Q S fuel (listed.setIfInBounds i true) (a.put (some d) v) w') :
    Go.wpOp Try.prog ops Q i (fun a' w' => S w' ∧ wpAnyH Try.prog md ops Q S fuel (listed.setIfInBounds i true) a' w') a w := by
  unfold Go.wpOp
  simp only [hi, hw, if_true, Oper.wp, hrun, Oper.upon, hd]
  exact .inl h
end
/-- ways that part and meet again -/
theorem join {G : Prop} {C : Nat → World → Prop} (P : Nat → World → Prop) (main : (∀ s W, C s W → P s W) → G) (rest : ∀ s W, C s W → P s W) : G := main rest
end Go.Proofs.Ytlfacppkgamkgaa
