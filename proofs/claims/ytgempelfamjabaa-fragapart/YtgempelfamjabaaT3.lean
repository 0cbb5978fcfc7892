
/-
  Package icmp: read.
-/
import Derived.Test.YtgempelfamjabaaT2
namespace Go.Proofs.Ytgempelfamjabaa
open Go.RowKit Go.Shelf

/-- the zero message -/
def zIm : List Value := imL 0 0 0 0 0 (.slice none 0 0)
def rdS (bs : List Int) : Int := if ech (nb bs 0) = true then w16 bs 6 else 0
def rdU (bs : List Int) : Int := if ech (nb bs 0) = true then 0 else w16 bs 6
theorem im_one (t c i s u : Int) (a : Option Addr) (n k : Nat) : ∀ x ∈ imL t c i s u (.slice a n k), x.oneCell' = true := by
  intro x hx
  simp only [imL, List.mem_cons, List.not_mem_nil, or_false] at hx
  rcases hx with rfl | rfl | rfl | rfl | rfl | rfl <;> rfl
section
variable {o : Oper} {w : World} {ev : Operand → Value}
end
/-- a new variable of type T -/
def BoxT (T : TypeId) (n0 : Nat) (W : World) (v : Value) (vs : List Value) : Prop := ∃ s, v = .pointer (some ⟨s, 0, none⟩) ∧ n0 ≤ s ∧ s < W.heap.size ∧ CellsAt W s 0 vs ∧ (∀ y, W.frozen? ⟨s, y, none⟩ = false) ∧ W.heap[s]? = some (.cells vs.toArray T (0, 0))
theorem BoxT.later {T : TypeId} {n0 : Nat} {W W' : World} {v : Value} {vs : List Value} (h : BoxT T n0 W v vs) (hb : Below W.heap.size W W') : BoxT T n0 W' v vs := by
  obtain ⟨s, e, h1, h2, h3, h4, h5⟩ := h
  exact ⟨s, e, h1, Nat.lt_of_lt_of_le h2 hb.size, h3.later h2 hb, fun y => (hb.frozen (p := ⟨s, y, none⟩) h2).trans (h4 y), by rw [hb.block s h2]; exact h5⟩
theorem Gro.apartT {T : TypeId} {B : Nat} {W : World} {v : Value} {bs : List Int} {vs : List Value} {s : Nat} (h : Gro B W v bs) (hT : T ≠ 5) (hb : W.heap[s]? = some (.cells vs.toArray T (0, 0))) : ∀ g x y, v = .slice (some ⟨g, 0, none⟩) x y → g ≠ s := by
  intro g x y e e2
  subst e2
  obtain ⟨_, ⟨h2, _⟩ | ⟨g', cap, cur, e', _, hh, _⟩⟩ := h
  · rw [e] at h2; cases h2
  · rw [e] at e'
    cases e'
    rw [hb] at hh
    cases hh
    exact hT rfl
end Go.Proofs.Ytgempelfamjabaa
