
/-
  Package ip4: the contracts of sizeOf, areNoughts, options.
-/
import Derived.Test.YtgempelfamjabaaI4
namespace Go.Proofs.Ytgempelfamjabaa
open Go.RowKit Go.Shelf
attribute [local go_sem] Oper.semAt_some

/-- how many bytes belong to the option that they begin with -/
def szO (b : List Int) : Nat := if b[0]?.getD 0 = 0 then b.length else if b[0]?.getD 0 = 1 then 1 else if b.length < 2 then 0 else if b[1]?.getD 0 < 2 ∨ (b.length : Int) < b[1]?.getD 0 then 0 else (b[1]?.getD 0).toNat
theorem szO_le (b : List Int) (h : 0 < b.length) : szO b ≤ b.length := by
  unfold szO
  split
  · omega
  · split
    · omega
    · split
      · omega
      · split
        · omega
        · omega
/-- are options right? -/
def okO (b : List Int) : Bool :=
  if h : b.length = 0 then true else if b[0]?.getD 0 = 0 then b.all (fun x => decide (x = 0)) else if _hz : szO b = 0 then false else okO (b.drop (szO b))
termination_by b.length
decreasing_by
  rw [List.length_drop]
  omega
theorem okO_nil : okO [] = true := by rw [okO]; simp

end Go.Proofs.Ytgempelfamjabaa
