
/-
  A slice of calls.
-/
import Derived.Test.YtglbobobifejmaaQFull
namespace Go.Proofs.Ytglbobobifejmaa
open Go.RowKit

structure OpW where
  kind : Int
  id : Int
  at_ : Int
  near : Bool
instance : Inhabited OpW := ⟨⟨0, 0, 0, false⟩⟩
/-- THE SLICE VALUE v HOLDS THE CALLS l, all of it below n₀ -/
def IsO (n₀ : Nat) (W : World) (v : Value) (l : List OpW) : Prop :=
  ∃ a cap, v = .slice a l.length cap ∧ (0 < l.length → ∃ g off, a = some ⟨g, off, none⟩ ∧ g < n₀ ∧ ∀ i o, l[i]? = some o →
      W.cell? ⟨g, off + i * 4, none⟩ = some (.int .i64 o.kind) ∧ W.cell? ⟨g, off + i * 4 + 1, none⟩ = some (.int .i64 o.id) ∧ W.cell? ⟨g, off + i * 4 + 2, none⟩ = some (.int .i64 o.at_) ∧ W.cell? ⟨g, off + i * 4 + 3, none⟩ = some (.bool o.near)) ∧
    ∀ o ∈ l, (-9223372036854775808 ≤ o.kind ∧ o.kind ≤ 9223372036854775807) ∧ (-9223372036854775808 ≤ o.id ∧ o.id ≤ 9223372036854775807) ∧ (-9223372036854775808 ≤ o.at_ ∧ o.at_ ≤ 9223372036854775807)
theorem IsO.below {n₀ : Nat} {W W' : World} {v : Value} {l : List OpW} (h : IsO n₀ W v l) (hb : Below n₀ W W') : IsO n₀ W' v l := by
  obtain ⟨a, cap, e, hc, hf⟩ := h
  refine ⟨a, cap, e, fun h0 => ?_, hf⟩
  obtain ⟨g, off, e1, hg, hcs⟩ := hc h0
  have key : ∀ k, W'.cell? ⟨g, k, none⟩ = W.cell? ⟨g, k, none⟩ := fun k => hb.cell (p := ⟨g, k, none⟩) hg
  refine ⟨g, off, e1, hg, fun i o hi => ?_⟩
  obtain ⟨q0, q1, q2, q3⟩ := hcs i o hi
  exact ⟨(key _).trans q0, (key _).trans q1, (key _).trans q2, (key _).trans q3⟩
end Go.Proofs.Ytglbobobifejmaa
