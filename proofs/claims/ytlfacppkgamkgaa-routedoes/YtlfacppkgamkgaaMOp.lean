
/-
  Slices that came in: of numbers, of calls.
-/
import Derived.Test.YtlfacppkgamkgaaM20
namespace Go.Proofs.Ytlfacppkgamkgaa
open Go.RowKit

/-- THE SLICE VALUE v HOLDS THE NUMBERS l, all of it below n₀ -/
def IsI (n₀ : Nat) (W : World) (v : Value) (l : List Int) : Prop :=
  ∃ a cap, v = .slice a l.length cap ∧ (0 < l.length → ∃ g off, a = some ⟨g, off, none⟩ ∧ g < n₀ ∧ ∀ i o, l[i]? = some o → W.cell? ⟨g, off + i, none⟩ = some (.int .i64 o))
theorem IsI.below {n₀ : Nat} {W W' : World} {v : Value} {l : List Int} (h : IsI n₀ W v l) (hb : Below n₀ W W') : IsI n₀ W' v l := by
  obtain ⟨a, cap, e, hc⟩ := h
  refine ⟨a, cap, e, fun h0 => ?_⟩
  obtain ⟨g, off, e1, hg, hcs⟩ := hc h0
  exact ⟨g, off, e1, hg, fun i o hi => (hb.cell (p := ⟨g, off + i, none⟩) hg).trans (hcs i o hi)⟩
/-- a call -/
structure OpR where
  kind : Int
  w : Wy
instance : Inhabited OpR := ⟨⟨0, zWy⟩⟩
instance : Inhabited Wy := ⟨zWy⟩
def OpR.cells (o : OpR) : List Value := .int .i64 o.kind :: o.w.cells
structure OpR.Ok (o : OpR) : Prop where
  w : o.w.Ok
def IsO (n₀ : Nat) (W : World) (v : Value) (l : List OpR) : Prop :=
  ∃ a cap, v = .slice a l.length cap ∧ (0 < l.length → ∃ g off, a = some ⟨g, off, none⟩ ∧ g < n₀ ∧ ∀ i o, l[i]? = some o → CellsAt W g (off + i * 11) o.cells) ∧ ∀ o ∈ l, o.Ok
end Go.Proofs.Ytlfacppkgamkgaa
