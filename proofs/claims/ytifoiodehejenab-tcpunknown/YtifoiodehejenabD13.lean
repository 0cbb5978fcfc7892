
/-
  The document's Diff, Within, Has, Size, First.
-/
import Derived.Test.YtifoiodehejenabD12
namespace Go.Proofs.Ytifoiodehejenab
open Go.RowKit Go.Shelf

theorem tmod_if (n m : Int) : n.tmod m = if 0 ≤ n then n % m else -((-n) % m) := by
  split
  · exact Int.tmod_eq_emod_of_nonneg (by assumption)
  · have e : n = -(-n) := by omega
    rw [e, Int.neg_tmod, Int.tmod_eq_emod_of_nonneg (by omega)]
    simp
theorem hasR (f n : Int) (hf : f = 1 ∨ f = 2 ∨ f = 4 ∨ f = 8 ∨ f = 16) : decide (f ≤ (wrap64 (n.tmod (2 * f) + 2 * f)).tmod (2 * f)) = hasB n f := by
  unfold hasB
  have hb : 0 ≤ n.tmod (2 * f) + 2 * f ∧ n.tmod (2 * f) + 2 * f < 4 * f := by
    rw [tmod_if]
    rcases hf with rfl | rfl | rfl | rfl | rfl <;> split <;> omega
  rw [show wrap64 (n.tmod (2 * f) + 2 * f) = n.tmod (2 * f) + 2 * f by unfold wrap64; rcases hf with rfl | rfl | rfl | rfl | rfl <;> omega, Int.tmod_eq_emod_of_nonneg hb.1, tmod_if]
  rw [decide_eq_decide]
  rcases hf with rfl | rfl | rfl | rfl | rfl <;> split <;> omega
theorem rdif_mod (a b : Int) (a0 : 0 ≤ a ∧ a < 4294967296) (b0 : 0 ≤ b ∧ b < 4294967296) : (wrap64 (wrap64 (a - b) + 4294967296)).tmod 4294967296 = (a - b) % 4294967296 := by
  rw [show wrap64 (a - b) = a - b by unfold wrap64; omega, show wrap64 (a - b + 4294967296) = a - b + 4294967296 by unfold wrap64; omega, Int.tmod_eq_emod_of_nonneg (by omega)]
  omega
end Go.Proofs.Ytifoiodehejenab
