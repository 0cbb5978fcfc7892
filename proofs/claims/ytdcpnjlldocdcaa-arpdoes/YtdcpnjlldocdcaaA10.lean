
/-
  Package arp: the contracts of isOfMany and headOf.
-/
import Derived.Test.YtdcpnjlldocdcaaA9
namespace Go.Proofs.Ytdcpnjlldocdcaa
open Go.RowKit

theorem beq_dec (a b : Int) : (a == b) = decide (a = b) := by rw [Bool.eq_iff_iff]; simp
theorem isOfMany_any (m : M6) (w : World) (h0 : 0 ≤ m.a) (h1 : m.a ≤ 255) : Calls Try.prog 23 #[m.val] w fun e w' => e = .returned (.bool (decide (m.a % 2 = 1))) ∧ Below w.heap.size w w' := by
  obtain ⟨a, b, c, d, e, f⟩ := m
  simp only [M6.val] at h0 h1 ⊢
  go_enter Try.func23, Try.ntmps23
  go_wp2
  go_ret
  exact ⟨by rw [← beq_dec]; rfl, (Below.refl _ w).alloc (Nat.le_refl _) _⟩

/-- the four words ahead of the addresses -/
def hdV (ans : Bool) : Value := .agg #[.int .i64 1, .int .i64 2048, .int .i64 1540, .int .i64 (if ans = true then 2 else 1)]
theorem headOf_any (ans : Bool) (w : World) : Calls Try.prog 24 #[.bool ans] w fun e w' => e = .returned (hdV ans) ∧ Below w.heap.size w w' := by
  cases ans
  · go_enter Try.func24, Try.ntmps24
    go_wp2
    refine bodyPost_ret (v := hdV false) (by simp [results, asAddr, go_sem, hdV]) rfl ?_
    exact ⟨rfl, (Below.refl _ w).alloc (Nat.le_refl _) _⟩
  · go_enter Try.func24, Try.ntmps24
    go_wp2
    refine bodyPost_ret (v := hdV true) (by simp [results, asAddr, go_sem, hdV]) rfl ?_
    exact ⟨rfl, (Below.refl _ w).alloc (Nat.le_refl _) _⟩
end Go.Proofs.Ytdcpnjlldocdcaa
