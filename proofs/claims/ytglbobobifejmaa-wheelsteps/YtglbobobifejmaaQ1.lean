
/-
  byTick; insertionSortCmpFunc.
-/
import Derived.Test.YtglbobobifejmaaQ0
namespace Go.Proofs.Ytglbobobifejmaa
open Go.RowKit

def cm (x y : Int) : Int := if x < y then -1 else if y < x then 1 else 0
theorem cm_neg {x y : Int} : cm x y < 0 ↔ x < y := by
  unfold cm; split
  · omega
  · split <;> omega

set_option maxRecDepth 100000 in
theorem isNaN_any (x : Int) (w : World) : Calls Try.prog 41 #[.int .i64 x] w fun e w' => e = .returned (.bool false) ∧ w' = w := by
  go_enter Try.func41, Try.ntmps41
  go_wp2
  go_ret
  exact ⟨rfl, rfl⟩
set_option maxRecDepth 100000 in
theorem Compare_any (x y : Int) (w : World) : Calls Try.prog 36 #[.int .i64 x, .int .i64 y] w fun e w' => e = .returned (.int .i64 (cm x y)) ∧ w' = w := by
  have X := hide (isNaN_any x w)
  have Y := hide (isNaN_any y w)
  unfold cm
  by_cases h1 : x < y
  · rw [if_pos h1]
    go_enter Try.func36, Try.ntmps36
    go_wp2_with fail
    refine X.out.mono ?_
    rintro e w' ⟨rfl, hw⟩
    subst hw
    go_wp2_with fail
    refine Y.out.mono ?_
    rintro e w' ⟨rfl, hw⟩
    subst hw
    go_wp2
    go_ret
    exact ⟨rfl, rfl⟩
  · by_cases h2 : y < x
    · rw [if_neg h1, if_pos h2]
      go_enter Try.func36, Try.ntmps36
      go_wp2_with fail
      refine X.out.mono ?_
      rintro e w' ⟨rfl, hw⟩
      subst hw
      go_wp2_with fail
      refine Y.out.mono ?_
      rintro e w' ⟨rfl, hw⟩
      subst hw
      go_wp2
      go_ret
      exact ⟨rfl, rfl⟩
    · rw [if_neg h1, if_neg h2]
      have h3 : x = y := by omega
      subst h3
      clear h1 h2
      go_enter Try.func36, Try.ntmps36
      go_wp2_with fail
      refine X.out.mono ?_
      rintro e w' ⟨rfl, hw⟩
      subst hw
      go_wp2_with fail
      refine Y.out.mono ?_
      rintro e w' ⟨rfl, hw⟩
      subst hw
      go_wp2
      go_ret
      exact ⟨rfl, rfl⟩
set_option maxRecDepth 100000 in
theorem byTick_any (xi xt yi yt : Int) (w : World) : Calls Try.prog 30 #[.agg #[.int .i64 xi, .int .i64 xt], .agg #[.int .i64 yi, .int .i64 yt]] w fun e w' => e = .returned (.int .i64 (cm xt yt)) ∧ Below w.heap.size w w' := by
  have B2 : Hid (Below w.heap.size w ((w.alloc (.cells #[.int .i64 xi, .int .i64 xt] 49)).alloc (.cells #[.int .i64 yi, .int .i64 yt] 49))) := ((Below.refl _ _).alloc (Nat.le_refl _) _).alloc (by simp) _
  go_enter Try.func30, Try.ntmps30
  go_wp2_with fail
  refine (Compare_any xt yt _).mono ?_
  rintro e w' ⟨rfl, hw⟩
  subst hw
  go_wp2
  go_ret
  exact ⟨rfl, B2.out⟩
end Go.Proofs.Ytglbobobifejmaa
