
/-
  rotateCmpFunc.
-/
import Derived.Test.YtglbobobifejmaaQ3
namespace Go.Proofs.Ytglbobobifejmaa
open Go.RowKit

set_option maxRecDepth 100000 in
set_option maxHeartbeats 4000000 in
theorem rotate_any {B g n cap : Nat} {w : World} {f : Nat → Tg} (h : RowT B w g n cap f) (a m b : Nat) (ham : a < m) (hmb : m < b) (hb : b ≤ n) (hn : n ≤ 1000000) :
    Calls Try.prog 43 #[.slice (some ⟨g, 0, none⟩) n cap, .int .i64 (a : Int), .int .i64 (m : Int), .int .i64 (b : Int), .func (.func 30) #[] #[]] w fun e w' => e = .returned (.tuple #[]) ∧ RowT B w' g n cap (rot f a m b) ∧ But (Only g) w w' ∧ Pm a b f (rot f a m b) := by
  have H := hide h
  have z1 : (a : Int) < (m : Int) := by omega
  have z2 : (m : Int) < (b : Int) := by omega
  have z3 : (b : Int) ≤ (n : Int) := by omega
  have z4 : (n : Int) ≤ 1000000 := by omega
  clear h
  go_enter Try.func43, Try.ntmps43
  go_wp2
  go_loopw [10, 11] (fun v u wr => ∃ (i j : Nat) (f1 : Nat → Tg), v = .int .i64 (i : Int) ∧ u = .int .i64 (j : Int) ∧ 1 ≤ i ∧ i ≤ m - a ∧ 1 ≤ j ∧ j ≤ b - m ∧ Hid (rot f1 (m - i) m (m + j) = rot f a m b) ∧ Hid (RowT B wr g n cap f1) ∧ Hid (But (Only g) w wr) ∧ Hid (Pm a b f f1)) (fun v u _ => (intOf v).toNat + (intOf u).toNat)
  case atStart => exact ⟨m - a, b - m, f, by rw [show ((m - a : Nat) : Int) = (m : Int) - (a : Int) by omega], by rw [show ((b - m : Nat) : Int) = (b : Int) - (m : Int) by omega], by omega, by omega, by omega, by omega, by rw [show m - (m - a) = a by omega, show m + (b - m) = b by omega]; exact rfl, H.out, But.refl _ _, Pm.refl _ _ _⟩
  case round =>
    obtain ⟨i, j, f1, rfl, rfl, hi1, hi2, hj1, hj2, hE, hR, hB, hP⟩ := hrel
    clear H
    have zi : (i : Int) ≤ (m : Int) - (a : Int) := by omega
    have zj : (j : Int) ≤ (b : Int) - (m : Int) := by omega
    have zi1 : (1 : Int) ≤ (i : Int) := by omega
    have zj1 : (1 : Int) ≤ (j : Int) := by omega
    have ei : (m : Int) - (i : Int) = ((m - i : Nat) : Int) := by omega
    by_cases e : i = j
    · subst e
      have X := swapRange_any hR.out (m - i) m i (by omega) (by omega) hn
      rw [show ((m - i : Nat) : Int) = (m : Int) - (i : Int) by omega] at X
      rw [rot_eq f1 m i (by omega), hE.out] at X
      have HX := hide X
      have PP : Hid (Pm a b f (rot f a m b)) := by rw [← hE.out, ← rot_eq f1 m i (by omega)]; exact hP.out.trans (swR_pm f1 (by omega) (by omega) (by omega))
      clear X ei
      go_wp2_with fail
      refine HX.out.mono ?_
      rintro e w3 ⟨rfl, hR3, hB3⟩
      have R3 := hide hR3
      have B3 := hide (hB.out.trans hB3)
      clear hR3 hB3
      go_wp2
      go_end0
      exact ⟨rfl, R3.out, B3.out, PP.out⟩
    · by_cases hgt : j < i
      · have zg : (j : Int) < (i : Int) := by omega
        have zne : ¬ (i : Int) = (j : Int) := by omega
        have X := swapRange_any hR.out (m - i) m j (by omega) (by omega) hn
        rw [show ((m - i : Nat) : Int) = (m : Int) - (i : Int) by omega] at X
        have HX := hide X
        have EE : Hid (rot (swR f1 (m - i) m j) (m - (i - j)) m (m + j) = rot f a m b) := (rot_gt f1 m i j (by omega) hgt).trans hE.out
        clear X ei
        go_wp2_with fail
        refine HX.out.mono ?_
        rintro e w3 ⟨rfl, hR3, hB3⟩
        have R3 := hide hR3
        have B3 := hide (hB.out.trans hB3)
        clear hR3 hB3
        go_wp2
        go_roundw
        case rel => exact ⟨i - j, j, _, by rw [show ((i - j : Nat) : Int) = (i : Int) - (j : Int) by omega], rfl, by omega, by omega, by omega, by omega, EE.out, R3.out, B3.out, hP.out.trans (swR_pm f1 (by omega) (by omega) (by omega))⟩
        case measure => simp [intOf]; omega
      · have zg : ¬ (j : Int) < (i : Int) := by omega
        have zne : ¬ (i : Int) = (j : Int) := by omega
        have X := swapRange_any hR.out (m - i) (m + j - i) i (by omega) (by omega) hn
        rw [show ((m - i : Nat) : Int) = (m : Int) - (i : Int) by omega, show ((m + j - i : Nat) : Int) = (m : Int) + (j : Int) - (i : Int) by omega] at X
        have HX := hide X
        have EE : Hid (rot (swR f1 (m - i) (m + j - i) i) (m - i) m (m + (j - i)) = rot f a m b) := (rot_lt f1 m i j (by omega) (by omega)).trans hE.out
        clear X ei
        go_wp2_with fail
        refine HX.out.mono ?_
        rintro e w3 ⟨rfl, hR3, hB3⟩
        have R3 := hide hR3
        have B3 := hide (hB.out.trans hB3)
        clear hR3 hB3
        go_wp2
        go_roundw
        case rel => exact ⟨i, j - i, _, rfl, by rw [show ((j - i : Nat) : Int) = (j : Int) - (i : Int) by omega], by omega, by omega, by omega, by omega, EE.out, R3.out, B3.out, hP.out.trans (swR_pm f1 (by omega) (by omega) (by omega))⟩
        case measure => simp [intOf]; omega
end Go.Proofs.Ytglbobobifejmaa
