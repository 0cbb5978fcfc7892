/-
  Contracts of the program's functions that only compute: fold, low, Patch, stands.
-/
import Derived.Test.YtneolboegjjfbaaRows
import Derived.Test.YtneolboegjjfbaaMath
import Derived.WalkKit
import Derived.WalkSpells
import Derived.WalkLawsBesides
namespace Go.Proofs.Ytneolboegjjfbaa
open Go.RowKit

theorem hide {p : Prop} (h : p) : Hid p := h
theorem unhide {p : Prop} (h : Hid p) : p := h
theorem ret_int {k : IntKind} {a b : Int} (h : a = b) : Ending.returned (.int k a) = .returned (.int k b) := by rw [h]
theorem val_int {k : IntKind} {a b : Int} (h : a = b) : Value.int k a = Value.int k b := by rw [h]

set_option maxHeartbeats 400000 in
theorem low_any (n : Int) (w : World) :
    Calls Try.prog 27 #[.int .i64 n] w fun e w' => e = .returned (.int .i64 (n % 65536)) ∧ w' = w := by
  go_enter Try.func27, Try.ntmps27
  go_wp2
  go_ret
  exact ⟨ret_int (i64_and65535 n), rfl⟩

set_option maxHeartbeats 400000 in
theorem fold_any (s : Int) (h0 : 0 ≤ s) (h1 : s < 2 ^ 64) (w : World) :
    Calls Try.prog 25 #[.int .u64 s] w fun e w' => e = .returned (.int .i64 (foldI s)) ∧ w' = w := by
  have H1 : Hid (s < 2 ^ 64) := h1
  clear h1
  go_enter Try.func25, Try.ntmps25
  go_wp2
  go_loop [0] (fun t => ∃ y : Int, 0 ≤ y ∧ y ≤ s ∧ Hid (foldI y = foldI s) ∧ t = .int .u64 y) (fun t => (intOf t).toNat)
  case atStart => exact ⟨s, by omega, by omega, rfl, rfl⟩
  case round =>
    obtain ⟨y, hy1, hy2, hy3, rfl⟩ := hrel
    have H2 : Hid (y < 2 ^ 64) := by have := H1.out; show y < 2 ^ 64; omega
    have hb : bits BinOp.and IntKind.u64 y 65535 = y % 65536 := u64_and65535 y
    by_cases hc : 65535 < y
    · have hw : Hid (IntKind.u64.wrap (y / 65536 + y % 65536) = y / 65536 + y % 65536) := u64_wrap _ (by omega) (by have := H2.out; omega)
      go_wp2
      go_round
      case rel => exact ⟨y / 65536 + y % 65536, by omega, by omega, (foldI_step y hc).trans hy3, val_int hw.out⟩
      case measure => rw [hw.out]; simp [intOf]; omega
    · go_wp2
      go_ret
      exact ⟨ret_int (by rw [← hy3.out]; exact (foldI_small y hy1 (by omega)).symm), rfl⟩

/-- the number that Patch is to answer -/
def patchI (sum old next : Int) : Int := 65535 - foldI ((65535 - sum % 65536) + (65535 - old % 65536) + next % 65536)

set_option maxHeartbeats 400000 in
theorem Patch_any (sum old next : Int) (w : World) :
    Calls Try.prog 19 #[.int .i64 sum, .int .i64 old, .int .i64 next] w fun e w' => e = .returned (.int .i64 (patchI sum old next)) ∧ w' = w := by
  have b1 : 0 ≤ sum % 65536 ∧ sum % 65536 ≤ 65535 := by omega
  have b2 : 0 ≤ old % 65536 ∧ old % 65536 ≤ 65535 := by omega
  have b3 : 0 ≤ next % 65536 ∧ next % 65536 ≤ 65535 := by omega
  unfold patchI
  generalize hs : sum % 65536 = s1 at *
  generalize ho : old % 65536 = s2 at *
  generalize hn : next % 65536 = s3 at *
  obtain ⟨b1, b1'⟩ := b1
  obtain ⟨b2, b2'⟩ := b2
  obtain ⟨b3, b3'⟩ := b3
  have Hs : Hid (sum % 65536 = s1) := hs
  have Ho : Hid (old % 65536 = s2) := ho
  have Hn : Hid (next % 65536 = s3) := hn
  clear hs ho hn
  go_enter Try.func19, Try.ntmps19
  go_wp2_with fail
  refine (low_any _ _).mono ?_
  rintro e w' ⟨rfl, rfl⟩
  rw [Hs.out]
  go_wp2_with fail
  refine (low_any _ _).mono ?_
  rintro e w' ⟨rfl, rfl⟩
  rw [Ho.out]
  go_wp2_with fail
  refine (low_any _ _).mono ?_
  rintro e w' ⟨rfl, rfl⟩
  rw [Hn.out]
  go_wp2_with fail
  refine (fold_any _ (by omega) (by omega) _).mono ?_
  rintro e w' ⟨rfl, rfl⟩
  have := foldI_bd (65535 - s1 + (65535 - s2) + s3)
  go_wp2
  go_ret
  exact ⟨rfl, rfl⟩

end Go.Proofs.Ytneolboegjjfbaa
