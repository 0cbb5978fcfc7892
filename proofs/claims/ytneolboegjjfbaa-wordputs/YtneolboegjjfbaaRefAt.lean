/-
  Contracts of the document's answer for At.
-/
import Derived.Test.YtneolboegjjfbaaRef
namespace Go.Proofs.Ytneolboegjjfbaa
open Go.RowKit

set_option maxHeartbeats 2000000 in
theorem rAt2_yes (b off len cap p : Nat) (x0 x1 : Int) (w : World) (hl : (len : Int) ≤ 4611686018427387904) (hp : p + 2 ≤ len) (h0 : w.cell? ⟨b, off + p, none⟩ = some (.int .u8 x0)) (h1 : w.cell? ⟨b, off + (p + 1), none⟩ = some (.int .u8 x1)) (a0 : 0 ≤ x0) (c0 : x0 ≤ 255) (a1 : 0 ≤ x1) (c1 : x1 ≤ 255) :
    Calls Try.prog 16 #[.slice (some ⟨b, off, none⟩) len cap, .int .i64 (p : Int), .int .i64 2] w fun e w' => e = .returned (.int .i64 (256 * (x0) + x1)) ∧ w' = w := by
  go_enter Try.func16, Try.ntmps16
  go_wp2
  go_loop [7, 8] (fun vn vi => (vn = .int .i64 (0) ∧ vi = .int .i64 0) ∨ (vn = .int .i64 (x0) ∧ vi = .int .i64 1) ∨ (vn = .int .i64 (256 * (x0) + x1) ∧ vi = .int .i64 2)) (fun _ vi => 2 - (intOf vi).toNat)
  case atStart => exact .inl ⟨rfl, rfl⟩
  case round =>
    rcases hrel with ⟨rfl, rfl⟩ | ⟨rfl, rfl⟩ | ⟨rfl, rfl⟩
    · go_wp2
      go_round
      case rel => exact .inr (.inl ⟨val_int (by omega), rfl⟩)
      case measure => simp [intOf]
    · go_wp2
      go_round
      case rel => exact .inr (.inr ⟨val_int (by omega), rfl⟩)
      case measure => simp [intOf]
    · go_wp2
      go_ret
      exact ⟨rfl, rfl⟩

set_option maxHeartbeats 1000000 in
theorem rAt2_no (a : Option Addr) (len cap : Nat) (at_ : Int) (w : World) (_hl : (len : Int) ≤ 4611686018427387904) (hs : stB len at_ 2 = false) :
    Calls Try.prog 16 #[.slice a len cap, .int .i64 at_, .int .i64 2] w fun e w' => e = .returned (.int .i64 (-1)) ∧ w' = w := by
  have h : ¬ (0 ≤ at_ ∧ 2 ≤ (len : Int) - at_) := of_decide_eq_false hs
  clear hs
  by_cases h0 : at_ < 0
  · go_enter Try.func16, Try.ntmps16
    go_wp2
    go_ret
    exact ⟨rfl, rfl⟩
  · by_cases h1 : (len : Int) < at_
    · go_enter Try.func16, Try.ntmps16
      go_wp2
      go_ret
      exact ⟨rfl, rfl⟩
    · have h2 : (len : Int) - at_ < 2 := by omega
      clear h
      go_enter Try.func16, Try.ntmps16
      go_wp2
      go_ret
      exact ⟨rfl, rfl⟩

theorem rAt2_any (v : Value) (bs : List Int) (at_ : Int) (w : World) (hb : IsB w.heap.size w v bs) (hB : Bytes bs) (hl : (bs.length : Int) ≤ 4611686018427387904) :
    Calls Try.prog 16 #[v, .int .i64 at_, .int .i64 2] w fun e w' => e = .returned (.int .i64 (if stB bs.length at_ 2 = true then rd16 bs at_ else -1)) ∧ w' = w := by
  obtain ⟨a, cap, rfl, hlc, hn, hc⟩ := hb
  cases hs : stB bs.length at_ 2 with
  | false =>
    refine (rAt2_no a bs.length cap at_ w hl hs).mono ?_
    rintro e w' ⟨rfl, rfl⟩
    exact ⟨by simp, rfl⟩
  | true =>
    have h2 : 0 ≤ at_ ∧ 2 ≤ (bs.length : Int) - at_ := by simpa [stB] using hs
    obtain ⟨k, rfl⟩ := Int.eq_ofNat_of_zero_le h2.1
    obtain ⟨b, off, rfl, hbb, hcs⟩ := hc (by omega)
    have g0 := hB.getD (k)
    have g1 := hB.getD (k + 1)
    refine (rAt2_yes b off bs.length cap k _ _ w hl (by omega) (hcs k (by omega)) (hcs (k + 1) (by omega)) g0.1 g0.2 g1.1 g1.2).mono ?_
    rintro e w' ⟨rfl, rfl⟩
    exact ⟨by rw [if_pos rfl, rd16, if_pos hs, Int.toNat_natCast], rfl⟩

set_option maxHeartbeats 2000000 in
theorem rAt4_yes (b off len cap p : Nat) (x0 x1 x2 x3 : Int) (w : World) (hl : (len : Int) ≤ 4611686018427387904) (hp : p + 4 ≤ len) (h0 : w.cell? ⟨b, off + p, none⟩ = some (.int .u8 x0)) (h1 : w.cell? ⟨b, off + (p + 1), none⟩ = some (.int .u8 x1)) (h2 : w.cell? ⟨b, off + (p + 2), none⟩ = some (.int .u8 x2)) (h3 : w.cell? ⟨b, off + (p + 3), none⟩ = some (.int .u8 x3)) (a0 : 0 ≤ x0) (c0 : x0 ≤ 255) (a1 : 0 ≤ x1) (c1 : x1 ≤ 255) (a2 : 0 ≤ x2) (c2 : x2 ≤ 255) (a3 : 0 ≤ x3) (c3 : x3 ≤ 255) :
    Calls Try.prog 16 #[.slice (some ⟨b, off, none⟩) len cap, .int .i64 (p : Int), .int .i64 4] w fun e w' => e = .returned (.int .i64 (256 * (256 * (256 * (x0) + x1) + x2) + x3)) ∧ w' = w := by
  go_enter Try.func16, Try.ntmps16
  go_wp2
  go_loop [7, 8] (fun vn vi => (vn = .int .i64 (0) ∧ vi = .int .i64 0) ∨ (vn = .int .i64 (x0) ∧ vi = .int .i64 1) ∨ (vn = .int .i64 (256 * (x0) + x1) ∧ vi = .int .i64 2) ∨ (vn = .int .i64 (256 * (256 * (x0) + x1) + x2) ∧ vi = .int .i64 3) ∨ (vn = .int .i64 (256 * (256 * (256 * (x0) + x1) + x2) + x3) ∧ vi = .int .i64 4)) (fun _ vi => 4 - (intOf vi).toNat)
  case atStart => exact .inl ⟨rfl, rfl⟩
  case round =>
    rcases hrel with ⟨rfl, rfl⟩ | ⟨rfl, rfl⟩ | ⟨rfl, rfl⟩ | ⟨rfl, rfl⟩ | ⟨rfl, rfl⟩
    · go_wp2
      go_round
      case rel => exact .inr (.inl ⟨val_int (by omega), rfl⟩)
      case measure => simp [intOf]
    · go_wp2
      go_round
      case rel => exact .inr (.inr (.inl ⟨val_int (by omega), rfl⟩))
      case measure => simp [intOf]
    · go_wp2
      go_round
      case rel => exact .inr (.inr (.inr (.inl ⟨val_int (by omega), rfl⟩)))
      case measure => simp [intOf]
    · go_wp2
      go_round
      case rel => exact .inr (.inr (.inr (.inr ⟨val_int (by omega), rfl⟩)))
      case measure => simp [intOf]
    · go_wp2
      go_ret
      exact ⟨rfl, rfl⟩

set_option maxHeartbeats 1000000 in
theorem rAt4_no (a : Option Addr) (len cap : Nat) (at_ : Int) (w : World) (_hl : (len : Int) ≤ 4611686018427387904) (hs : stB len at_ 4 = false) :
    Calls Try.prog 16 #[.slice a len cap, .int .i64 at_, .int .i64 4] w fun e w' => e = .returned (.int .i64 (-1)) ∧ w' = w := by
  have h : ¬ (0 ≤ at_ ∧ 4 ≤ (len : Int) - at_) := of_decide_eq_false hs
  clear hs
  by_cases h0 : at_ < 0
  · go_enter Try.func16, Try.ntmps16
    go_wp2
    go_ret
    exact ⟨rfl, rfl⟩
  · by_cases h1 : (len : Int) < at_
    · go_enter Try.func16, Try.ntmps16
      go_wp2
      go_ret
      exact ⟨rfl, rfl⟩
    · have h2 : (len : Int) - at_ < 4 := by omega
      clear h
      go_enter Try.func16, Try.ntmps16
      go_wp2
      go_ret
      exact ⟨rfl, rfl⟩

theorem rAt4_any (v : Value) (bs : List Int) (at_ : Int) (w : World) (hb : IsB w.heap.size w v bs) (hB : Bytes bs) (hl : (bs.length : Int) ≤ 4611686018427387904) :
    Calls Try.prog 16 #[v, .int .i64 at_, .int .i64 4] w fun e w' => e = .returned (.int .i64 (if stB bs.length at_ 4 = true then rd32 bs at_ else -1)) ∧ w' = w := by
  obtain ⟨a, cap, rfl, hlc, hn, hc⟩ := hb
  cases hs : stB bs.length at_ 4 with
  | false =>
    refine (rAt4_no a bs.length cap at_ w hl hs).mono ?_
    rintro e w' ⟨rfl, rfl⟩
    exact ⟨by simp, rfl⟩
  | true =>
    have h2 : 0 ≤ at_ ∧ 4 ≤ (bs.length : Int) - at_ := by simpa [stB] using hs
    obtain ⟨k, rfl⟩ := Int.eq_ofNat_of_zero_le h2.1
    obtain ⟨b, off, rfl, hbb, hcs⟩ := hc (by omega)
    have g0 := hB.getD (k)
    have g1 := hB.getD (k + 1)
    have g2 := hB.getD (k + 2)
    have g3 := hB.getD (k + 3)
    refine (rAt4_yes b off bs.length cap k _ _ _ _ w hl (by omega) (hcs k (by omega)) (hcs (k + 1) (by omega)) (hcs (k + 2) (by omega)) (hcs (k + 3) (by omega)) g0.1 g0.2 g1.1 g1.2 g2.1 g2.2 g3.1 g3.2).mono ?_
    rintro e w' ⟨rfl, rfl⟩
    exact ⟨by rw [if_pos rfl, rd32, if_pos hs, Int.toNat_natCast]; exact ret_int (by omega), rfl⟩

end Go.Proofs.Ytneolboegjjfbaa
