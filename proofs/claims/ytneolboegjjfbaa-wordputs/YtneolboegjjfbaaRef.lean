/-
  Contracts of the document's answer for layer 1: low, Low, fold, Patch, Sum, by definition.
-/
import Derived.Test.YtneolboegjjfbaaSumN
namespace Go.Proofs.Ytneolboegjjfbaa
open Go.RowKit

theorem low_eq (n : Int) : (wrap64 (n.tmod 65536 + 65536)).tmod 65536 = n % 65536 := by
  have h : n.tmod 65536 = if 0 ≤ n then n % 65536 else -((-n) % 65536) := by
    split
    · exact Int.tmod_eq_emod_of_nonneg (by assumption)
    · have e : n = -(-n) := by omega
      rw [e, Int.neg_tmod, Int.tmod_eq_emod_of_nonneg (by omega)]
      simp
  have hb : 0 ≤ n.tmod 65536 + 65536 ∧ n.tmod 65536 + 65536 ≤ 131072 := by rw [h]; split <;> omega
  rw [wrap64_fit _ (by omega) (by omega), Int.tmod_eq_emod_of_nonneg hb.1, h]
  split <;> omega

set_option maxHeartbeats 400000 in
theorem rlow_any (n : Int) (w : World) : Calls Try.prog 22 #[.int .i64 n] w fun e w' => e = .returned (.int .i64 (n % 65536)) ∧ w' = w := by
  go_enter Try.func22, Try.ntmps22
  go_wp2
  go_ret
  exact ⟨ret_int (low_eq n), rfl⟩

set_option maxHeartbeats 400000 in
theorem rLow_any (n : Int) (w : World) : Calls Try.prog 13 #[.int .i64 n] w fun e w' => e = .returned (.int .i64 (n % 65536)) ∧ w' = w := by
  go_enter Try.func13, Try.ntmps13
  go_wp2_with fail
  refine (rlow_any _ _).mono ?_
  rintro e w' ⟨rfl, rfl⟩
  go_wp2
  go_ret
  exact ⟨rfl, rfl⟩

set_option maxHeartbeats 400000 in
theorem rfold_any (s : Int) (h0 : 0 ≤ s) (h1 : s ≤ 4611686018427387904) (w : World) :
    Calls Try.prog 26 #[.int .i64 s] w fun e w' => e = .returned (.int .i64 (foldI s)) ∧ w' = w := by
  go_enter Try.func26, Try.ntmps26
  go_wp2
  go_loop [0] (fun t => ∃ y : Int, 0 ≤ y ∧ y ≤ s ∧ Hid (foldI y = foldI s) ∧ t = .int .i64 y) (fun t => (intOf t).toNat)
  case atStart => exact ⟨s, by omega, by omega, rfl, rfl⟩
  case round =>
    obtain ⟨y, hy1, hy2, hy3, rfl⟩ := hrel
    by_cases hc : 65535 < y
    · go_wp2
      go_round
      case rel => exact ⟨y / 65536 + y % 65536, by omega, by omega, (foldI_step y hc).trans hy3, val_int (by omega)⟩
      case measure => simp [intOf]; omega
    · go_wp2
      go_ret
      exact ⟨ret_int (by rw [← hy3.out]; exact (foldI_small y hy1 (by omega)).symm), rfl⟩

set_option maxHeartbeats 400000 in
theorem rPatch_any (sum old next : Int) (w : World) :
    Calls Try.prog 20 #[.int .i64 sum, .int .i64 old, .int .i64 next] w fun e w' => e = .returned (.int .i64 (patchI sum old next)) ∧ w' = w := by
  have b1 : 0 ≤ sum % 65536 ∧ sum % 65536 ≤ 65535 := by omega
  have b2 : 0 ≤ old % 65536 ∧ old % 65536 ≤ 65535 := by omega
  have b3 : 0 ≤ next % 65536 ∧ next % 65536 ≤ 65535 := by omega
  unfold patchI
  generalize hs : sum % 65536 = s1 at *
  generalize ho : old % 65536 = s2 at *
  generalize hn : next % 65536 = s3 at *
  obtain ⟨b1, b1'⟩ := b1
  obtain ⟨b2, b2'⟩ := b2
  obtain ⟨b3, b3'⟩ := b3
  have Hs : Hid (sum % 65536 = s1) := hs
  have Ho : Hid (old % 65536 = s2) := ho
  have Hn : Hid (next % 65536 = s3) := hn
  clear hs ho hn
  go_enter Try.func20, Try.ntmps20
  go_wp2_with fail
  refine (rlow_any _ _).mono ?_
  rintro e w' ⟨rfl, rfl⟩
  rw [Hs.out]
  go_wp2_with fail
  refine (rlow_any _ _).mono ?_
  rintro e w' ⟨rfl, rfl⟩
  rw [Ho.out]
  go_wp2_with fail
  refine (rlow_any _ _).mono ?_
  rintro e w' ⟨rfl, rfl⟩
  rw [Hn.out]
  go_wp2_with fail
  refine (rfold_any _ (by omega) (by omega) _).mono ?_
  rintro e w' ⟨rfl, rfl⟩
  have hbd := foldI_bd (65535 - s1 + 65535 - s2 + s3)
  obtain ⟨hb0, hb1⟩ := hbd
  go_wp2
  go_ret
  exact ⟨ret_int (by rw [show 65535 - s1 + 65535 - s2 + s3 = 65535 - s1 + (65535 - s2) + s3 from by omega]), rfl⟩

theorem foldI_add (a c : Int) (ha : 0 ≤ a) (hc : 0 ≤ c) : foldI (foldI a + c) = foldI (a + c) := by
  have m := foldI_mod a
  have b := foldI_bd a
  have z := foldI_zero a
  by_cases h : a = 0
  · subst h
    rw [foldI_small 0 (by omega) (by omega)]
  · refine foldI_congr _ _ (by omega) (by omega) (by omega)

theorem take_two (bs : List Int) (i : Nat) (h : i + 1 < bs.length) : bs.take (i + 2) = bs.take i ++ [bs[i]?.getD 0, bs[i + 1]?.getD 0] := by
  rw [show i + 2 = (i + 1) + 1 from rfl, take_snoc bs (i + 1) h, take_snoc bs i (by omega)]; simp

set_option maxHeartbeats 1000000 in
theorem rSum_any (v : Value) (bs : List Int) (w : World) (hb : IsB w.heap.size w v bs) (hB : Bytes bs) (hl : (bs.length : Int) ≤ 4611686018427387900) :
    Calls Try.prog 18 #[v] w fun e w' => e = .returned (.int .i64 (csum bs)) ∧ w' = w := by
  obtain ⟨a, cap, rfl, hlc, hn, hc⟩ := hb
  have HB := hide hB
  have HC := hide hc
  clear hB hc hn
  go_enter Try.func18, Try.ntmps18
  go_wp2
  go_loop [3, 4] (fun vs vi => ∃ (i : Nat) (s : Int), i ≤ bs.length + 1 ∧ Hid (i % 2 = 0) ∧ vi = .int .i64 i ∧ vs = .int .i64 s ∧ Hid (s = foldI (wsum (bs.take i)))) (fun _ vi => bs.length + 1 - (intOf vi).toNat)
  case atStart => exact ⟨0, 0, by omega, rfl, rfl, rfl, by show _ = _; simp [wsum_nil, foldI_small 0]⟩
  case round =>
    obtain ⟨i, s, hi, hev, rfl, rfl, hs⟩ := hrel
    have hs0 : 0 ≤ s ∧ s ≤ 65535 := by rw [hs.out]; exact foldI_bd _
    obtain ⟨hs0, hs1⟩ := hs0
    by_cases hlt : i < bs.length
    · obtain ⟨b, off, rfl, hbb, hcs⟩ := HC.out (by omega)
      have hx := hcs i hlt
      obtain ⟨x0, x1⟩ := HB.out.getD i
      by_cases hlt2 : i + 1 < bs.length
      · have hy := hcs (i + 1) hlt2
        obtain ⟨y0, y1⟩ := HB.out.getD (i + 1)
        have hT : Hid (foldI (s + (256 * bs[i]?.getD 0 + bs[i + 1]?.getD 0)) = foldI (wsum (bs.take (i + 2)))) := by
          show _ = _
          rw [take_two bs i hlt2, wsum_append_even _ _ (by have := hev.out; simp; omega), wsum_pair, hs.out, foldI_add _ _ (wsum_nonneg _ (HB.out.take _)) (by omega)]
        generalize bs[i]?.getD 0 = x at *
        generalize bs[i + 1]?.getD 0 = y at *
        clear hcs
        rw [show s + (256 * x + y) = s + 256 * x + y from by omega] at hT
        go_wp2_with fail
        refine (rfold_any _ (by omega) (by omega) _).mono ?_
        rintro e w' ⟨rfl, rfl⟩
        go_wp2
        go_round
        case rel => exact ⟨i + 2, _, by omega, by have := hev.out; show _ = _; omega, by go_num, rfl, hT⟩
        case measure => simp [intOf]; omega
      · have hT : Hid (foldI (s + 256 * bs[i]?.getD 0) = foldI (wsum (bs.take (i + 2)))) := by
          show _ = _
          have et : bs.take (i + 2) = bs.take (i + 1) := by rw [List.take_of_length_le (by omega), List.take_of_length_le (by omega)]
          rw [et, take_snoc bs i hlt, wsum_append_even _ _ (by have := hev.out; simp; omega), wsum_one, hs.out, foldI_add _ _ (wsum_nonneg _ (HB.out.take _)) (by omega)]
        generalize bs[i]?.getD 0 = x at *
        clear hcs
        go_wp2_with fail
        refine (rfold_any _ (by omega) (by omega) _).mono ?_
        rintro e w' ⟨rfl, rfl⟩
        go_wp2
        go_round
        case rel => exact ⟨i + 2, _, by omega, by have := hev.out; show _ = _; omega, by go_num, rfl, hT⟩
        case measure => simp [intOf]; omega
    · have hT : Hid (s = foldI (wsum bs)) := by
        have := hs.out
        rwa [List.take_of_length_le (by omega)] at this
      go_wp2
      go_ret
      exact ⟨ret_int (by rw [hT.out]; rfl), rfl⟩

end Go.Proofs.Ytneolboegjjfbaa
