
/-
  Joined out of Ref RefPut RefAt.
-/
import Derived.Test.YtggadchhkenipaaI2
namespace Go.Proofs.Ytggadchhkenipaa
open Go.RowKit

theorem low_eq (n : Int) : (wrap64 (n.tmod 65536 + 65536)).tmod 65536 = n % 65536 := by
  have h : n.tmod 65536 = if 0 ≤ n then n % 65536 else -((-n) % 65536) := by
    split
    · exact Int.tmod_eq_emod_of_nonneg (by assumption)
    · have e : n = -(-n) := by omega
      rw [e, Int.neg_tmod, Int.tmod_eq_emod_of_nonneg (by omega)]
      simp
  have hb : 0 ≤ n.tmod 65536 + 65536 ∧ n.tmod 65536 + 65536 ≤ 131072 := by rw [h]; split <;> omega
  rw [wrap64_fit _ (by omega) (by omega), Int.tmod_eq_emod_of_nonneg hb.1, h]
  split <;> omega
set_option maxHeartbeats 400000 in
theorem rlow_any (n : Int) (w : World) : Calls Try.prog 71 #[.int .i64 n] w fun e w' => e = .returned (.int .i64 (n % 65536)) ∧ w' = w := by
  go_enter Try.func71, Try.ntmps71
  go_wp2
  go_ret
  exact ⟨ret_int (low_eq n), rfl⟩
set_option maxHeartbeats 400000 in
theorem rLow_any (n : Int) (w : World) : Calls Try.prog 64 #[.int .i64 n] w fun e w' => e = .returned (.int .i64 (n % 65536)) ∧ w' = w := by
  go_enter Try.func64, Try.ntmps64
  go_wp2_with fail
  refine (rlow_any _ _).mono ?_
  rintro e w' ⟨rfl, rfl⟩
  go_wp2
  go_ret
  exact ⟨rfl, rfl⟩
set_option maxHeartbeats 400000 in
theorem rfold_any (s : Int) (h0 : 0 ≤ s) (h1 : s ≤ 4611686018427387904) (w : World) :
    Calls Try.prog 65 #[.int .i64 s] w fun e w' => e = .returned (.int .i64 (foldI s)) ∧ w' = w := by
  go_enter Try.func65, Try.ntmps65
  go_wp2
  go_loop [0] (fun t => ∃ y : Int, 0 ≤ y ∧ y ≤ s ∧ Hid (foldI y = foldI s) ∧ t = .int .i64 y) (fun t => (intOf t).toNat)
  case atStart => exact ⟨s, by omega, by omega, rfl, rfl⟩
  case round =>
    obtain ⟨y, hy1, hy2, hy3, rfl⟩ := hrel
    by_cases hc : 65535 < y
    · go_wp2
      go_round
      case rel => exact ⟨y / 65536 + y % 65536, by omega, by omega, (foldI_step y hc).trans hy3, val_int (by omega)⟩
      case measure => simp [intOf]; omega
    · go_wp2
      go_ret
      exact ⟨ret_int (by rw [← hy3.out]; exact (foldI_small y hy1 (by omega)).symm), rfl⟩
theorem foldI_add (a c : Int) (ha : 0 ≤ a) (hc : 0 ≤ c) : foldI (foldI a + c) = foldI (a + c) := by
  have m := foldI_mod a
  have b := foldI_bd a
  have z := foldI_zero a
  by_cases h : a = 0
  · subst h
    rw [foldI_small 0 (by omega) (by omega)]
  · refine foldI_congr _ _ (by omega) (by omega) (by omega)
theorem take_two (bs : List Int) (i : Nat) (h : i + 1 < bs.length) : bs.take (i + 2) = bs.take i ++ [bs[i]?.getD 0, bs[i + 1]?.getD 0] := by
  rw [show i + 2 = (i + 1) + 1 from rfl, take_snoc bs (i + 1) h, take_snoc bs i (by omega)]; simp
set_option maxHeartbeats 1000000 in
theorem rSum_any (v : Value) (bs : List Int) (w : World) (hb : IsB w.heap.size w v bs) (hB : Bytes bs) (hl : (bs.length : Int) ≤ 4611686018427387900) :
    Calls Try.prog 56 #[v] w fun e w' => e = .returned (.int .i64 (csum bs)) ∧ w' = w := by
  obtain ⟨a, cap, rfl, hlc, hn, hc⟩ := hb
  have HB := hide hB
  have HC := hide hc
  clear hB hc hn
  go_enter Try.func56, Try.ntmps56
  go_wp2
  go_loop [3, 4] (fun vs vi => ∃ (i : Nat) (s : Int), i ≤ bs.length + 1 ∧ Hid (i % 2 = 0) ∧ vi = .int .i64 i ∧ vs = .int .i64 s ∧ Hid (s = foldI (wsum (bs.take i)))) (fun _ vi => bs.length + 1 - (intOf vi).toNat)
  case atStart => exact ⟨0, 0, by omega, rfl, rfl, rfl, by show _ = _; simp [wsum_nil, foldI_small 0]⟩
  case round =>
    obtain ⟨i, s, hi, hev, rfl, rfl, hs⟩ := hrel
    have hs0 : 0 ≤ s ∧ s ≤ 65535 := by rw [hs.out]; exact foldI_bd _
    obtain ⟨hs0, hs1⟩ := hs0
    by_cases hlt : i < bs.length
    · obtain ⟨b, off, rfl, hbb, hcs⟩ := HC.out (by omega)
      have hx := hcs i hlt
      obtain ⟨x0, x1⟩ := HB.out.getD i
      by_cases hlt2 : i + 1 < bs.length
      · have hy := hcs (i + 1) hlt2
        obtain ⟨y0, y1⟩ := HB.out.getD (i + 1)
        have hT : Hid (foldI (s + (256 * bs[i]?.getD 0 + bs[i + 1]?.getD 0)) = foldI (wsum (bs.take (i + 2)))) := by
          show _ = _
          rw [take_two bs i hlt2, wsum_append_even _ _ (by have := hev.out; simp; omega), wsum_pair, hs.out, foldI_add _ _ (wsum_nonneg _ (HB.out.take _)) (by omega)]
        generalize bs[i]?.getD 0 = x at *
        generalize bs[i + 1]?.getD 0 = y at *
        clear hcs
        rw [show s + (256 * x + y) = s + 256 * x + y from by omega] at hT
        go_wp2_with fail
        refine (rfold_any _ (by omega) (by omega) _).mono ?_
        rintro e w' ⟨rfl, rfl⟩
        go_wp2
        go_round
        case rel => exact ⟨i + 2, _, by omega, by have := hev.out; show _ = _; omega, by go_num, rfl, hT⟩
        case measure => simp [intOf]; omega
      · have hT : Hid (foldI (s + 256 * bs[i]?.getD 0) = foldI (wsum (bs.take (i + 2)))) := by
          show _ = _
          have et : bs.take (i + 2) = bs.take (i + 1) := by rw [List.take_of_length_le (by omega), List.take_of_length_le (by omega)]
          rw [et, take_snoc bs i hlt, wsum_append_even _ _ (by have := hev.out; simp; omega), wsum_one, hs.out, foldI_add _ _ (wsum_nonneg _ (HB.out.take _)) (by omega)]
        generalize bs[i]?.getD 0 = x at *
        clear hcs
        go_wp2_with fail
        refine (rfold_any _ (by omega) (by omega) _).mono ?_
        rintro e w' ⟨rfl, rfl⟩
        go_wp2
        go_round
        case rel => exact ⟨i + 2, _, by omega, by have := hev.out; show _ = _; omega, by go_num, rfl, hT⟩
        case measure => simp [intOf]; omega
    · have hT : Hid (s = foldI (wsum bs)) := by
        have := hs.out
        rwa [List.take_of_length_le (by omega)] at this
      go_wp2
      go_ret
      exact ⟨ret_int (by rw [hT.out]; rfl), rfl⟩
/-- where the loop of Put stands, two bytes -/
def Put2 (n : Int) (b : List Int) (d : Int) (L : List Int) : Prop :=
  (d = 256 ∧ L = b) ∨ (d = 1 ∧ L = b ++ [n / 256 % 256]) ∨ (d = 0 ∧ L = b ++ put16 n)
/-- four bytes -/
def Put4 (n : Int) (b : List Int) (d : Int) (L : List Int) : Prop :=
  (d = 16777216 ∧ L = b) ∨ (d = 65536 ∧ L = b ++ [n / 16777216]) ∨ (d = 256 ∧ L = b ++ [n / 16777216, n / 65536 % 256]) ∨ (d = 1 ∧ L = b ++ [n / 16777216, n / 65536 % 256, n / 256 % 256]) ∨ (d = 0 ∧ L = b ++ put32 n)
/-- one round of it -/
theorem put2_step (n : Int) (b : List Int) (d : Int) (L : List Int) (h : Put2 n b d L) (hd : 0 < d) : Put2 n b (d / 256) (L ++ [n / d % 256]) ∧ d ≤ 256 ∧ L.length ≤ b.length + 1 := by
  rcases h with ⟨rfl, rfl⟩ | ⟨rfl, rfl⟩ | ⟨rfl, rfl⟩
  · exact ⟨.inr (.inl ⟨by decide, rfl⟩), by omega, by omega⟩
  · exact ⟨.inr (.inr ⟨by decide, by simp [put16]⟩), by omega, by simp⟩
  · omega
theorem put2_end (n : Int) (b : List Int) (d : Int) (L : List Int) (h : Put2 n b d L) (hd : ¬ 0 < d) : L = b ++ put16 n := by
  rcases h with ⟨rfl, rfl⟩ | ⟨rfl, rfl⟩ | ⟨rfl, rfl⟩
  · omega
  · omega
  · rfl
theorem put4_step (n : Int) (n0 : 0 ≤ n) (n1 : n < 4294967296) (b : List Int) (d : Int) (L : List Int) (h : Put4 n b d L) (hd : 0 < d) : Put4 n b (d / 256) (L ++ [n / d % 256]) ∧ d ≤ 16777216 ∧ L.length ≤ b.length + 3 := by
  rcases h with ⟨rfl, rfl⟩ | ⟨rfl, rfl⟩ | ⟨rfl, rfl⟩ | ⟨rfl, rfl⟩ | ⟨rfl, rfl⟩
  · exact ⟨.inr (.inl ⟨by decide, by rw [show n / 16777216 % 256 = n / 16777216 from by omega]⟩), by omega, by omega⟩
  · exact ⟨.inr (.inr (.inl ⟨by decide, by simp⟩)), by omega, by simp⟩
  · exact ⟨.inr (.inr (.inr (.inl ⟨by decide, by simp⟩))), by omega, by simp⟩
  · exact ⟨.inr (.inr (.inr (.inr ⟨by decide, by simp [put32]⟩))), by omega, by simp⟩
  · omega
theorem put4_end (n : Int) (b : List Int) (d : Int) (L : List Int) (h : Put4 n b d L) (hd : ¬ 0 < d) : L = b ++ put32 n := by
  rcases h with ⟨rfl, rfl⟩ | ⟨rfl, rfl⟩ | ⟨rfl, rfl⟩ | ⟨rfl, rfl⟩ | ⟨rfl, rfl⟩
  · omega
  · omega
  · omega
  · omega
  · rfl
set_option maxHeartbeats 4000000 in
theorem rPut2_any (v : Value) (b : List Int) (n : Int) (w : World) (hb : IsB w.heap.size w v b) (lb : b.length ≤ 140737488351232) (n0 : 0 ≤ n) (n1 : n ≤ 65535) :
    Calls Try.prog 54 #[v, .int .i64 n, .int .i64 2] w fun e w' => ∃ v', e = .returned v' ∧ Gro w.heap.size w' v' (b ++ put16 n) ∧ Below w.heap.size w w' := by
  obtain ⟨a, ca, rfl, hca⟩ := hb.shape
  go_enter Try.func54, Try.ntmps54
  go_wp2
  go_loop [7, 8] (fun vd vi => (vd = .int .i64 1 ∧ vi = .int .i64 1) ∨ (vd = .int .i64 256 ∧ vi = .int .i64 2)) (fun _ vi => 2 - (intOf vi).toNat)
  case atStart => exact .inl ⟨rfl, rfl⟩
  case round =>
    rcases hrel with ⟨rfl, rfl⟩ | ⟨rfl, rfl⟩
    · go_wp2
      go_round
      case rel => exact .inr ⟨rfl, rfl⟩
      case measure => simp [intOf]
    · have HB := hide hb
      clear hb
      go_wp2_with (at_builtin; refine wpList_growB rfl (.const (.slice none 0 0)) (.tmp 17) rfl rfl w.heap.size (.slice none 0 0) _ [] b rfl rfl (Gro.nil _ _) HB.out (Nat.le_refl _) (by simp; omega) b (List.nil_append _) ?_)
      intro a2 c2 w2 hc2 g2 b2
      go_wp2
      go_loopw [7, 9] (fun vd vo wr => ∃ (d : Int) (L : List Int) (a : Option Addr) (c : Nat), vd = .int .i64 d ∧ vo = .slice a L.length c ∧ 0 ≤ d ∧ Hid (Put2 n b d L) ∧ Hid (Gro w.heap.size wr (.slice a L.length c) L) ∧ Below w.heap.size w wr) (fun vd _ _ => (intOf vd).toNat)
      case atStart => exact ⟨256, b, a2, c2, rfl, rfl, by omega, .inl ⟨rfl, rfl⟩, g2, b2⟩
      case round =>
        obtain ⟨d, L, a3, c3, rfl, rfl, hd0, hP, hG, hB⟩ := hrel
        by_cases hd : 0 < d
        · have hdc : d = 256 ∨ d = 1 := by
            have := hP.out
            unfold Put2 at this
            omega
          rcases hdc with rfl | rfl
          · obtain ⟨hs1, hs2, hs3⟩ := put2_step n b 256 L hP.out hd
            have HS := hide hs1
            have EL : Hid ((L ++ [n / 256 % 256]).length = L.length + 1) := by show _ = _; simp
            clear hs1
            obtain ⟨wn, hwn⟩ : ∃ wn, wr.alloc (.cells #[.int .u8 (n / 256 % 256)] 5) = wn := ⟨_, rfl⟩
            have bn : Below wr.heap.size wr wn := by rw [← hwn]; exact later_alloc _ _
            have inw : IsB wn.heap.size wn (.slice (some ⟨wr.heap.size, 0, none⟩) 1 1) [n / 256 % 256] := by
              rw [← hwn, World.size_alloc]; exact IsB_new [n / 256 % 256] (by omega)
            have gn := hG.out.later bn
            have zn : w.heap.size ≤ wn.heap.size := Nat.le_trans hB.size bn.size
            have bw := later hB bn
            have GN := hide gn
            have INW := hide inw
            have HWN := hide hwn
            clear hwn gn inw bn
            obtain ⟨L2, e2⟩ : ∃ L2, L ++ [n / 256 % 256] = L2 := ⟨_, rfl⟩
            have E2 := hide e2
            clear e2
            rw [← HWN.out] at bw zn GN INW
            rw [E2.out] at HS EL
            go_wp2_with (at_builtin; refine wpList_growB rfl (.tmp 21) (.tmp 27) rfl rfl w.heap.size _ _ L [n / 256 % 256] rfl rfl GN.out INW.out zn (by simp; omega) L2 E2.out ?_)
            intro a4 c4 w4 hc4 g4 b4
            clear HWN GN INW E2
            go_wp2
            go_roundw
            case rel => exact ⟨1, L2, a4, c4, rfl, rfl, by omega, HS.out, g4, bw.trans b4⟩
            case measure => simp [intOf]
          · obtain ⟨hs1, hs2, hs3⟩ := put2_step n b 1 L hP.out hd
            rw [Int.ediv_one] at hs1
            have HS := hide hs1
            have EL : Hid ((L ++ [n % 256]).length = L.length + 1) := by show _ = _; simp
            clear hs1
            obtain ⟨wn, hwn⟩ : ∃ wn, wr.alloc (.cells #[.int .u8 (n % 256)] 5) = wn := ⟨_, rfl⟩
            have bn : Below wr.heap.size wr wn := by rw [← hwn]; exact later_alloc _ _
            have inw : IsB wn.heap.size wn (.slice (some ⟨wr.heap.size, 0, none⟩) 1 1) [n % 256] := by
              rw [← hwn, World.size_alloc]; exact IsB_new [n % 256] (by omega)
            have gn := hG.out.later bn
            have zn : w.heap.size ≤ wn.heap.size := Nat.le_trans hB.size bn.size
            have bw := later hB bn
            have GN := hide gn
            have INW := hide inw
            have HWN := hide hwn
            clear hwn gn inw bn
            obtain ⟨L2, e2⟩ : ∃ L2, L ++ [n % 256] = L2 := ⟨_, rfl⟩
            have E2 := hide e2
            clear e2
            rw [← HWN.out] at bw zn GN INW
            rw [E2.out] at HS EL
            go_wp2_with (at_builtin; refine wpList_growB rfl (.tmp 21) (.tmp 27) rfl rfl w.heap.size _ _ L [n % 256] rfl rfl GN.out INW.out zn (by simp; omega) L2 E2.out ?_)
            intro a4 c4 w4 hc4 g4 b4
            clear HWN GN INW E2
            go_wp2
            go_roundw
            case rel => exact ⟨0, L2, a4, c4, rfl, rfl, by omega, HS.out, g4, bw.trans b4⟩
            case measure => simp [intOf]
        · have HE := hide (put2_end n b d L hP.out hd)
          go_wp2
          go_ret
          exact ⟨_, rfl, by rw [← HE.out]; exact hG.out, hB⟩
set_option maxHeartbeats 4000000 in
theorem rPut4_any (v : Value) (b : List Int) (n : Int) (w : World) (hb : IsB w.heap.size w v b) (lb : b.length ≤ 140737488351232) (n0 : 0 ≤ n) (n1 : n < 4294967296) :
    Calls Try.prog 54 #[v, .int .i64 n, .int .i64 4] w fun e w' => ∃ v', e = .returned v' ∧ Gro w.heap.size w' v' (b ++ put32 n) ∧ Below w.heap.size w w' := by
  obtain ⟨a, ca, rfl, hca⟩ := hb.shape
  go_enter Try.func54, Try.ntmps54
  go_wp2
  go_loop [7, 8] (fun vd vi => (vd = .int .i64 1 ∧ vi = .int .i64 1) ∨ (vd = .int .i64 256 ∧ vi = .int .i64 2) ∨ (vd = .int .i64 65536 ∧ vi = .int .i64 3) ∨ (vd = .int .i64 16777216 ∧ vi = .int .i64 4)) (fun _ vi => 4 - (intOf vi).toNat)
  case atStart => exact .inl ⟨rfl, rfl⟩
  case round =>
    rcases hrel with ⟨rfl, rfl⟩ | ⟨rfl, rfl⟩ | ⟨rfl, rfl⟩ | ⟨rfl, rfl⟩
    · go_wp2
      go_round
      case rel => exact .inr (.inl ⟨rfl, rfl⟩)
      case measure => simp [intOf]
    · go_wp2
      go_round
      case rel => exact .inr (.inr (.inl ⟨rfl, rfl⟩))
      case measure => simp [intOf]
    · go_wp2
      go_round
      case rel => exact .inr (.inr (.inr ⟨rfl, rfl⟩))
      case measure => simp [intOf]
    · have HB := hide hb
      clear hb
      go_wp2_with (at_builtin; refine wpList_growB rfl (.const (.slice none 0 0)) (.tmp 17) rfl rfl w.heap.size (.slice none 0 0) _ [] b rfl rfl (Gro.nil _ _) HB.out (Nat.le_refl _) (by simp; omega) b (List.nil_append _) ?_)
      intro a2 c2 w2 hc2 g2 b2
      go_wp2
      go_loopw [7, 9] (fun vd vo wr => ∃ (d : Int) (L : List Int) (a : Option Addr) (c : Nat), vd = .int .i64 d ∧ vo = .slice a L.length c ∧ 0 ≤ d ∧ Hid (Put4 n b d L) ∧ Hid (Gro w.heap.size wr (.slice a L.length c) L) ∧ Below w.heap.size w wr) (fun vd _ _ => (intOf vd).toNat)
      case atStart => exact ⟨16777216, b, a2, c2, rfl, rfl, by omega, .inl ⟨rfl, rfl⟩, g2, b2⟩
      case round =>
        obtain ⟨d, L, a3, c3, rfl, rfl, hd0, hP, hG, hB⟩ := hrel
        by_cases hd : 0 < d
        · have hdc : d = 16777216 ∨ d = 65536 ∨ d = 256 ∨ d = 1 := by
            have := hP.out
            unfold Put4 at this
            omega
          rcases hdc with rfl | rfl | rfl | rfl
          · obtain ⟨hs1, hs2, hs3⟩ := put4_step n n0 n1 b 16777216 L hP.out hd
            have HS := hide hs1
            have EL : Hid ((L ++ [n / 16777216 % 256]).length = L.length + 1) := by show _ = _; simp
            clear hs1
            obtain ⟨wn, hwn⟩ : ∃ wn, wr.alloc (.cells #[.int .u8 (n / 16777216 % 256)] 5) = wn := ⟨_, rfl⟩
            have bn : Below wr.heap.size wr wn := by rw [← hwn]; exact later_alloc _ _
            have inw : IsB wn.heap.size wn (.slice (some ⟨wr.heap.size, 0, none⟩) 1 1) [n / 16777216 % 256] := by
              rw [← hwn, World.size_alloc]; exact IsB_new [n / 16777216 % 256] (by omega)
            have gn := hG.out.later bn
            have zn : w.heap.size ≤ wn.heap.size := Nat.le_trans hB.size bn.size
            have bw := later hB bn
            have GN := hide gn
            have INW := hide inw
            have HWN := hide hwn
            clear hwn gn inw bn
            obtain ⟨L2, e2⟩ : ∃ L2, L ++ [n / 16777216 % 256] = L2 := ⟨_, rfl⟩
            have E2 := hide e2
            clear e2
            rw [← HWN.out] at bw zn GN INW
            rw [E2.out] at HS EL
            go_wp2_with (at_builtin; refine wpList_growB rfl (.tmp 21) (.tmp 27) rfl rfl w.heap.size _ _ L [n / 16777216 % 256] rfl rfl GN.out INW.out zn (by simp; omega) L2 E2.out ?_)
            intro a4 c4 w4 hc4 g4 b4
            clear HWN GN INW E2
            go_wp2
            go_roundw
            case rel => exact ⟨65536, L2, a4, c4, rfl, rfl, by omega, HS.out, g4, bw.trans b4⟩
            case measure => simp [intOf]
          · obtain ⟨hs1, hs2, hs3⟩ := put4_step n n0 n1 b 65536 L hP.out hd
            have HS := hide hs1
            have EL : Hid ((L ++ [n / 65536 % 256]).length = L.length + 1) := by show _ = _; simp
            clear hs1
            obtain ⟨wn, hwn⟩ : ∃ wn, wr.alloc (.cells #[.int .u8 (n / 65536 % 256)] 5) = wn := ⟨_, rfl⟩
            have bn : Below wr.heap.size wr wn := by rw [← hwn]; exact later_alloc _ _
            have inw : IsB wn.heap.size wn (.slice (some ⟨wr.heap.size, 0, none⟩) 1 1) [n / 65536 % 256] := by
              rw [← hwn, World.size_alloc]; exact IsB_new [n / 65536 % 256] (by omega)
            have gn := hG.out.later bn
            have zn : w.heap.size ≤ wn.heap.size := Nat.le_trans hB.size bn.size
            have bw := later hB bn
            have GN := hide gn
            have INW := hide inw
            have HWN := hide hwn
            clear hwn gn inw bn
            obtain ⟨L2, e2⟩ : ∃ L2, L ++ [n / 65536 % 256] = L2 := ⟨_, rfl⟩
            have E2 := hide e2
            clear e2
            rw [← HWN.out] at bw zn GN INW
            rw [E2.out] at HS EL
            go_wp2_with (at_builtin; refine wpList_growB rfl (.tmp 21) (.tmp 27) rfl rfl w.heap.size _ _ L [n / 65536 % 256] rfl rfl GN.out INW.out zn (by simp; omega) L2 E2.out ?_)
            intro a4 c4 w4 hc4 g4 b4
            clear HWN GN INW E2
            go_wp2
            go_roundw
            case rel => exact ⟨256, L2, a4, c4, rfl, rfl, by omega, HS.out, g4, bw.trans b4⟩
            case measure => simp [intOf]
          · obtain ⟨hs1, hs2, hs3⟩ := put4_step n n0 n1 b 256 L hP.out hd
            have HS := hide hs1
            have EL : Hid ((L ++ [n / 256 % 256]).length = L.length + 1) := by show _ = _; simp
            clear hs1
            obtain ⟨wn, hwn⟩ : ∃ wn, wr.alloc (.cells #[.int .u8 (n / 256 % 256)] 5) = wn := ⟨_, rfl⟩
            have bn : Below wr.heap.size wr wn := by rw [← hwn]; exact later_alloc _ _
            have inw : IsB wn.heap.size wn (.slice (some ⟨wr.heap.size, 0, none⟩) 1 1) [n / 256 % 256] := by
              rw [← hwn, World.size_alloc]; exact IsB_new [n / 256 % 256] (by omega)
            have gn := hG.out.later bn
            have zn : w.heap.size ≤ wn.heap.size := Nat.le_trans hB.size bn.size
            have bw := later hB bn
            have GN := hide gn
            have INW := hide inw
            have HWN := hide hwn
            clear hwn gn inw bn
            obtain ⟨L2, e2⟩ : ∃ L2, L ++ [n / 256 % 256] = L2 := ⟨_, rfl⟩
            have E2 := hide e2
            clear e2
            rw [← HWN.out] at bw zn GN INW
            rw [E2.out] at HS EL
            go_wp2_with (at_builtin; refine wpList_growB rfl (.tmp 21) (.tmp 27) rfl rfl w.heap.size _ _ L [n / 256 % 256] rfl rfl GN.out INW.out zn (by simp; omega) L2 E2.out ?_)
            intro a4 c4 w4 hc4 g4 b4
            clear HWN GN INW E2
            go_wp2
            go_roundw
            case rel => exact ⟨1, L2, a4, c4, rfl, rfl, by omega, HS.out, g4, bw.trans b4⟩
            case measure => simp [intOf]
          · obtain ⟨hs1, hs2, hs3⟩ := put4_step n n0 n1 b 1 L hP.out hd
            rw [Int.ediv_one] at hs1
            have HS := hide hs1
            have EL : Hid ((L ++ [n % 256]).length = L.length + 1) := by show _ = _; simp
            clear hs1
            obtain ⟨wn, hwn⟩ : ∃ wn, wr.alloc (.cells #[.int .u8 (n % 256)] 5) = wn := ⟨_, rfl⟩
            have bn : Below wr.heap.size wr wn := by rw [← hwn]; exact later_alloc _ _
            have inw : IsB wn.heap.size wn (.slice (some ⟨wr.heap.size, 0, none⟩) 1 1) [n % 256] := by
              rw [← hwn, World.size_alloc]; exact IsB_new [n % 256] (by omega)
            have gn := hG.out.later bn
            have zn : w.heap.size ≤ wn.heap.size := Nat.le_trans hB.size bn.size
            have bw := later hB bn
            have GN := hide gn
            have INW := hide inw
            have HWN := hide hwn
            clear hwn gn inw bn
            obtain ⟨L2, e2⟩ : ∃ L2, L ++ [n % 256] = L2 := ⟨_, rfl⟩
            have E2 := hide e2
            clear e2
            rw [← HWN.out] at bw zn GN INW
            rw [E2.out] at HS EL
            go_wp2_with (at_builtin; refine wpList_growB rfl (.tmp 21) (.tmp 27) rfl rfl w.heap.size _ _ L [n % 256] rfl rfl GN.out INW.out zn (by simp; omega) L2 E2.out ?_)
            intro a4 c4 w4 hc4 g4 b4
            clear HWN GN INW E2
            go_wp2
            go_roundw
            case rel => exact ⟨0, L2, a4, c4, rfl, rfl, by omega, HS.out, g4, bw.trans b4⟩
            case measure => simp [intOf]
        · have HE := hide (put4_end n b d L hP.out hd)
          go_wp2
          go_ret
          exact ⟨_, rfl, by rw [← HE.out]; exact hG.out, hB⟩
set_option maxHeartbeats 2000000 in
theorem rAt2_yes (b off len cap p : Nat) (x0 x1 : Int) (w : World) (hl : (len : Int) ≤ 4611686018427387904) (hp : p + 2 ≤ len) (h0 : w.cell? ⟨b, off + p, none⟩ = some (.int .u8 x0)) (h1 : w.cell? ⟨b, off + (p + 1), none⟩ = some (.int .u8 x1)) (a0 : 0 ≤ x0) (c0 : x0 ≤ 255) (a1 : 0 ≤ x1) (c1 : x1 ≤ 255) :
    Calls Try.prog 42 #[.slice (some ⟨b, off, none⟩) len cap, .int .i64 (p : Int), .int .i64 2] w fun e w' => e = .returned (.int .i64 (256 * (x0) + x1)) ∧ w' = w := by
  go_enter Try.func42, Try.ntmps42
  go_wp2
  go_loop [7, 8] (fun vn vi => (vn = .int .i64 (0) ∧ vi = .int .i64 0) ∨ (vn = .int .i64 (x0) ∧ vi = .int .i64 1) ∨ (vn = .int .i64 (256 * (x0) + x1) ∧ vi = .int .i64 2)) (fun _ vi => 2 - (intOf vi).toNat)
  case atStart => exact .inl ⟨rfl, rfl⟩
  case round =>
    rcases hrel with ⟨rfl, rfl⟩ | ⟨rfl, rfl⟩ | ⟨rfl, rfl⟩
    · go_wp2
      go_round
      case rel => exact .inr (.inl ⟨val_int (by omega), rfl⟩)
      case measure => simp [intOf]
    · go_wp2
      go_round
      case rel => exact .inr (.inr ⟨val_int (by omega), rfl⟩)
      case measure => simp [intOf]
    · go_wp2
      go_ret
      exact ⟨rfl, rfl⟩
set_option maxHeartbeats 1000000 in
theorem rAt2_no (a : Option Addr) (len cap : Nat) (at_ : Int) (w : World) (_hl : (len : Int) ≤ 4611686018427387904) (hs : stB len at_ 2 = false) :
    Calls Try.prog 42 #[.slice a len cap, .int .i64 at_, .int .i64 2] w fun e w' => e = .returned (.int .i64 (-1)) ∧ w' = w := by
  have h : ¬ (0 ≤ at_ ∧ 2 ≤ (len : Int) - at_) := of_decide_eq_false hs
  clear hs
  by_cases h0 : at_ < 0
  · go_enter Try.func42, Try.ntmps42
    go_wp2
    go_ret
    exact ⟨rfl, rfl⟩
  · by_cases h1 : (len : Int) < at_
    · go_enter Try.func42, Try.ntmps42
      go_wp2
      go_ret
      exact ⟨rfl, rfl⟩
    · have h2 : (len : Int) - at_ < 2 := by omega
      clear h
      go_enter Try.func42, Try.ntmps42
      go_wp2
      go_ret
      exact ⟨rfl, rfl⟩
theorem rAt2_any (v : Value) (bs : List Int) (at_ : Int) (w : World) (hb : IsB w.heap.size w v bs) (hB : Bytes bs) (hl : (bs.length : Int) ≤ 4611686018427387904) :
    Calls Try.prog 42 #[v, .int .i64 at_, .int .i64 2] w fun e w' => e = .returned (.int .i64 (if stB bs.length at_ 2 = true then rd16 bs at_ else -1)) ∧ w' = w := by
  obtain ⟨a, cap, rfl, hlc, hn, hc⟩ := hb
  cases hs : stB bs.length at_ 2 with
  | false =>
    refine (rAt2_no a bs.length cap at_ w hl hs).mono ?_
    rintro e w' ⟨rfl, rfl⟩
    exact ⟨by simp, rfl⟩
  | true =>
    have h2 : 0 ≤ at_ ∧ 2 ≤ (bs.length : Int) - at_ := by simpa [stB] using hs
    obtain ⟨k, rfl⟩ := Int.eq_ofNat_of_zero_le h2.1
    obtain ⟨b, off, rfl, hbb, hcs⟩ := hc (by omega)
    have g0 := hB.getD (k)
    have g1 := hB.getD (k + 1)
    refine (rAt2_yes b off bs.length cap k _ _ w hl (by omega) (hcs k (by omega)) (hcs (k + 1) (by omega)) g0.1 g0.2 g1.1 g1.2).mono ?_
    rintro e w' ⟨rfl, rfl⟩
    exact ⟨by rw [if_pos rfl, rd16, if_pos hs, Int.toNat_natCast], rfl⟩
set_option maxHeartbeats 2000000 in
theorem rAt4_yes (b off len cap p : Nat) (x0 x1 x2 x3 : Int) (w : World) (hl : (len : Int) ≤ 4611686018427387904) (hp : p + 4 ≤ len) (h0 : w.cell? ⟨b, off + p, none⟩ = some (.int .u8 x0)) (h1 : w.cell? ⟨b, off + (p + 1), none⟩ = some (.int .u8 x1)) (h2 : w.cell? ⟨b, off + (p + 2), none⟩ = some (.int .u8 x2)) (h3 : w.cell? ⟨b, off + (p + 3), none⟩ = some (.int .u8 x3)) (a0 : 0 ≤ x0) (c0 : x0 ≤ 255) (a1 : 0 ≤ x1) (c1 : x1 ≤ 255) (a2 : 0 ≤ x2) (c2 : x2 ≤ 255) (a3 : 0 ≤ x3) (c3 : x3 ≤ 255) :
    Calls Try.prog 42 #[.slice (some ⟨b, off, none⟩) len cap, .int .i64 (p : Int), .int .i64 4] w fun e w' => e = .returned (.int .i64 (256 * (256 * (256 * (x0) + x1) + x2) + x3)) ∧ w' = w := by
  go_enter Try.func42, Try.ntmps42
  go_wp2
  go_loop [7, 8] (fun vn vi => (vn = .int .i64 (0) ∧ vi = .int .i64 0) ∨ (vn = .int .i64 (x0) ∧ vi = .int .i64 1) ∨ (vn = .int .i64 (256 * (x0) + x1) ∧ vi = .int .i64 2) ∨ (vn = .int .i64 (256 * (256 * (x0) + x1) + x2) ∧ vi = .int .i64 3) ∨ (vn = .int .i64 (256 * (256 * (256 * (x0) + x1) + x2) + x3) ∧ vi = .int .i64 4)) (fun _ vi => 4 - (intOf vi).toNat)
  case atStart => exact .inl ⟨rfl, rfl⟩
  case round =>
    rcases hrel with ⟨rfl, rfl⟩ | ⟨rfl, rfl⟩ | ⟨rfl, rfl⟩ | ⟨rfl, rfl⟩ | ⟨rfl, rfl⟩
    · go_wp2
      go_round
      case rel => exact .inr (.inl ⟨val_int (by omega), rfl⟩)
      case measure => simp [intOf]
    · go_wp2
      go_round
      case rel => exact .inr (.inr (.inl ⟨val_int (by omega), rfl⟩))
      case measure => simp [intOf]
    · go_wp2
      go_round
      case rel => exact .inr (.inr (.inr (.inl ⟨val_int (by omega), rfl⟩)))
      case measure => simp [intOf]
    · go_wp2
      go_round
      case rel => exact .inr (.inr (.inr (.inr ⟨val_int (by omega), rfl⟩)))
      case measure => simp [intOf]
    · go_wp2
      go_ret
      exact ⟨rfl, rfl⟩
set_option maxHeartbeats 1000000 in
theorem rAt4_no (a : Option Addr) (len cap : Nat) (at_ : Int) (w : World) (_hl : (len : Int) ≤ 4611686018427387904) (hs : stB len at_ 4 = false) :
    Calls Try.prog 42 #[.slice a len cap, .int .i64 at_, .int .i64 4] w fun e w' => e = .returned (.int .i64 (-1)) ∧ w' = w := by
  have h : ¬ (0 ≤ at_ ∧ 4 ≤ (len : Int) - at_) := of_decide_eq_false hs
  clear hs
  by_cases h0 : at_ < 0
  · go_enter Try.func42, Try.ntmps42
    go_wp2
    go_ret
    exact ⟨rfl, rfl⟩
  · by_cases h1 : (len : Int) < at_
    · go_enter Try.func42, Try.ntmps42
      go_wp2
      go_ret
      exact ⟨rfl, rfl⟩
    · have h2 : (len : Int) - at_ < 4 := by omega
      clear h
      go_enter Try.func42, Try.ntmps42
      go_wp2
      go_ret
      exact ⟨rfl, rfl⟩
theorem rAt4_any (v : Value) (bs : List Int) (at_ : Int) (w : World) (hb : IsB w.heap.size w v bs) (hB : Bytes bs) (hl : (bs.length : Int) ≤ 4611686018427387904) :
    Calls Try.prog 42 #[v, .int .i64 at_, .int .i64 4] w fun e w' => e = .returned (.int .i64 (if stB bs.length at_ 4 = true then rd32 bs at_ else -1)) ∧ w' = w := by
  obtain ⟨a, cap, rfl, hlc, hn, hc⟩ := hb
  cases hs : stB bs.length at_ 4 with
  | false =>
    refine (rAt4_no a bs.length cap at_ w hl hs).mono ?_
    rintro e w' ⟨rfl, rfl⟩
    exact ⟨by simp, rfl⟩
  | true =>
    have h2 : 0 ≤ at_ ∧ 4 ≤ (bs.length : Int) - at_ := by simpa [stB] using hs
    obtain ⟨k, rfl⟩ := Int.eq_ofNat_of_zero_le h2.1
    obtain ⟨b, off, rfl, hbb, hcs⟩ := hc (by omega)
    have g0 := hB.getD (k)
    have g1 := hB.getD (k + 1)
    have g2 := hB.getD (k + 2)
    have g3 := hB.getD (k + 3)
    refine (rAt4_yes b off bs.length cap k _ _ _ _ w hl (by omega) (hcs k (by omega)) (hcs (k + 1) (by omega)) (hcs (k + 2) (by omega)) (hcs (k + 3) (by omega)) g0.1 g0.2 g1.1 g1.2 g2.1 g2.2 g3.1 g3.2).mono ?_
    rintro e w' ⟨rfl, rfl⟩
    exact ⟨by rw [if_pos rfl, rd32, if_pos hs, Int.toNat_natCast]; exact ret_int (by omega), rfl⟩

end Go.Proofs.Ytggadchhkenipaa
