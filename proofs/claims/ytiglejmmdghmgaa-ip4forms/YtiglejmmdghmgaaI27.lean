
/-
  The document's answer for heads: Encode.
-/
import Derived.Test.YtiglejmmdghmgaaI26
namespace Go.Proofs.Ytiglejmmdghmgaa
open Go.RowKit Go.Shelf

set_option maxRecDepth 100000 in
set_option maxHeartbeats 16000000 in
theorem rEncode_any (p : Pk) (ov bv : Value) (b : List Int) (w : World) (hov : IsB w.heap.size w ov p.opts) (hbv : IsB w.heap.size w bv b) (hs : p.src.Ok) (hd : p.dst.Ok) (ho : Bytes p.opts) (hlo : (p.opts.length : Int) ≤ 4611686018427380000) (hlb : (b.length : Int) ≤ 4611686018427380000) :
    Calls Try.prog 11 #[.agg (p.cells ov).toArray, bv] w (EnE w.heap.size w p b) := by
  obtain ⟨ao, co, rfl, _⟩ := hov.shape
  obtain ⟨ab, cb, rfl, _⟩ := hbv.shape
  obtain ⟨n, hn⟩ : ∃ n, n = p.opts.length := ⟨_, rfl⟩
  obtain ⟨bl, hbl⟩ : ∃ bl, bl = b.length := ⟨_, rfl⟩
  obtain ⟨s, hs0⟩ : ∃ s, s = w.heap.size := ⟨_, rfl⟩
  rw [← hn] at hov hlo ⊢
  rw [← hbl] at hbv hlb ⊢
  obtain ⟨X, hX⟩ : ∃ X, X = p.cells (.slice ao n co) := ⟨_, rfl⟩
  have lX : X.length = 16 := by rw [hX]; rfl
  rw [← hX]
  obtain ⟨w1, hw1⟩ : ∃ w1, w1 = w.alloc (.cells X.toArray 26) := ⟨_, rfl⟩
  have b1 : Below w.heap.size w w1 := by rw [hw1]; exact later_alloc _ _
  have c1 : CellsAt w1 s 0 X := by rw [hw1, hs0]; exact CellsAt.new w X 26
  have l1 : s < w1.heap.size := by rw [hw1, hs0]; simp
  have HC1 := hide c1
  rw [hX] at c1
  have x8 : w1.cell? ⟨s, 8, none⟩ = some (.int .i64 p.proto) := c1 8 _ rfl
  have x9 : w1.cell? ⟨s, 9, none⟩ = some (.int .i64 p.ttl) := c1 9 _ rfl
  have x10 : w1.cell? ⟨s, 10, none⟩ = some (.int .i64 p.id) := c1 10 _ rfl
  have x11 : w1.cell? ⟨s, 11, none⟩ = some (.int .i64 p.tos) := c1 11 _ rfl
  have x14 : w1.cell? ⟨s, 14, none⟩ = some (.int .i64 p.off) := c1 14 _ rfl
  have x15 : w1.cell? ⟨s, 15, none⟩ = some (.slice ao n co) := c1 15 _ rfl
  have HX := hide hX
  have HB1 := hide b1
  have LX := hide lX
  have HOV := hide hov
  have HBV := hide hbv
  have HN := hide hn
  have HBL := hide hbl
  obtain ⟨E0, hE0⟩ : ∃ E0, E0 = enE p bl := ⟨_, rfl⟩
  have EE : Hid (E0 = if mb p = false then 1 else if opB p = false then 92 else if 65535 < 20 + n + bl then 2 else 0) := by unfold Hid; rw [hE0, hn]; rfl
  have POST : Hid (∀ e w', (Below w.heap.size w w' ∧ ((E0 = 0 ∧ ∃ v, e = .returned (.tuple #[v, .int .i64 0]) ∧ Gro w.heap.size w' v (enB p b)) ∨ (E0 ≠ 0 ∧ e = .returned (.tuple #[.slice none 0 0, .int .i64 E0])))) → EnE w.heap.size w p b e w') := fun e w' h => by
    unfold EnE
    rw [← hbl, ← hE0]
    exact h
  refine Calls.mono (R := fun e w' => Below w.heap.size w w' ∧ ((E0 = 0 ∧ ∃ v, e = .returned (.tuple #[v, .int .i64 0]) ∧ Gro w.heap.size w' v (enB p b)) ∨ (E0 ≠ 0 ∧ e = .returned (.tuple #[.slice none 0 0, .int .i64 E0])))) ?_ POST.out
  have MBF : Hid (mb p = false → E0 = 1) := fun h => by rw [EE.out, if_pos h]
  have MBT : Hid (¬ ((0 ≤ p.proto ∧ p.proto ≤ 255) ∧ (0 ≤ p.tos ∧ p.tos ≤ 255) ∧ (0 ≤ p.id ∧ p.id ≤ 65535) ∧ (1 ≤ p.ttl ∧ p.ttl ≤ 255) ∧ (0 ≤ p.off ∧ p.off ≤ 65528) ∧ p.off % 8 = 0) → E0 = 1) := fun h => MBF.out (by
    cases hm : mb p with
    | false => rfl
    | true => exact absurd (mb_true hm) h)
  clear hX b1 c1 lX hov hbv hn hbl hE0 POST MBF
  go_enter Try.func11, Try.ntmps11
  have hw1' := hw1.symm
  have hs' := hs0.symm
  clear hw1 hs0
  go_upto_region 1 with fail
  clear hw1' hs'
  by_cases k1 : p.proto < 0
  · have E1 : Hid (E0 = 1) := MBT.out (by omega)
    go_wp2
    refine bodyPost_ret (v := .tuple #[.slice none 0 0, .int .i64 1]) (by simp [results, go_sem]) rfl ?_
    exact ⟨HB1.out, .inr ⟨by rw [E1.out]; decide, by rw [E1.out]⟩⟩
  by_cases k2 : 255 < p.proto
  · have E1 : Hid (E0 = 1) := MBT.out (by omega)
    go_wp2
    refine bodyPost_ret (v := .tuple #[.slice none 0 0, .int .i64 1]) (by simp [results, go_sem]) rfl ?_
    exact ⟨HB1.out, .inr ⟨by rw [E1.out]; decide, by rw [E1.out]⟩⟩
  by_cases k3 : p.tos < 0
  · have E1 : Hid (E0 = 1) := MBT.out (by omega)
    go_wp2
    refine bodyPost_ret (v := .tuple #[.slice none 0 0, .int .i64 1]) (by simp [results, go_sem]) rfl ?_
    exact ⟨HB1.out, .inr ⟨by rw [E1.out]; decide, by rw [E1.out]⟩⟩
  by_cases k4 : 255 < p.tos
  · have E1 : Hid (E0 = 1) := MBT.out (by omega)
    go_wp2
    refine bodyPost_ret (v := .tuple #[.slice none 0 0, .int .i64 1]) (by simp [results, go_sem]) rfl ?_
    exact ⟨HB1.out, .inr ⟨by rw [E1.out]; decide, by rw [E1.out]⟩⟩
  by_cases k5 : p.id < 0
  · have E1 : Hid (E0 = 1) := MBT.out (by omega)
    go_wp2
    refine bodyPost_ret (v := .tuple #[.slice none 0 0, .int .i64 1]) (by simp [results, go_sem]) rfl ?_
    exact ⟨HB1.out, .inr ⟨by rw [E1.out]; decide, by rw [E1.out]⟩⟩
  by_cases k6 : 65535 < p.id
  · have E1 : Hid (E0 = 1) := MBT.out (by omega)
    go_wp2
    refine bodyPost_ret (v := .tuple #[.slice none 0 0, .int .i64 1]) (by simp [results, go_sem]) rfl ?_
    exact ⟨HB1.out, .inr ⟨by rw [E1.out]; decide, by rw [E1.out]⟩⟩
  by_cases k7 : p.ttl < 1
  · have E1 : Hid (E0 = 1) := MBT.out (by omega)
    go_wp2
    refine bodyPost_ret (v := .tuple #[.slice none 0 0, .int .i64 1]) (by simp [results, go_sem]) rfl ?_
    exact ⟨HB1.out, .inr ⟨by rw [E1.out]; decide, by rw [E1.out]⟩⟩
  by_cases k8 : 255 < p.ttl
  · have E1 : Hid (E0 = 1) := MBT.out (by omega)
    go_wp2
    refine bodyPost_ret (v := .tuple #[.slice none 0 0, .int .i64 1]) (by simp [results, go_sem]) rfl ?_
    exact ⟨HB1.out, .inr ⟨by rw [E1.out]; decide, by rw [E1.out]⟩⟩
  by_cases k9 : p.off < 0
  · have E1 : Hid (E0 = 1) := MBT.out (by omega)
    go_wp2
    refine bodyPost_ret (v := .tuple #[.slice none 0 0, .int .i64 1]) (by simp [results, go_sem]) rfl ?_
    exact ⟨HB1.out, .inr ⟨by rw [E1.out]; decide, by rw [E1.out]⟩⟩
  by_cases k10 : 65528 < p.off
  · have E1 : Hid (E0 = 1) := MBT.out (by omega)
    go_wp2
    refine bodyPost_ret (v := .tuple #[.slice none 0 0, .int .i64 1]) (by simp [results, go_sem]) rfl ?_
    exact ⟨HB1.out, .inr ⟨by rw [E1.out]; decide, by rw [E1.out]⟩⟩
  by_cases k11 : p.off % 8 = 0
  case neg =>
    have E1 : Hid (E0 = 1) := MBT.out (by omega)
    have q : (p.off.tmod 8 != 0) = true := by rw [Int.tmod_eq_emod_of_nonneg (by omega)]; simpa using k11
    have q' : (p.off % 8 != 0) = true := by simpa using k11
    clear k11
    go_wp2
    refine bodyPost_ret (v := .tuple #[.slice none 0 0, .int .i64 1]) (by simp [results, go_sem]) rfl ?_
    exact ⟨HB1.out, .inr ⟨by rw [E1.out]; decide, by rw [E1.out]⟩⟩
  have q : (p.off.tmod 8 != 0) = false := by rw [Int.tmod_eq_emod_of_nonneg (by omega), k11]; rfl
  have q' : (p.off % 8 != 0) = false := by rw [k11]; rfl
  have MB : Hid (mb p = true) := by
    unfold Hid
    simp only [mb, Bool.and_eq_true]
    exact ⟨decide_eq_true ⟨by omega, by omega⟩, decide_eq_true ⟨by omega, by omega⟩, decide_eq_true ⟨by omega, by omega⟩, decide_eq_true ⟨by omega, by omega⟩, decide_eq_true ⟨by omega, by omega⟩, decide_eq_true k11⟩
  have EE2 : Hid (E0 = if opB p = false then 92 else if 65535 < 20 + n + bl then 2 else 0) := by unfold Hid; rw [EE.out, if_neg (by rw [MB.out]; decide)]
  have OPB : Hid (opB p = (decide (n ≤ 40) && (decide (n % 4 = 0) && okO p.opts))) := by unfold Hid; rw [HN.out]; rfl
  have BADO : Hid (opB p = false → E0 = 92) := fun h => by rw [EE2.out, if_pos h]
  have RI := hide (rRight_any (.slice ao n co) p.opts w1 (HOV.out.later HB1.out) ho (by rw [← HN.out]; omega))
  obtain ⟨r, hr⟩ : ∃ r, r = okO p.opts := ⟨_, rfl⟩
  rw [← hr] at RI OPB
  clear hr k11 EE MBT
  go_wp2_with fail
  clear x8 x9 x10 x11 x14 q q'
  refine RI.out.mono ?_
  rintro _ w2 ⟨rfl, e2⟩
  rw [e2]
  clear e2 RI
  cases r with
  | false =>
    have E1 : Hid (E0 = 92) := BADO.out (by rw [OPB.out]; simp)
    go_wp2
    refine bodyPost_ret (v := .tuple #[.slice none 0 0, .int .i64 92]) (by simp [results, go_sem]) rfl ?_
    exact ⟨HB1.out, .inr ⟨by rw [E1.out]; decide, by rw [E1.out]⟩⟩
  | true =>
    by_cases h40 : (40 : Int) < (n : Int)
    · have E1 : Hid (E0 = 92) := BADO.out (by rw [OPB.out, decide_eq_false (by omega)]; rfl)
      go_wp2
      refine bodyPost_ret (v := .tuple #[.slice none 0 0, .int .i64 92]) (by simp [results, go_sem]) rfl ?_
      exact ⟨HB1.out, .inr ⟨by rw [E1.out]; decide, by rw [E1.out]⟩⟩
    by_cases h4 : n % 4 = 0
    case neg =>
      have E1 : Hid (E0 = 92) := BADO.out (by rw [OPB.out, decide_eq_false h4]; simp)
      have q4' : ((n : Int) % 4 != 0) = true := by
        have : (n : Int) % 4 ≠ 0 := by omega
        simpa using this
      have q4 : ((n : Int).tmod 4 != 0) = true := by
        rw [Int.tmod_eq_emod_of_nonneg (by omega)]
        exact q4'
      go_wp2
      refine bodyPost_ret (v := .tuple #[.slice none 0 0, .int .i64 92]) (by simp [results, go_sem]) rfl ?_
      exact ⟨HB1.out, .inr ⟨by rw [E1.out]; decide, by rw [E1.out]⟩⟩
    have q4' : ((n : Int) % 4 != 0) = false := by
      have : (n : Int) % 4 = 0 := by omega
      rw [this]; rfl
    have q4 : ((n : Int).tmod 4 != 0) = false := by
      rw [Int.tmod_eq_emod_of_nonneg (by omega)]
      exact q4'
    have EE3 : Hid (E0 = if 65535 < 20 + n + bl then 2 else 0) := by
      unfold Hid
      rw [EE2.out, if_neg (by rw [OPB.out, decide_eq_true h4, decide_eq_true (by omega)]; decide)]
    by_cases hbig : 65535 < 20 + n + bl
    · have E1 : Hid (E0 = 2) := by unfold Hid; rw [EE3.out, if_pos hbig]
      have zb : (65535 : Int) < 20 + (n : Int) + (bl : Int) := by omega
      go_wp2
      refine bodyPost_ret (v := .tuple #[.slice none 0 0, .int .i64 2]) (by simp [results, go_sem]) rfl ?_
      exact ⟨HB1.out, .inr ⟨by rw [E1.out]; decide, by rw [E1.out]⟩⟩
    have E1 : Hid (E0 = 0) := by unfold Hid; rw [EE3.out, if_neg hbig]
    have zb : ¬ (65535 : Int) < 20 + (n : Int) + (bl : Int) := by omega
    obtain ⟨sz, hsz⟩ : ∃ sz, sz = 20 + (n : Int) + (bl : Int) := ⟨_, rfl⟩
    have R3 := rhead_any p (.slice ao n co) sz 0 w1 (HOV.out.later HB1.out) MB.out (by rw [← HN.out]; omega) (by omega) (by omega) (by decide) (by decide)
    rw [← HX.out] at R3
    have HR3 := hide R3
    rw [hsz] at HR3
    have HSZ := hide hsz
    clear R3 EE2 EE3 BADO OPB h4 hsz
    go_wp2_with (refine wpList_loadA rfl 26 16 aggP sizP _ rfl s 0 rfl X LX.out HC1.out ?_)
    rw [← HSZ.out] at HR3 ⊢
    refine HR3.out.mono ?_
    rintro _ w3 ⟨v3, rfl, g3, b3⟩
    have B3 : Hid (Below w.heap.size w w3) := HB1.out.trans (b3.mono HB1.out.size)
    have C3 := hide (HC1.out.later l1 b3)
    have L3 : s < w3.heap.size := Nat.lt_of_lt_of_le l1 b3.size
    obtain ⟨a3, e3, rfl, _⟩ := g3.isB.shape
    have I3 := hide g3.isB
    obtain ⟨N3, hN3⟩ : ∃ N3, N3 = (hdS p sz 0).length := ⟨_, rfl⟩
    rw [← hN3] at I3 ⊢
    have AB := ahd_bytes MB.out (by rw [← HN.out]; omega)
    have BB := bhd_bytes hs hd ho
    have HBY : Hid (Bytes (hdS p sz 0)) := (AB sz).append ((put16_bytes _).append BB)
    have HLN : Hid (((hdS p sz 0).length : Int) ≤ 4611686018427387900) := by unfold Hid; rw [hdS_len, ← HN.out]; omega
    obtain ⟨c, hc⟩ : ∃ c, c = csum (ahd p sz ++ bhd p) := ⟨_, rfl⟩
    have HC := hide hc
    have CB : Hid (0 ≤ c ∧ c ≤ 65535) := by rw [hc]; exact csum_bd _
    have SC : Hid (csum (hdS p sz 0) = c) := by unfold Hid; rw [hdS_sum, hc]
    have Z0 : Hid (0 ≤ sz ∧ sz ≤ 65535) := by have := HSZ.out; exact ⟨by omega, by omega⟩
    have N40 : Hid (p.opts.length ≤ 40) := by unfold Hid; rw [← HN.out]; omega
    clear g3 b3 HR3 x15 AB BB hc hN3 zb q4 q4' h40 hbig k1 k2 k3 k4 k5 k6 k7 k8 k9 k10
    go_upto_region 10 with fail
    have CW : ∀ W, Below w3.heap.size w3.drew W → CellsAt W s 0 X := fun W hb => C3.out.later L3 (((Below.refl _ w3).drew).trans hb)
    have BW : ∀ W, Below w3.heap.size w3.drew W → Below w3.heap.size w3 W := fun W hb => ((Below.refl _ w3).drew).trans hb
    have HDW : ∀ W, Below w3.heap.size w3.drew W → Calls Try.prog 26 #[.agg (p.cells (.slice ao n co)).toArray, .int .i64 sz, .int .i64 c] W fun e W' => ∃ v, e = .returned v ∧ Gro w3.heap.size W' v (hdS p sz c) ∧ Below W.heap.size W W' := fun W hb => by
      refine (rhead_any p (.slice ao n co) sz c W (HOV.out.later (B3.out.trans ((BW W hb).mono B3.out.size))) MB.out N40.out Z0.out.1 Z0.out.2 CB.out.1 CB.out.2).mono ?_
      rintro _ W' ⟨v, rfl, g, b⟩
      exact ⟨v, rfl, g.low (BW W hb).size, b⟩
    refine region_grow (w := w3) (fun i v W => match i with | 0 => v = .agg (p.cells (.slice ao n co)).toArray | 1 => v = .int .i64 sz | 2 => v = .slice a3 N3 e3 | 3 => v = .int .i64 c | 4 => Gro w3.heap.size W v (hdS p sz c) | 5 => Gro w3.heap.size W v (hdS p sz c) | _ => True) (by kernel_rfl) (by kernel_rfl) (by kernel_rfl) (no_guard (by kernel_rfl)) (fun i v W W' h hb => match i, h with | 0, h => h | 1, h => h | 2, h => h | 3, h => h | 4, h => Gro.later h hb | 5, h => Gro.later h hb | _ + 6, h => h) ?_ ?_
    · intro listed a W hM hn i o ho hr
      have B := hM.bel
      match i, ho, hr with
      | 0, ho, hr =>
        have u2 : a.eval (.tmp 2) = .pointer (some ⟨s, 0, none⟩) := hM.keep (t := 2) (by kernel_rfl)
        exact Step.of rfl (.inl ⟨.agg (p.cells (.slice ao n co)).toArray, W, exec_loadA 26 16 aggP sizP _ rfl s 0 u2 (p.cells (.slice ao n co)) rfl ((by rw [← HX.out]; exact CW W B)), Below.refl _ _, rfl⟩) ho
      | 1, ho, hr =>
        have u7 : a.eval (.tmp 7) = .int .i64 sz := hM.keep (t := 7) (by kernel_rfl)
        exact Step.of rfl (.inl ⟨.int .i64 sz, W, exec_move _ _ rfl u7, Below.refl _ _, rfl⟩) ho
      | 2, ho, hr =>
        have u8 : a.eval (.tmp 8) = .slice a3 N3 e3 := hM.keepB (t := 8) hr (by kernel_rfl)
        exact Step.of rfl (.inl ⟨.slice a3 N3 e3, W, exec_move _ _ rfl u8, Below.refl _ _, rfl⟩) ho
      | 3, ho, hr =>
        have u95 := hM.use hr rfl (j := 2) (by kernel_rfl) rfl rfl
        have u95 : a.eval (.tmp 95) = .slice a3 N3 e3 := u95
        refine Step.of rfl (.inr ⟨18, #[.slice a3 N3 e3], exec_callF _ _ _ _ rfl (map1 u95) (enters_of Try.func18 (by kernel_rfl) rfl), ?_⟩) ho
        exact (rSum_any _ _ W (I3.out.later (BW W B)) HBY.out HLN.out).mono (by rintro _ W' ⟨rfl, e⟩; rw [e]; exact ⟨_, rfl, congrArg (Value.int .i64) SC.out, Below.refl _ _⟩)
      | 4, ho, hr =>
        have u93 := hM.use hr rfl (j := 0) (by kernel_rfl) rfl rfl
        have u93 : a.eval (.tmp 93) = .agg (p.cells (.slice ao n co)).toArray := u93
        have u94 := hM.use hr rfl (j := 1) (by kernel_rfl) rfl rfl
        have u94 : a.eval (.tmp 94) = .int .i64 sz := u94
        have u96 := hM.use hr rfl (j := 3) (by kernel_rfl) rfl rfl
        have u96 : (fun v W => v = .int .i64 c) (a.eval (.tmp 96)) W := u96
        refine Step.of rfl (.inr ⟨26, #[.agg (p.cells (.slice ao n co)).toArray, .int .i64 sz, .int .i64 c], exec_callF _ _ _ _ rfl (map3 u93 u94 u96) (enters_of Try.func26 (by kernel_rfl) rfl), ?_⟩) ho
        exact HDW W B
      | 5, ho, hr =>
        have u97 := hM.use hr rfl (j := 4) (by kernel_rfl) rfl rfl
        have u97 : (fun v W => Gro w3.heap.size W v (hdS p sz c)) (a.eval (.tmp 97)) W := u97
        exact Step.of rfl (.inl ⟨_, W, exec_assign _ _ rfl rfl, Below.refl _ _, u97⟩) ho
      | n + 6, ho, _ => exact absurd (Array.getElem?_eq_some_iff.1 ho).1 (by simp)
    intro listed a W hM hl
    have B := hM.bel
    have p93 : a.tmps.getD 93 undef = .agg (p.cells (.slice ao n co)).toArray := hM.got 0 _ _ rfl (hl 0 (by decide)) rfl
    have p94 : a.tmps.getD 94 undef = .int .i64 sz := hM.got 1 _ _ rfl (hl 1 (by decide)) rfl
    have p95 : a.tmps.getD 95 undef = .slice a3 N3 e3 := hM.got 2 _ _ rfl (hl 2 (by decide)) rfl
    have p96 : (fun v W => v = .int .i64 c) (a.tmps.getD 96 undef) W := hM.got 3 _ _ rfl (hl 3 (by decide)) rfl
    have p97 : (fun v W => Gro w3.heap.size W v (hdS p sz c)) (a.tmps.getD 97 undef) W := hM.got 4 _ _ rfl (hl 4 (by decide)) rfl
    have p8 : (fun v W => Gro w3.heap.size W v (hdS p sz c)) (a.tmps.getD 8 undef) W := hM.got 5 _ _ rfl (hl 5 (by decide)) rfl
    rw [hM.lit [93, 94, 95, 96, 97, 8] (by kernel_rfl)]
    clear hM hl
    simp only [fill, List.foldl_cons, List.foldl_nil, Act.put, List.setIfInBounds_toArray, List.set_cons_zero, List.set_cons_succ]
    clear p93
    generalize a.tmps.getD 93 undef = x93 at *
    clear p94
    generalize a.tmps.getD 94 undef = x94 at *
    clear p95
    generalize a.tmps.getD 95 undef = x95 at *
    generalize a.tmps.getD 96 undef = x96 at *
    generalize a.tmps.getD 97 undef = x97 at *
    generalize a.tmps.getD 8 undef = x8 at *
    have B4 : Hid (Below w.heap.size w W) := B3.out.trans ((BW W B).mono B3.out.size)
    have Z4 : Hid (w3.heap.size ≤ W.heap.size) := (BW W B).size
    have G4 : Hid (Gro w3.heap.size W x8 (hdS p sz c)) := p8
    obtain ⟨a4, e4, e8, _⟩ := G4.out.isB.shape
    subst e8
    have I5 := hide (HBV.out.later B4.out)
    have EB : Hid (hdS p sz c ++ b = enB p b) := by
      unfold Hid
      rw [enB_split, ← HN.out, ← HBL.out, ← HSZ.out]
      unfold hdB
      rw [← HC.out]
      rfl
    have EL : Hid ((hdS p sz c).length + b.length ≤ 140737488355328) := by
      unfold Hid
      rw [hdS_len, ← HN.out, ← HBL.out]
      have := HSZ.out
      have := Z0.out
      omega
    obtain ⟨N4, hN4⟩ : ∃ N4, N4 = (hdS p sz c).length := ⟨_, rfl⟩
    rw [← hN4] at G4 ⊢
    clear p96 p97 p8 B CW BW HDW hN4
    go_wp2_with (at_builtin; refine wpList_growB rfl (.tmp 98) (.tmp 99) rfl rfl w3.heap.size (.slice a4 N4 e4) _ (hdS p sz c) b rfl rfl G4.out I5.out Z4.out EL.out (enB p b) EB.out ?_)
    intro a5 e5 w5 _ g5 b5
    have G5 : Hid (Gro w.heap.size w5 (.slice a5 (enB p b).length e5) (enB p b)) := g5.low B3.out.size
    have B5 : Hid (Below w.heap.size w w5) := B4.out.trans (b5.mono B3.out.size)
    clear g5 b5
    go_wp2
    refine bodyPost_ret (v := .tuple #[.slice a5 (enB p b).length e5, .int .i64 0]) (by simp [results, go_sem]) rfl ?_
    exact ⟨B5.out, .inl ⟨E1.out, _, rfl, G5.out⟩⟩
end Go.Proofs.Ytiglejmmdghmgaa
