
/-
  Package ether: the contract of Encode, where there is a frame.
-/
import Derived.Test.YtipebfaappangaaE8
namespace Go.Proofs.Ytipebfaappangaa
open Go.RowKit

set_option maxHeartbeats 4000000 in
theorem Encode_yes {A : Nat → Prop} {w : World} {v : Value} {f : Fr} {bs : List Int} (hv : IsF A w v bs) (hm : mbB f = true) (hl : bs.length ≤ 256) : Calls Try.prog 9 #[f.val, v] w (EnEnd w f bs) := by
  obtain ⟨i0, hi, hz0, hz1, hz2⟩ := info_parts info_u8
  obtain ⟨a, cap, rfl, hcap, -⟩ := hv.shape
  have F0 := hide (FrAt.new w f 25)
  have B0 := hide (later_alloc w (.cells f.cells 25))
  have C := mayBe_any f (w.alloc (.cells f.cells 25))
  rw [hm] at C
  have HC := hide C
  have E := hide (show enE f bs.length = 0 from by unfold enE; rw [hm, if_neg (by simp), if_neg (by omega)])
  have BD := hide (mb_bd hm)
  obtain ⟨B, hB⟩ : ∃ B, B = w.heap.size + 1 := ⟨_, rfl⟩
  have HB := hide hB
  have HV := hide hv
  obtain ⟨n, hn⟩ : ∃ n, n = bs.length := ⟨_, rfl⟩
  rw [← hn] at HV ⊢
  have n256 : (n : Int) ≤ 256 := by omega
  have HN := hide hn
  simp only [Fr.val]
  clear C hm hv hl hB hn hcap
  go_enter Try.func9, Try.ntmps9
  go_wp2_with (refine wpList_load_fr rfl _ rfl w.heap.size rfl f F0.out ?_)
  refine HC.out.mono ?_
  rintro e w1 ⟨rfl, b1⟩
  have B1 := hide (later B0.out b1)
  have Z1 : Hid (B ≤ w1.heap.size) := by have := b1.size; rw [World.size_alloc] at this; have := HB.out; show _ ≤ _; omega
  have F1 := hide (F0.out.later b1)
  clear F0 B0 b1 HC
  go_wp2_with (at_make; refine wpList_make_own _ rfl _ _ 26 rfl B 5 i0 (.int .u8 0) 1 Try.underlying26 hi hz0 hz1 .i64 .i64 _ 274 rfl rfl rfl (by rw [hz2]; omega) (by unfold maxLen; omega) Z1.out ?_)
  intro w2 hown hg
  have b2 : Below w1.heap.size w1 w2 := (Below.refl _ w1).grown hg (Nat.le_refl _) (fun k e => by cases e)
  have G2 : Hid (Gro B w2 (.slice (some ⟨w1.heap.size, 0, none⟩) 0 274) []) := hown
  have B2 := hide (later B1.out b2)
  have F2 := hide (F1.out.later b2)
  have Z2 := hide (Nat.le_trans Z1.out b2.size)
  clear hown hg b2 F1 B1
  clear hi hz0 hz1 hz2 i0
  obtain ⟨s, hs⟩ : ∃ s, w.heap.size = s := ⟨_, rfl⟩
  have HS : Hid (s < B) := by have := HB.out; show _ < _; omega
  rw [hs] at F2 ⊢
  have HSW := hide hs
  clear hs
  generalize (some { block := w1.heap.size, off := 0, spot := none } : Option Addr) = ad at G2 ⊢
  obtain ⟨L1, e1⟩ : ∃ L1, [] ++ mL f.dst = L1 := ⟨_, rfl⟩
  have E1 := hide e1
  clear e1
  go_upto_region 7 with (at_builtin; refine wpList_grow rfl _ _ rfl rfl B (fun _ => False) _ _ [] (mL f.dst) rfl rfl G2.out F2.out.dstF Z2.out (by simp [mL]) L1 E1.out ?_)
  intro a3 c3 w3 hc3 g3 b3
  have F3 := hide (F2.out.keep b3 HS.out)
  have G3 := hide g3
  have Z3 := hide (Nat.le_trans Z2.out b3.size)
  have B3 := hide (B2.out.trans (b3.mono (by have := HB.out; omega)))
  have H3 := hide hc3
  clear g3 b3 F2 G2 Z2 hc3 B2
  obtain ⟨L2, e2⟩ : ∃ L2, L1 ++ mL f.src = L2 := ⟨_, rfl⟩
  have E2 := hide e2
  have l1 : Hid (L1.length = 6) := by show _ = _; rw [← E1.out]; rfl
  clear e2
  go_upto_region 8 with (at_builtin; refine wpList_grow rfl _ _ rfl rfl B (fun _ => False) _ _ L1 (mL f.src) rfl rfl G3.out F3.out.srcF Z3.out (by rw [l1.out]; simp [mL]) L2 E2.out ?_)
  intro a4 c4 w4 hc4 g4 b4
  have F4 := hide (F3.out.keep b4 HS.out)
  have G4 := hide g4
  have Z4 := hide (Nat.le_trans Z3.out b4.size)
  have B4 := hide (B3.out.trans (b4.mono (by have := HB.out; omega)))
  clear g4 b4 F3 G3 Z3 hc4 H3 B3
  have l2 : Hid (L2.length = 12) := by show _ = _; rw [← E2.out, List.length_append, l1.out]; rfl
  obtain ⟨t, ht⟩ : ∃ t, f.tag = t := ⟨_, rfl⟩
  obtain ⟨y, hy⟩ : ∃ y, f.ty = y := ⟨_, rfl⟩
  obtain ⟨vl, hvl⟩ : ∃ vl, f.vlan = vl := ⟨_, rfl⟩
  obtain ⟨pr, hpr⟩ : ∃ pr, f.prio = pr := ⟨_, rfl⟩
  have c12 := F4.out.c12
  have c13 := F4.out.c13
  have c14 := F4.out.c14
  rw [ht] at c12 BD
  rw [hvl] at c13 BD
  rw [hpr] at c14 BD
  rw [hy] at BD
  obtain ⟨TT, hTT⟩ : ∃ TT, enT f = TT := ⟨_, rfl⟩
  have ET : Hid (TT = if t = true then put16 33024 ++ put16 (pr * 8192 + vl) else []) := by show _ = _; rw [← hTT, enT, ht, hvl, hpr]
  have HTT := hide hTT
  have HY := hide hy
  clear ht hy hvl hpr hTT
  go_upto_if 25 with fail
  go_cut [6] (fun v6 wc => ∃ (ax : Option Addr) (cx : Nat) (LX : List Int), v6 = .slice ax LX.length cx ∧ Hid (L2 ++ TT = LX) ∧ Hid (FrAt wc s f) ∧ Hid (Gro B wc (.slice ax LX.length cx) LX) ∧ Hid (B ≤ wc.heap.size) ∧ Hid (Below w.heap.size w wc))
  case first =>
    cases t
    · go_wp2
      go_meet
      case rel => exact ⟨a4, c4, L2, rfl, by show _ = _; rw [ET.out]; simp, F4.out, G4.out, Z4.out, B4.out⟩
    · obtain ⟨v0, v1, p0, p1⟩ := BD.out.2.2 rfl
      have hj := i64_join13 pr vl p0 p1 v0 v1
      have P1 := hide (put_any 33024 G4.out Z4.out (by rw [l2.out]; omega) _ rfl)
      obtain ⟨L3, e3⟩ : ∃ L3, L2 ++ put16 33024 = L3 := ⟨_, rfl⟩
      rw [e3] at P1
      have E3 := hide e3
      clear e3
      go_wp2_with fail
      refine P1.out.mono ?_
      rintro e w5 ⟨a5, c5, rfl, _, g5, b5⟩
      have F5 := hide (F4.out.keep b5 HS.out)
      have Z5 := hide (Nat.le_trans Z4.out b5.size)
      have B5 := hide (B4.out.trans (b5.mono (by have := HB.out; omega)))
      have l3 : Hid (L3.length = 14) := by show _ = _; rw [← E3.out, List.length_append, l2.out]; rfl
      replace c13 := (b5.cell (p := ⟨s, 13, none⟩) HS.out).trans c13
      replace c14 := (b5.cell (p := ⟨s, 14, none⟩) HS.out).trans c14
      have P2 := hide (put_any (pr * 8192 + vl) g5 Z5.out (by rw [l3.out]; omega) _ rfl)
      obtain ⟨L4, e4⟩ : ∃ L4, L3 ++ put16 (pr * 8192 + vl) = L4 := ⟨_, rfl⟩
      rw [e4] at P2
      have E4 := hide e4
      clear e4 b5 g5 P1
      go_wp2_with fail
      refine P2.out.mono ?_
      rintro e w6 ⟨a6, c6, rfl, _, g6, b6⟩
      go_wp2
      go_meet
      case rel => exact ⟨a6, c6, L4, rfl, by show _ = _; rw [ET.out, ← E4.out, ← E3.out]; simp, F5.out.keep b6 HS.out, g6, Nat.le_trans Z5.out b6.size, B5.out.trans (b6.mono (by have := HB.out; omega))⟩
  case rest =>
    obtain ⟨ax, cx, LX, rfl, EX, F5, G5, Z5, B5⟩ := hcut
    clear F4 G4 Z4 B4 c12 c13 c14
    have lX : Hid (LX.length ≤ 16 ∧ 12 ≤ LX.length) := by
      show _ ∧ _
      rw [← EX.out, List.length_append, l2.out, ET.out]
      split
      · simp [put16]
      · simp
    have c15 := F5.out.c15
    rw [HY.out] at c15
    obtain ⟨LY, eY⟩ : ∃ LY, LX ++ put16 y = LY := ⟨_, rfl⟩
    have P3 := hide (put_any y G5.out Z5.out (by have := lX.out; omega) LY eY)
    have EY := hide eY
    clear eY
    go_wp2_with fail
    refine P3.out.mono ?_
    rintro e w6 ⟨a6, c6, rfl, _, g6, b6⟩
    have F6 := hide (F5.out.keep b6 HS.out)
    have G6 := hide g6
    have Z6 := hide (Nat.le_trans Z5.out b6.size)
    have B6 := hide (B5.out.trans (b6.mono (by have := HB.out; omega)))
    have lY : Hid (LY.length ≤ 18) := by show _ ≤ _; rw [← EY.out, List.length_append]; have := lX.out; simp [put16]; omega
    clear g6 b6 F5 G5 Z5 P3 B5 c15
    obtain ⟨L6, e6⟩ : ∃ L6, LY ++ bs = L6 := ⟨_, rfl⟩
    have E6 := hide e6
    clear e6
    go_upto_region 13 with (at_builtin; refine wpList_grow rfl _ _ rfl rfl B A _ _ LY bs rfl rfl G6.out (HV.out.later B6.out) Z6.out (by have := lY.out; have := HN.out; omega) L6 E6.out ?_)
    intro a7 c7 w7 hc7 g7 b7
    have G7 := hide g7
    have Z7 := hide (Nat.le_trans Z6.out b7.size)
    have B7 := hide (B6.out.trans (b7.mono (by have := HB.out; omega)))
    have l6 : Hid (L6.length ≤ 274) := by show _ ≤ _; rw [← E6.out, List.length_append]; have := lY.out; have := HN.out; omega
    have EN : Hid (enB f bs = L6 ++ List.replicate (60 - L6.length) 0) := by
      show _ = _
      rw [enB, if_pos E.out, pad, enH, HTT.out, HY.out, ← E6.out, ← EY.out, ← EX.out, ← E2.out, ← E1.out, List.nil_append]
    clear g7 b7 F6 G6 Z6 B6 hc7
    go_wp2
    go_loopw [6] (fun v6 wr => ∃ (ak : Option Addr) (ck : Nat) (LK : List Int) (k : Nat), v6 = .slice ak LK.length ck ∧ Hid (L6 ++ List.replicate k 0 = LK) ∧ Hid (k ≤ 60 - L6.length) ∧ Hid (Gro B wr (.slice ak LK.length ck) LK) ∧ Hid (B ≤ wr.heap.size) ∧ Hid (Below w.heap.size w wr)) (fun v6 _ => match v6 with | .slice _ m _ => 60 - m | _ => 0)
    case atStart => exact ⟨a7, c7, L6, 0, rfl, by show _ = _; simp, Nat.zero_le _, G7.out, Z7.out, B7.out⟩
    case round =>
      obtain ⟨ak, ck, LK, k, rfl, EK, hk, G8, Z8, B8⟩ := hrel
      have lK : Hid (LK.length = L6.length + k) := by show _ = _; rw [← EK.out]; simp
      by_cases h60 : LK.length < 60
      · have h61 : (LK.length : Int) < 60 := by omega
        obtain ⟨LN, eN⟩ : ∃ LN, LK ++ [0] = LN := ⟨_, rfl⟩
        have EN1 := hide eN
        have HX := hide (G8.out.later (later_alloc wr (.cells #[.int .u8 0] 5)))
        have IY : Hid (IsF (fun _ => False) (wr.alloc (.cells #[.int .u8 0] 5)) (.slice (some ⟨wr.heap.size, 0, none⟩) 1 1) [0]) := lit_F wr [0] _ id (0, 0)
        clear eN
        go_wp2_with (at_builtin; refine wpList_grow rfl _ _ rfl rfl B (fun _ => False) _ _ LK [0] rfl rfl HX.out IY.out ?g3 ?g4 LN EN1.out ?_)
        · have := Z8.out; simp; omega
        · simp; omega
        intro a9 c9 w9 hc9 g9 b9
        go_wp2
        go_roundw
        case rel => exact ⟨a9, c9, LN, k + 1, rfl, by show _ = _; rw [← EN1.out, ← EK.out, List.append_assoc, List.replicate_succ'], by show _ ≤ _; have := lK.out; omega, g9, by have := b9.size; rw [World.size_alloc] at this; have := Z8.out; show _ ≤ _; omega, B8.out.trans (((Below.refl _ wr).alloc (by have := B8.out.size; omega) _).trans (b9.mono (by have := HB.out; omega)))⟩
        case measure =>
          have : LN.length = LK.length + 1 := by rw [← EN1.out]; simp
          simp; omega
      · have h61 : (60 : Int) ≤ (LK.length : Int) := by omega
        have hkk : k = 60 - L6.length := by have := lK.out; have := hk.out; omega
        go_wp2
        go_ret2
        refine ⟨ak, ck, ?_, ?_, B8.out⟩
        · rw [EN.out, ← hkk, EK.out, E.out]; rfl
        · rw [EN.out, ← hkk, EK.out]; exact G8.out.low (by have := HB.out; omega)

theorem Encode_any {A : Nat → Prop} {w : World} {v : Value} {f : Fr} {bs : List Int} (hv : IsF A w v bs) : Calls Try.prog 9 #[f.val, v] w (EnEnd w f bs) := by
  cases hm : mbB f
  · exact Encode_arg hv hm
  · by_cases hl : 256 < bs.length
    · exact Encode_longer hv hm hl
    · exact Encode_yes hv hm (by omega)

end Go.Proofs.Ytipebfaappangaa
