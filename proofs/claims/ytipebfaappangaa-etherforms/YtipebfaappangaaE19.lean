
/-
  The document's Encode, where there is a frame.
-/
import Derived.Test.YtipebfaappangaaE18
namespace Go.Proofs.Ytipebfaappangaa
open Go.RowKit

set_option maxRecDepth 100000 in
set_option maxHeartbeats 8000000 in
theorem rEncode_yes {A : Nat → Prop} {w : World} {v : Value} {f : Fr} {bs : List Int} (hv : IsF A w v bs) (hm : mbB f = true) (hl : bs.length ≤ 256) : Calls Try.prog 10 #[f.val, v] w (EnEnd w f bs) := by
  obtain ⟨a, cap, rfl, hcap, -⟩ := hv.shape
  have F0 := hide (FrAt.new w f 25)
  have B0 := hide (later_alloc w (.cells f.cells 25))
  have E := hide (show enE f bs.length = 0 from by unfold enE; rw [hm, if_neg (by simp), if_neg (by omega)])
  have HV := hide hv
  obtain ⟨n, hn⟩ : ∃ n, n = bs.length := ⟨_, rfl⟩
  rw [← hn] at HV ⊢
  have HN := hide hn
  have l1 : (n : Int) ≤ 256 := by omega
  unfold mbB wiB at hm
  simp only [Bool.and_eq_true, decide_eq_true_eq, Bool.not_eq_true', decide_eq_false_iff_not] at hm
  obtain ⟨⟨⟨⟨hy1, hy2⟩, hy3⟩, hv1, hv2⟩, hp1, hp2⟩ := hm
  obtain ⟨t, ht⟩ : ∃ t, f.tag = t := ⟨_, rfl⟩
  obtain ⟨y, hy⟩ : ∃ y, f.ty = y := ⟨_, rfl⟩
  obtain ⟨vl, hvl⟩ : ∃ vl, f.vlan = vl := ⟨_, rfl⟩
  obtain ⟨pr, hpr⟩ : ∃ pr, f.prio = pr := ⟨_, rfl⟩
  have c12 := F0.out.c12
  have c13 := F0.out.c13
  have c14 := F0.out.c14
  have c15 := F0.out.c15
  rw [ht] at c12 hv2 hp2
  rw [hvl] at c13 hv1 hv2
  rw [hpr] at c14 hp1 hp2
  rw [hy] at c15 hy1 hy2 hy3
  have BD : Hid (1536 ≤ y ∧ y ≤ 65535 ∧ (t = true → 0 ≤ vl ∧ vl ≤ 4095 ∧ 0 ≤ pr ∧ pr ≤ 7)) := ⟨hy1, hy2, fun e => by rw [e] at hv2 hp2; exact ⟨hv1, hv2, hp1, hp2⟩⟩
  have ET : Hid (enT f = if t = true then put16 33024 ++ put16 (pr * 8192 + vl) else []) := by show _ = _; rw [enT, ht, hvl, hpr]
  have EY := hide hy
  have HT := hide ht
  have HVL := hide hvl
  have HPR := hide hpr
  have hy4 : (y == 33024) = false := by rw [beq_dec]; exact decide_eq_false hy3
  clear hv ht hy hvl hpr hcap hl hn
  simp only [Fr.val]
  go_enter Try.func10, Try.ntmps10
  go_upto_region 1 with fail
  obtain ⟨W1, e1⟩ : ∃ W1, w.alloc (.cells f.cells 25) = W1 := ⟨_, rfl⟩
  rw [e1] at F0 B0 c12 c13 c14 c15 ⊢
  have Z1 : Hid (w.heap.size + 1 ≤ W1.heap.size) := by rw [← e1]; show _ ≤ _; rw [World.size_alloc]; exact Nat.le_refl _
  clear e1
  go_upto_region 3 with fail
  go_cut [58] (fun c wc => c = .bool false ∧ W1 = wc)
  case first =>
    cases t
    · simp only [Bool.false_eq_true, if_false] at hv2 hp2
      have h1 : (vl != 0) = false := by simp; omega
      have h2 : (pr != 0) = false := by simp; omega
      go_wp2
      go_meet
      case rel => exact ⟨rfl, rfl⟩
    · simp only [if_true] at hv2 hp2
      go_wp2
      go_meet
      case rel => exact ⟨by simp; omega, rfl⟩
  case rest =>
    obtain ⟨rfl, hw⟩ := hcut
    subst hw
    clear c12 c13 c14 c15 hv1 hv2 hp1 hp2 hy1 hy2 hy3 hy4
    go_wp2
    go_loopw [6, 7] (fun vo vi wr => ∃ (ak : Option Addr) (ck : Nat) (LK : List Int) (k : Nat), vi = .int .i64 (k : Int) ∧ vo = .slice ak LK.length ck ∧ Hid ((mL f.dst).take k = LK) ∧ k ≤ 6 ∧ Hid (Gro (w.heap.size + 1) wr (.slice ak LK.length ck) LK) ∧ Hid (w.heap.size + 1 ≤ wr.heap.size) ∧ Hid (Below w.heap.size w wr) ∧ Hid (FrAt wr w.heap.size f)) (fun _ vi _ => 6 - (intOf vi).toNat)
    case atStart => exact ⟨none, 0, [], 0, rfl, rfl, rfl, Nat.zero_le _, Gro.nil _ _, Z1.out, B0.out, F0.out⟩
    case round =>
      obtain ⟨ak, ck, LK, k, rfl, rfl, EK, hk, G2, Z2, B2, F2⟩ := hrel
      by_cases hlt : k < 6
      · have c := F2.out.dst k hlt
        have hk1 : (k : Int) < 6 := by omega
        obtain ⟨x, hx⟩ : ∃ x, f.dst.at k = x := ⟨_, rfl⟩
        rw [hx] at c
        have HX0 := hide hx
        clear hx hk
        obtain ⟨LN, eN⟩ : ∃ LN, LK ++ [x] = LN := ⟨_, rfl⟩
        have EN1 := hide eN
        have HX := hide (G2.out.later (later_alloc wr (.cells #[.int .u8 x] 5)))
        have IY : Hid (IsF (fun _ => False) (wr.alloc (.cells #[.int .u8 x] 5)) (.slice (some ⟨wr.heap.size, 0, none⟩) 1 1) [x]) := lit_F wr [x] _ id (0, 0)
        have lK : Hid (LK.length ≤ 12) := by show _ ≤ _; rw [← EK.out]; simp [mL]; omega
        clear eN
        go_wp2_with (at_builtin; refine wpList_grow rfl _ _ rfl rfl (w.heap.size + 1) (fun _ => False) _ _ LK [x] rfl rfl HX.out IY.out ?g3 ?g4 LN EN1.out ?_)
        · have := Z2.out; simp; omega
        · have := lK.out; simp; omega
        intro a9 c9 w9 hc9 g9 b9
        go_wp2
        go_roundw
        case rel => exact ⟨a9, c9, LN, k + 1, by go_num, rfl, by show _ = _; rw [← EN1.out, ← EK.out, ← HX0.out, mL_take _ _ hlt], by omega, g9, by have := b9.size; rw [World.size_alloc] at this; have := Z2.out; show _ ≤ _; omega, B2.out.trans (((Below.refl _ wr).alloc (by have := B2.out.size; omega) _).trans (b9.mono (by omega))), (F2.out.al _).keep b9 (by omega)⟩
        case measure => simp [intOf]; omega
      · obtain rfl : k = 6 := by omega
        replace EK : Hid (mL f.dst = LK) := EK.out
        rw [show ((6 : Nat) : Int) = 6 from rfl]
        go_wp2
        go_loopw [6, 8] (fun vo vi wr => ∃ (ak : Option Addr) (ck : Nat) (LK : List Int) (k : Nat), vi = .int .i64 (k : Int) ∧ vo = .slice ak LK.length ck ∧ Hid (mL f.dst ++ (mL f.src).take k = LK) ∧ k ≤ 6 ∧ Hid (Gro (w.heap.size + 1) wr (.slice ak LK.length ck) LK) ∧ Hid (w.heap.size + 1 ≤ wr.heap.size) ∧ Hid (Below w.heap.size w wr) ∧ Hid (FrAt wr w.heap.size f)) (fun _ vi _ => 6 - (intOf vi).toNat)
        case atStart => exact ⟨ak, ck, LK, 0, rfl, rfl, by show _ = _; rw [EK.out]; simp, Nat.zero_le _, G2.out, Z2.out, B2.out, F2.out⟩
        case round =>
          clear EK G2 Z2 B2 F2 F0 B0 Z1
          obtain ⟨ak, ck, LK, k, rfl, rfl, EK, hk, G2, Z2, B2, F2⟩ := hrel
          by_cases hlt : k < 6
          · have c := F2.out.src k hlt
            have hk1 : (k : Int) < 6 := by omega
            obtain ⟨x, hx⟩ : ∃ x, f.src.at k = x := ⟨_, rfl⟩
            rw [hx] at c
            have HX0 := hide hx
            clear hx hk
            obtain ⟨LN, eN⟩ : ∃ LN, LK ++ [x] = LN := ⟨_, rfl⟩
            have EN1 := hide eN
            have HX := hide (G2.out.later (later_alloc wr (.cells #[.int .u8 x] 5)))
            have IY : Hid (IsF (fun _ => False) (wr.alloc (.cells #[.int .u8 x] 5)) (.slice (some ⟨wr.heap.size, 0, none⟩) 1 1) [x]) := lit_F wr [x] _ id (0, 0)
            have lK : Hid (LK.length ≤ 12) := by show _ ≤ _; rw [← EK.out]; simp [mL]; omega
            clear eN
            go_wp2_with (at_builtin; refine wpList_grow rfl _ _ rfl rfl (w.heap.size + 1) (fun _ => False) _ _ LK [x] rfl rfl HX.out IY.out ?g5 ?g6 LN EN1.out ?_)
            · have := Z2.out; simp; omega
            · have := lK.out; simp; omega
            intro a9 c9 w9 hc9 g9 b9
            go_wp2
            go_roundw
            case rel => exact ⟨a9, c9, LN, k + 1, by go_num, rfl, by show _ = _; rw [← EN1.out, ← EK.out, ← HX0.out, mL_take _ _ hlt, List.append_assoc], by omega, g9, by have := b9.size; rw [World.size_alloc] at this; have := Z2.out; show _ ≤ _; omega, B2.out.trans (((Below.refl _ wr).alloc (by have := B2.out.size; omega) _).trans (b9.mono (by omega))), (F2.out.al _).keep b9 (by omega)⟩
            case measure => simp [intOf]; omega
          · obtain rfl : k = 6 := by omega
            replace EK : Hid (mL f.dst ++ mL f.src = LK) := EK.out
            rw [show ((6 : Nat) : Int) = 6 from rfl]
            have lK : Hid (LK.length = 12) := by show _ = _; rw [← EK.out]; rfl
            have c12 := F2.out.c12
            have c13 := F2.out.c13
            have c14 := F2.out.c14
            rw [HT.out] at c12
            rw [HVL.out] at c13
            rw [HPR.out] at c14
            obtain ⟨TT, hTT⟩ : ∃ TT, enT f = TT := ⟨_, rfl⟩
            rw [hTT] at ET
            have HTT := hide hTT
            clear hTT hk hlt
            go_upto_if 85 with fail
            go_cut [6] (fun v6 wc => ∃ (ax : Option Addr) (cx : Nat) (LX : List Int), v6 = .slice ax LX.length cx ∧ Hid (LK ++ TT = LX) ∧ Hid (FrAt wc w.heap.size f) ∧ Hid (Gro (w.heap.size + 1) wc (.slice ax LX.length cx) LX) ∧ Hid (w.heap.size + 1 ≤ wc.heap.size) ∧ Hid (Below w.heap.size w wc))
            case first =>
              cases t
              · go_wp2
                go_meet
                case rel => exact ⟨ak, ck, LK, rfl, by show _ = _; rw [ET.out]; simp, F2.out, G2.out, Z2.out, B2.out⟩
              · obtain ⟨v0, v1, p0, p1⟩ := BD.out.2.2 rfl
                have eQ : put16 33024 ++ put16 (pr * 8192 + vl) = [129, 0, pr * 32 + vl / 256, vl % 256] := by
                  unfold put16
                  rw [show (pr * 8192 + vl) / 256 % 256 = pr * 32 + vl / 256 by omega, show (pr * 8192 + vl) % 256 = vl % 256 by omega]
                  rfl
                obtain ⟨L3, e3⟩ : ∃ L3, LK ++ [129, 0, pr * 32 + vl / 256, vl % 256] = L3 := ⟨_, rfl⟩
                have E3 := hide e3
                have EQ := hide eQ
                have HX := hide (G2.out.later (later_alloc wr (.cells #[.int .u8 129, .int .u8 0, .int .u8 (pr * 32 + vl / 256), .int .u8 (vl % 256)] 5)))
                have IY : Hid (IsF (fun _ => False) (wr.alloc (.cells #[.int .u8 129, .int .u8 0, .int .u8 (pr * 32 + vl / 256), .int .u8 (vl % 256)] 5)) (.slice (some ⟨wr.heap.size, 0, none⟩) 4 4) [129, 0, pr * 32 + vl / 256, vl % 256]) := lit_F wr [129, 0, pr * 32 + vl / 256, vl % 256] _ id (0, 0)
                clear e3 eQ
                go_wp2_with (at_builtin; refine wpList_grow rfl _ _ rfl rfl (w.heap.size + 1) (fun _ => False) _ _ LK [129, 0, pr * 32 + vl / 256, vl % 256] rfl rfl HX.out IY.out ?g7 ?g8 L3 E3.out ?_)
                · have := Z2.out; simp; omega
                · have := lK.out; simp; omega
                intro a5 c5 w5 hc5 g5 b5
                go_wp2
                go_meet
                case rel => exact ⟨a5, c5, L3, rfl, by show _ = _; rw [ET.out, ← E3.out, if_pos trivial, EQ.out], (F2.out.al _).keep b5 (by omega), g5, by have := b5.size; rw [World.size_alloc] at this; have := Z2.out; show _ ≤ _; omega, B2.out.trans (((Below.refl _ wr).alloc (by have := B2.out.size; omega) _).trans (b5.mono (by omega)))⟩
            case rest =>
              obtain ⟨ax, cx, LX, rfl, EX, F5, G5, Z5, B5⟩ := hcut
              have lX : Hid (LX.length ≤ 16) := by
                show _ ≤ _
                rw [← EX.out, List.length_append, lK.out, ET.out]
                split
                · simp [put16]
                · simp
              have c15 := F5.out.c15
              rw [EY.out] at c15
              obtain ⟨y1, y2, -⟩ := BD.out
              have eQ : put16 y = [y / 256, y % 256] := by
                unfold put16
                rw [show y / 256 % 256 = y / 256 by omega]
              obtain ⟨LY, e3⟩ : ∃ LY, LX ++ [y / 256, y % 256] = LY := ⟨_, rfl⟩
              have E3 := hide e3
              have EQ := hide eQ
              have HX := hide (G5.out.later (later_alloc wc (.cells #[.int .u8 (y / 256), .int .u8 (y % 256)] 5)))
              have IY : Hid (IsF (fun _ => False) (wc.alloc (.cells #[.int .u8 (y / 256), .int .u8 (y % 256)] 5)) (.slice (some ⟨wc.heap.size, 0, none⟩) 2 2) [y / 256, y % 256]) := lit_F wc [y / 256, y % 256] _ id (0, 0)
              clear e3 eQ F2 G2 Z2 B2 c12 c13 c14
              go_upto_region 19 with (at_builtin; refine wpList_grow rfl _ _ rfl rfl (w.heap.size + 1) (fun _ => False) _ _ LX [y / 256, y % 256] rfl rfl HX.out IY.out ?g9 ?g10 LY E3.out ?_)
              · have := Z5.out; simp; omega
              · have := lX.out; simp; omega
              intro a6 c6 w6 hc6 g6 b6
              have G6 := hide g6
              have Z6 : Hid (w.heap.size + 1 ≤ w6.heap.size) := by have := b6.size; rw [World.size_alloc] at this; have := Z5.out; show _ ≤ _; omega
              have B6 := hide (B5.out.trans (((Below.refl _ wc).alloc (by have := B5.out.size; omega) _).trans (b6.mono (by omega))))
              have lY : Hid (LY.length ≤ 18) := by show _ ≤ _; rw [← E3.out, List.length_append]; have := lX.out; simp; omega
              clear g6 b6 hc6 HX IY F5 G5 Z5 B5 c15
              obtain ⟨L6, e6⟩ : ∃ L6, LY ++ bs = L6 := ⟨_, rfl⟩
              have E6 := hide e6
              clear e6
              go_upto_region 20 with (at_builtin; refine wpList_grow rfl _ _ rfl rfl (w.heap.size + 1) A _ _ LY bs rfl rfl G6.out (HV.out.later B6.out) Z6.out (by have := lY.out; have := HN.out; omega) L6 E6.out ?_)
              intro a7 c7 w7 hc7 g7 b7
              have G7 := hide g7
              have Z7 := hide (Nat.le_trans Z6.out b7.size)
              have B7 := hide (B6.out.trans (b7.mono (by omega)))
              have l6 : Hid (L6.length ≤ 274) := by show _ ≤ _; rw [← E6.out, List.length_append]; have := lY.out; have := HN.out; omega
              have EN : Hid (enB f bs = L6 ++ List.replicate (60 - L6.length) 0) := by
                show _ = _
                rw [enB, if_pos E.out, pad, enH, HTT.out, EY.out, EQ.out, ← E6.out, ← E3.out, ← EX.out, ← EK.out]
              clear g7 b7 G6 Z6 B6 hc7
              go_wp2
              go_loopw [6] (fun v6 wr => ∃ (ak : Option Addr) (ck : Nat) (LK : List Int) (k : Nat), v6 = .slice ak LK.length ck ∧ Hid (L6 ++ List.replicate k 0 = LK) ∧ Hid (k ≤ 60 - L6.length) ∧ Hid (Gro (w.heap.size + 1) wr (.slice ak LK.length ck) LK) ∧ Hid (w.heap.size + 1 ≤ wr.heap.size) ∧ Hid (Below w.heap.size w wr)) (fun v6 _ => match v6 with | .slice _ m _ => 60 - m | _ => 0)
              case atStart => exact ⟨a7, c7, L6, 0, rfl, by show _ = _; simp, Nat.zero_le _, G7.out, Z7.out, B7.out⟩
              case round =>
                obtain ⟨ak, ck, LK, k, rfl, EK, hk, G8, Z8, B8⟩ := hrel
                have lK : Hid (LK.length = L6.length + k) := by show _ = _; rw [← EK.out]; simp
                by_cases h60 : LK.length < 60
                · have h61 : (LK.length : Int) < 60 := by omega
                  obtain ⟨LN, eN⟩ : ∃ LN, LK ++ [0] = LN := ⟨_, rfl⟩
                  have EN1 := hide eN
                  have HX := hide (G8.out.later (later_alloc wr (.cells #[.int .u8 0] 5)))
                  have IY : Hid (IsF (fun _ => False) (wr.alloc (.cells #[.int .u8 0] 5)) (.slice (some ⟨wr.heap.size, 0, none⟩) 1 1) [0]) := lit_F wr [0] _ id (0, 0)
                  clear eN
                  go_wp2_with (at_builtin; refine wpList_grow rfl _ _ rfl rfl (w.heap.size + 1) (fun _ => False) _ _ LK [0] rfl rfl HX.out IY.out ?g11 ?g12 LN EN1.out ?_)
                  · have := Z8.out; simp; omega
                  · simp; omega
                  intro a9 c9 w9 hc9 g9 b9
                  go_wp2
                  go_roundw
                  case rel => exact ⟨a9, c9, LN, k + 1, rfl, by show _ = _; rw [← EN1.out, ← EK.out, List.append_assoc, List.replicate_succ'], by show _ ≤ _; have := lK.out; omega, g9, by have := b9.size; rw [World.size_alloc] at this; have := Z8.out; show _ ≤ _; omega, B8.out.trans (((Below.refl _ wr).alloc (by have := B8.out.size; omega) _).trans (b9.mono (by omega)))⟩
                  case measure =>
                    have : LN.length = LK.length + 1 := by rw [← EN1.out]; simp
                    simp; omega
                · have h61 : (60 : Int) ≤ (LK.length : Int) := by omega
                  have hkk : k = 60 - L6.length := by have := lK.out; have := hk.out; omega
                  go_wp2
                  go_ret2
                  refine ⟨ak, ck, ?_, ?_, B8.out⟩
                  · rw [EN.out, ← hkk, EK.out, E.out]; rfl
                  · rw [EN.out, ← hkk, EK.out]; exact G8.out.low (by omega)

theorem rEncode_any {A : Nat → Prop} {w : World} {v : Value} {f : Fr} {bs : List Int} (hv : IsF A w v bs) : Calls Try.prog 10 #[f.val, v] w (EnEnd w f bs) := by
  rcases enE_cases f bs.length with h | ⟨_, h1, h2⟩
  · exact rEncode_no hv h
  · exact rEncode_yes hv h1 h2

end Go.Proofs.Ytipebfaappangaa
