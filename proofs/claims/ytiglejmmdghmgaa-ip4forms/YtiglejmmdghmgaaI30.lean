
/-
  Ip4Forms: the walk.
-/
import Derived.Test.YtiglejmmdghmgaaI29
namespace Go.Proofs.Ytiglejmmdghmgaa
open Go.RowKit Go.Shelf

set_option maxRecDepth 100000 in
set_option maxHeartbeats 16000000 in
theorem Forms_walk (p : Pk) (ov bv : Value) (b : List Int) (rv : Value) (r : List Int) (w : World) (hov : IsB w.heap.size w ov p.opts) (hp : PkOk p) (hbv : IsB w.heap.size w bv b) (_hB : Bytes b) (lb : b.length ≤ 140737488351232) (hrv : IsB w.heap.size w rv r) (hR : Bytes r) (lr : r.length ≤ 140737488351232) :
    Calls Try.prog 3 #[.agg (p.cells ov).toArray, bv, rv] w fun e w' => e = .returned (.bool true) ∧ Below w.heap.size w w' := by
  obtain ⟨ao, co, rfl, _⟩ := hov.shape
  obtain ⟨ab, cb, rfl, _⟩ := hbv.shape
  obtain ⟨ar, cr, rfl, crr⟩ := hrv.shape
  obtain ⟨n, hn⟩ : ∃ n, n = p.opts.length := ⟨_, rfl⟩
  obtain ⟨bl, hbl⟩ : ∃ bl, bl = b.length := ⟨_, rfl⟩
  obtain ⟨nr, hnr⟩ : ∃ nr, nr = r.length := ⟨_, rfl⟩
  have ln : n ≤ 140737488351232 := by rw [hn]; exact hp.len
  rw [← hn] at hov ⊢
  rw [← hbl] at hbv lb ⊢
  rw [← hnr] at hrv lr crr ⊢
  obtain ⟨s, hs⟩ : ∃ s, s = w.heap.size := ⟨_, rfl⟩
  obtain ⟨X, hX⟩ : ∃ X, X = p.cells (.slice ao n co) := ⟨_, rfl⟩
  have lX : X.length = 16 := by rw [hX]; rfl
  rw [← hX]
  obtain ⟨w1, hw1⟩ : ∃ w1, w1 = w.alloc (.cells X.toArray 26) := ⟨_, rfl⟩
  have b1 : Below w.heap.size w w1 := by rw [hw1]; exact later_alloc _ _
  have c1 : CellsAt w1 s 0 X := by rw [hw1, hs]; exact CellsAt.new w X 26
  have l1 : s < w1.heap.size := by rw [hw1, hs]; simp
  have HB1 := hide b1
  have C1 := hide c1
  have HX := hide hX
  have LX := hide lX
  have HOV := hide hov
  have HBV := hide hbv
  have HRV := hide hrv
  have HP := hide hp
  have BYR := hide hR
  have HN := hide hn
  have HBL := hide hbl
  have HNR := hide hnr
  clear b1 c1 hX hov hbv hrv hp hn hbl hnr hR
  go_enter Try.func3, Try.ntmps3
  have hw1' := hw1.symm
  have hs' := hs.symm
  have HS := hide hs
  clear hw1 hs
  go_wp2_with fail
  clear hw1' hs' lX
  refine (awake_any w1).mono ?_
  rintro _ w2 ⟨rfl, b2⟩
  have HB2 : Hid (Below w.heap.size w w2) := HB1.out.trans (b2.mono HB1.out.size)
  have C2 := hide (C1.out.later l1 b2)
  have L2 : s < w2.heap.size := Nat.lt_of_lt_of_le l1 b2.size
  have IB := hide (HBV.out.later HB2.out)
  clear b2 C1 HB1 l1
  go_upto_region 3 with (at_builtin; refine wpList_growB rfl (.const (.slice none 0 0)) (.tmp 26) rfl rfl w2.heap.size (.slice none 0 0) _ [] b rfl rfl (Gro.nil _ _) IB.out (Nat.le_refl _) (by rw [← HBL.out]; simp; omega) b (List.nil_append _) ?_)
  intro a3 c3 w3 _ g3 b3
  rw [← HBL.out]
  have G3 : Hid (IsB w3.heap.size w3 (.slice a3 bl c3) b) := by unfold Hid; rw [HBL.out]; exact g3.isB
  have HB3 : Hid (Below w.heap.size w w3) := HB2.out.trans (b3.mono HB2.out.size)
  have C3 := hide (C2.out.later L2 b3)
  have L3 : s < w3.heap.size := Nat.lt_of_lt_of_le L2 b3.size
  clear g3 b3 IB C2 L2 HB2
  -- the copy
  have oX : Hid (∀ u ∈ X, u.oneCell' = true) := by rw [HX.out]; exact pk_one _ _ _ _
  obtain ⟨u0, w4, hu0, hw4, cu0, fu0, c4, b4, l4⟩ := newP w3 X LX.out
  obtain ⟨so, hso⟩ : ∃ so, so = w3.heap.size := ⟨_, rfl⟩
  rw [← hso] at hw4 cu0 fu0 c4 l4
  have CU := hide cu0
  have FU := hide fu0
  have HSO := hide hso
  have C4s := hide (C3.out.later L3 b4)
  have C4 := hide c4
  have F4 : Hid (∀ y, w4.frozen? ⟨so, y, none⟩ = false) := fun y => by rw [hw4, World.frozen?_setCells]; exact fu0 y
  have B34 := hide b4
  have hu0' := hu0.symm
  simp only [zP, Pk.cells, I4.vals, zI, List.cons_append, List.nil_append] at hu0'
  have hw4' := hw4.symm
  have hso' := hso.symm
  clear hu0 hw4 hso cu0 fu0 c4 b4
  go_upto_region 4 with (first | refine wpList_loadA rfl 26 16 aggP sizP _ rfl s 0 rfl X LX.out C3.out ?_ | (refine wpList_storeA rfl 26 16 sizP _ _ rfl so 0 rfl X (zP.cells (.slice none 0 0)) rfl LX.out rfl CU.out FU.out oX.out ?_; intro _; rw [hw4']))
  clear hu0' hw4' hso' CU FU
  have HB4 : Hid (Below w.heap.size w w4) := HB3.out.trans (B34.out.mono HB3.out.size)
  have x15 : w4.cell? ⟨s, 15, none⟩ = some (.slice ao n co) := C4s.out 15 _ (by rw [HX.out]; rfl)
  have IO := hide (HOV.out.later HB4.out)
  go_wp2_with (at_builtin; refine wpList_growB rfl (.const (.slice none 0 0)) (.tmp 30) rfl rfl w4.heap.size (.slice none 0 0) _ [] p.opts rfl rfl (Gro.nil _ _) IO.out (Nat.le_refl _) (by rw [← HN.out]; simp; omega) p.opts (List.nil_append _) ?_)
  intro a5 c5 w5 _ g5 b5
  rw [← HN.out] at g5 ⊢
  clear x15 IO
  have bo5 : But (Only so) w5 (w5.setCell ⟨so, 15, none⟩ (.slice a5 n c5)) := (But.refl (Only so) w5).cellb (b := so) rfl 15 _
  obtain ⟨w6, hw6⟩ : ∃ w6, w6 = w5.setCell ⟨so, 15, none⟩ (.slice a5 n c5) := ⟨_, rfl⟩
  rw [← hw6] at bo5
  have y15 : ∃ u, w5.cell? ⟨so, 15, none⟩ = some u := ⟨_, (C4.out.later l4 b5) 15 _ (by rw [HX.out]; rfl)⟩
  obtain ⟨yv, y15⟩ := y15
  have f15 : w5.frozen? ⟨so, 15, none⟩ = false := ((But.of_below (K := fun _ => False) b5).frozen (p := ⟨so, 15, none⟩) l4 id).trans (F4.out 15)
  obtain ⟨Y, hY⟩ : ∃ Y, Y = p.cells (.slice a5 n c5) := ⟨_, rfl⟩
  have LY : Hid (Y.length = 16) := by rw [hY]; exact (rfl : (p.cells (.slice a5 n c5)).length = 16)
  have C6 : Hid (CellsAt w6 so 0 Y) := by
    have h := (C4.out.later l4 b5).put 15 (.slice a5 n c5) (by rw [LX.out]; decide)
    have e : X.set 15 (.slice a5 n c5) = Y := by rw [HX.out, hY]; rfl
    rw [e] at h
    unfold Hid; rw [hw6]
    exact h
  have s6 : w6.heap.size = w5.heap.size := by rw [hw6]; simp
  have L6o : so < w6.heap.size := by rw [s6]; exact Nat.lt_of_lt_of_le l4 b5.size
  have B36 : Hid (Below w3.heap.size w3 w6) := by
    have h1 : Below w3.heap.size w3 w5 := B34.out.trans (b5.mono B34.out.size)
    exact h1.trans (bo5.below h1.size (fun g hg e => by have e : g = so := e; have := HSO.out; omega))
  have HB6 : Hid (Below w.heap.size w w6) := HB3.out.trans (B36.out.mono HB3.out.size)
  have G6 : Hid (IsB w6.heap.size w6 (.slice a5 n c5) p.opts) := (g5.but bo5 (fun g e => by have e : g = so := e; rw [e]; exact l4)).isB
  have O6 := hide (G3.out.later B36.out)
  have C6s := hide (C3.out.later L3 B36.out)
  have L6s : s < w6.heap.size := Nat.lt_of_lt_of_le L3 B36.out.size
  have hw6' := hw6.symm
  have HY := hide hY
  clear hw6 bo5 s6 b5 g5 hY C4 F4 B34 C4s HB4 G3 C3 L3 B36 l4 HSO
  go_upto_region 5 with fail
  clear hw6' y15 f15
  -- written
  have EN := Encode_any p (.slice a5 n c5) (.slice a3 bl c3) b w6 G6.out O6.out HP.out.src HP.out.dst HP.out.opts (by have := HP.out.len; omega) (by rw [← HBL.out]; omega)
  rw [← HY.out] at EN
  have HEN := hide EN
  clear EN
  go_wp2_with (refine wpList_loadA rfl 26 16 aggP sizP _ rfl so 0 rfl Y LY.out C6.out ?_)
  refine HEN.out.mono ?_
  intro _ w7 h7
  obtain ⟨b7, ax, cx, rfl, gx⟩ := h7.one
  obtain ⟨XL, hXL⟩ : ∃ XL, XL = enL p b := ⟨_, rfl⟩
  obtain ⟨E1, hE1⟩ : ∃ E1, E1 = enE p b.length := ⟨_, rfl⟩
  rw [← hXL] at gx
  rw [← hXL, ← hE1]
  have HB7 : Hid (Below w.heap.size w w7) := HB6.out.trans (b7.mono HB6.out.size)
  have IX7 := hide gx.isB
  have B67 := hide b7
  have C7s := hide (C6s.out.later L6s b7)
  have L7s : s < w7.heap.size := Nat.lt_of_lt_of_le L6s b7.size
  have RN := rEncode_any p (.slice ao n co) (.slice ab bl cb) b w7 (HOV.out.later HB7.out) (HBV.out.later HB7.out) HP.out.src HP.out.dst HP.out.opts (by have := HP.out.len; omega) (by rw [← HBL.out]; omega)
  rw [← HX.out] at RN
  have HRN := hide RN
  have HXL := hide hXL
  have HE1 := hide hE1
  obtain ⟨xl, hxl⟩ : ∃ xl, xl = XL.length := ⟨_, rfl⟩
  rw [← hxl] at IX7 ⊢
  have HXN := hide hxl
  clear RN h7 gx b7 hXL hE1 HEN hxl C6s L6s
  go_wp2_with (refine wpList_loadA rfl 26 16 aggP sizP _ rfl s 0 rfl X LX.out C7s.out ?_)
  refine HRN.out.mono ?_
  intro _ w8 h8
  obtain ⟨b8, ay, cy, rfl, gy⟩ := h8.one
  rw [← HXL.out] at gy
  rw [← HXL.out, ← HE1.out]
  have HB8 : Hid (Below w.heap.size w w8) := HB7.out.trans (b8.mono HB7.out.size)
  have IX8 := hide (IX7.out.later b8)
  have IY8 := hide gy.isB
  rw [← HXN.out] at IY8 ⊢
  have B68 := hide (B67.out.trans (b8.mono B67.out.size))
  have C8s := hide (C7s.out.later L7s b8)
  have L8s : s < w8.heap.size := Nat.lt_of_lt_of_le L7s b8.size
  have IR := hide (HRV.out.later HB8.out)
  clear h8 gy b8 HRN IX7 HXL HE1 B67 HB7 C7s L7s
  -- what is read
  go_upto_region 8 with (at_builtin; refine wpList_growB rfl (.const (.slice none 0 0)) (.tmp 45) rfl rfl w8.heap.size (.slice none 0 0) _ [] r rfl rfl (Gro.nil _ _) IR.out (Nat.le_refl _) (by rw [← HNR.out]; simp; omega) r (List.nil_append _) ?_)
  intro ak ck w9 _ gk b9
  rw [← HNR.out]
  have K9 : Hid (IsB w9.heap.size w9 (.slice ak nr ck) r) := by unfold Hid; rw [HNR.out]; exact gk.isB
  have HB9 : Hid (Below w.heap.size w w9) := HB8.out.trans (b9.mono HB8.out.size)
  have B69 := B68.out.trans (b9.mono B68.out.size)
  have IX9 := hide (IX8.out.later b9)
  have IY9 := hide (IY8.out.later b9)
  have G9 := hide (G6.out.later B69)
  have O9 := hide (O6.out.later B69)
  have C9o := hide (C6.out.later L6o B69)
  have C9s := hide (C8s.out.later L8s b9)
  have L9s : s < w9.heap.size := Nat.lt_of_lt_of_le L8s b9.size
  have L9o : so < w9.heap.size := Nat.lt_of_lt_of_le L6o B69.size
  have HN0 : Hid (w.heap.size ≤ w6.heap.size) := HB6.out.size
  have DE := hide (Decode_any (.slice ak nr ck) r w9 K9.out BYR.out (by rw [← HNR.out]; omega))
  clear gk b9 B69 C8s L8s IX8 IY8 G6 O6 C6 L6o B68 IR HB6 HB8 HB3 HN0
  go_wp2_with fail
  refine DE.out.mono ?_
  intro _ w10 h10
  obtain ⟨b10, aq, cq, ad, cd, n1, rfl, gq, gd, hn1, sep⟩ := h10.one BYR.out
  obtain ⟨q, hq⟩ : ∃ q, q = deQ r := ⟨_, rfl⟩
  obtain ⟨D, hD⟩ : ∃ D, D = deC r := ⟨_, rfl⟩
  obtain ⟨E2, hE2⟩ : ∃ E2, E2 = faE r := ⟨_, rfl⟩
  rw [← hq] at gq
  rw [← hD] at gd
  rw [← hq, ← hD, ← hE2]
  have HQ := hide hq
  have HD := hide hD
  have HE2 := hide hE2
  obtain ⟨m, hm⟩ : ∃ m, m = D.length := ⟨_, rfl⟩
  obtain ⟨l, hl⟩ : ∃ l, l = q.opts.length := ⟨_, rfl⟩
  rw [← hm] at gd ⊢
  rw [← hl] at gq ⊢
  have HM := hide hm
  have HL := hide hl
  obtain ⟨Z, hZ⟩ : ∃ Z, Z = q.cells (.slice aq l cq) := ⟨_, rfl⟩
  rw [← hZ]
  have lZ : Hid (Z.length = 16) := by rw [hZ]; exact (rfl : (q.cells (.slice aq l cq)).length = 16)
  have oZ : Hid (∀ u ∈ Z, u.oneCell' = true) := by rw [hZ]; exact pk_one _ _ _ _
  obtain ⟨u1, w11, hu1, hw11, cu1, fu1, c11, b11, l11⟩ := newP w10 Z lZ.out
  obtain ⟨sq, hsq⟩ : ∃ sq, sq = w10.heap.size := ⟨_, rfl⟩
  rw [← hsq] at hw11 cu1 fu1 c11 l11
  have CU := hide cu1
  have FU := hide fu1
  have HSQ := hide hsq
  have C11 := hide c11
  have GQ10 := hide gq
  have GD10 := hide gd
  have GQ11 := hide (gq.later b11)
  have GD11 := hide (gd.later b11)
  have SEP := hide sep
  have b911 := b10.trans (b11.mono b10.size)
  have B911 := hide b911
  have HB11 : Hid (Below w.heap.size w w11) := HB9.out.trans (b911.mono HB9.out.size)
  have HN9 : Hid (w9.heap.size ≤ n1) := hn1
  have HN10 : Hid (w9.heap.size ≤ w10.heap.size) := b10.size
  have HZ := hide hZ
  have hu1' := hu1.symm
  simp only [zP, Pk.cells, I4.vals, zI, List.cons_append, List.nil_append] at hu1'
  have hw11' := hw11.symm
  have hsq' := hsq.symm
  have RD := hide (rDecode_any (.slice ar nr cr) r w11 (HRV.out.later HB11.out) BYR.out (by rw [← HNR.out]; omega))
  clear hu1 hw11 hsq cu1 fu1 c11 gq gd sep b10 b11 b911 hn1 h10 DE hq hD hE2 hm hl hZ
  go_upto_region 9 with (refine wpList_storeA rfl 26 16 sizP _ _ rfl sq 0 rfl Z (zP.cells (.slice none 0 0)) rfl lZ.out rfl CU.out FU.out oZ.out ?_; intro _; rw [hw11'])
  clear hu1' hw11' hsq' CU FU oZ
  go_wp2_with fail
  refine RD.out.mono ?_
  intro _ w12 h12
  obtain ⟨b12, at_, ct, ae, ce, rfl, iq, id_⟩ := h12.one BYR.out
  rw [← HQ.out] at iq
  rw [← HD.out] at id_
  rw [← HQ.out, ← HD.out, ← HE2.out]
  rw [← HM.out] at id_ ⊢
  rw [← HL.out] at iq ⊢
  obtain ⟨V, hV⟩ : ∃ V, V = q.cells (.slice at_ l ct) := ⟨_, rfl⟩
  rw [← hV]
  have lV : Hid (V.length = 16) := by rw [hV]; exact (rfl : (q.cells (.slice at_ l ct)).length = 16)
  have oV : Hid (∀ u ∈ V, u.oneCell' = true) := by rw [hV]; exact pk_one _ _ _ _
  obtain ⟨u2, w13, hu2, hw13, cu2, fu2, c13, b13, l13⟩ := newP w12 V lV.out
  obtain ⟨sr, hsr⟩ : ∃ sr, sr = w12.heap.size := ⟨_, rfl⟩
  rw [← hsr] at hw13 cu2 fu2 c13 l13
  have CU := hide cu2
  have FU := hide fu2
  have C13r := hide c13
  have b1113 := b12.trans (b13.mono b12.size)
  have C13 := hide (C11.out.later l11 b1113)
  have GQ13 := hide (GQ11.out.later b1113)
  have GD13 := hide (GD11.out.later b1113)
  have ID13 := hide (id_.later b13)
  have B913 := hide (B911.out.trans (b1113.mono B911.out.size))
  have L13 : sq < w13.heap.size := Nat.lt_of_lt_of_le l11 b1113.size
  have SM := Same_true q (.slice aq l cq) (.slice at_ l ct) w13 GQ13.out.isB (iq.later b13)
  rw [← HZ.out, ← hV] at SM
  have HSM := hide SM
  have hu2' := hu2.symm
  simp only [zP, Pk.cells, I4.vals, zI, List.cons_append, List.nil_append] at hu2'
  have hw13' := hw13.symm
  have hsr' := hsr.symm
  clear hu2 hw13 hsr cu2 fu2 c13 b12 b13 b1113 iq id_ SM h12 RD hV C11 GQ11 GD11 l11 HB11 B911 l13
  go_upto_region 10 with (refine wpList_storeA rfl 26 16 sizP _ _ rfl sr 0 rfl V (zP.cells (.slice none 0 0)) rfl lV.out rfl CU.out FU.out oV.out ?_; intro _; rw [hw13'])
  clear hu2' hw13' hsr' CU FU oV
  go_wp2_with (first | refine wpList_loadA rfl 26 16 aggP sizP _ rfl sq 0 rfl Z lZ.out C13.out ?_ | refine wpList_loadA rfl 26 16 aggP sizP _ rfl sr 0 rfl V lV.out C13r.out ?_)
  refine HSM.out.mono ?_
  rintro _ w14 ⟨rfl, b14⟩
  have C14 := hide (C13.out.later L13 b14)
  have L14 : sq < w14.heap.size := Nat.lt_of_lt_of_le L13 b14.size
  have GQ14 := hide (GQ13.out.later b14)
  have GD14 := hide (GD13.out.later b14)
  have ID14 := ID13.out.later b14
  have B914 := hide (B913.out.trans (b14.mono B913.out.size))
  have t1 := conv_str (IX9.out.later B914.out)
  have t2 := conv_str (IY9.out.later B914.out)
  have t3 := conv_str GD14.out.isB
  have t4 := conv_str ID14
  obtain ⟨S1, hS1⟩ : ∃ S1, S1 = strB XL := ⟨_, rfl⟩
  obtain ⟨S2, hS2⟩ : ∃ S2, S2 = strB D := ⟨_, rfl⟩
  rw [← hS1] at t1 t2
  rw [← hS2] at t3 t4
  clear hS1 hS2 b14 ID14 HSM C13 C13r GQ13 GD13 ID13 B913 L13 IX9 IY9 lV
  go_upto_region 12 with fail
  clear t1 t2 t3 t4
  have lm : (m : Int) ≤ 9223372036854775807 := by
    obtain ⟨_, ⟨_, h⟩ | ⟨_, _, _, e, _, _, h1, h2, _⟩⟩ := GD14.out
    · have := HM.out; omega
    · simp only [Value.slice.injEq] at e
      have := HM.out
      unfold maxLen at h2
      omega
  have ll : (l : Int) ≤ 9223372036854775807 := by
    obtain ⟨_, ⟨_, h⟩ | ⟨_, _, _, e, _, _, h1, h2, _⟩⟩ := GQ14.out
    · have := HL.out; omega
    · simp only [Value.slice.injEq] at e
      have := HL.out
      unfold maxLen at h2
      omega
  go_wp2
  go_loopw [23] (fun vi wr => ∃ (i : Nat) (Z : List Int), vi = .int .i64 (i : Int) ∧ i ≤ m ∧ Hid (Z.length = m) ∧ Hid (Gro n1 wr (.slice ad m cd) Z) ∧ Hid (But (fun g => n1 ≤ g ∧ g < w10.heap.size) w14 wr)) (fun vi _ => m - (intOf vi).toNat)
  case atStart => exact ⟨0, D, rfl, Nat.zero_le _, HM.out.symm, GD14.out, But.refl _ _⟩
  case round =>
    obtain ⟨i, T, rfl, hi, hT, G, Bt⟩ := hrel
    by_cases hlt : i < m
    · obtain ⟨qq, rfl, hq, hc, hf⟩ := G.out.block (by rw [hT.out]; omega)
      have c9 := hc i (by rw [hT.out]; exact hlt)
      have f9 := hf i
      have HQQ := hide (GD10.out.lies qq _ _ rfl)
      obtain ⟨z, ez⟩ : ∃ z, T[i]?.getD 0 = z := ⟨_, rfl⟩
      rw [ez] at c9
      clear ez hc hf hq hi
      go_wp2
      go_roundw
      case rel => exact ⟨i + 1, T.set i ((z + 1) % 256), by go_num, by omega, by show _ = _; rw [List.length_set]; exact hT.out, G.out.store hT.out.symm i _, Bt.out.setCell (p := ⟨qq, i, none⟩) (.inr HQQ.out) _⟩
      case measure => simp [intOf]; omega
    · obtain rfl : i = m := by omega
      have GQ := hide (GQ14.out.away Bt.out (fun g x y e k => by have h1 := SEP.out g (by cases e; rfl); have h2 := k.1; omega))
      have BR := hide (B914.out.trans (Bt.out.below B914.out.size (fun g hg e => by have := HN9.out; have := e.1; omega)))
      have CR := hide (C14.out.but L14 Bt.out (fun e => by have := HSQ.out; have := e.2; omega))
      have LR : sq < wr.heap.size := Nat.lt_of_lt_of_le L14 Bt.out.size
      clear G Bt hT GQ14 B914 C14 L14 hlt hi GD14 lm
      obtain ⟨wz, rfl⟩ : ∃ wz, wz = wr := ⟨_, rfl⟩
      go_wp2
      go_loopw [24] (fun vi wq => ∃ (j : Nat) (T : List Int), vi = .int .i64 (j : Int) ∧ j ≤ l ∧ Hid (T.length = l) ∧ Hid (Gro w9.heap.size wq (.slice aq l cq) T) ∧ Hid (But (fun g => w9.heap.size ≤ g ∧ g < w10.heap.size) wz wq)) (fun vi _ => l - (intOf vi).toNat)
      case atStart => exact ⟨0, q.opts, rfl, Nat.zero_le _, HL.out.symm, GQ.out, But.refl _ _⟩
      case round =>
        obtain ⟨j, T, rfl, hj, hT, G, Bt⟩ := hrel
        have x15 : wr.cell? ⟨sq, 15, none⟩ = some (.slice aq l cq) := (CR.out.but LR Bt.out (fun e => by have := HSQ.out; have := e.2; omega)) 15 _ (by rw [HZ.out]; rfl)
        by_cases hjl : j < l
        · obtain ⟨qq, rfl, hq, hc, hf⟩ := G.out.block (by rw [hT.out]; omega)
          have c9 := hc j (by rw [hT.out]; exact hjl)
          have f9 := hf j
          have HQQ := hide (GQ10.out.lies qq _ _ rfl)
          have sqq : sq ≠ qq := fun e => by have := HSQ.out; have := HQQ.out.2; omega
          obtain ⟨z, ez⟩ : ∃ z, T[j]?.getD 0 = z := ⟨_, rfl⟩
          rw [ez] at c9
          clear ez hc hf hq hj
          go_upto_region 19 with fail
          go_region
          go_wp2
          go_roundw
          case rel => exact ⟨j + 1, T.set j ((z + 1) % 256), by go_num, by omega, by show _ = _; rw [List.length_set]; exact hT.out, (G.out.store hT.out.symm j _).later ⟨rfl, rfl, rfl, Nat.le_refl _, fun _ _ => rfl⟩, (Bt.out.setCell (p := ⟨qq, j, none⟩) (.inr HQQ.out) _).drew⟩
          case measure => simp [intOf]; omega
        · obtain rfl : j = l := by omega
          have BE := BR.out.trans (Bt.out.below BR.out.size (fun g hg e => by have := e.1; omega))
          have HBE : Below w.heap.size w wr := HB9.out.trans (BE.mono HB9.out.size)
          have xo : wr.cell? ⟨so, 15, none⟩ = some (.slice a5 n c5) := (C9o.out.later L9o BE) 15 _ (by rw [HY.out]; rfl)
          have xs : wr.cell? ⟨s, 15, none⟩ = some (.slice ao n co) := (C9s.out.later L9s BE) 15 _ (by rw [HX.out]; rfl)
          have t1 := conv_str (O9.out.later BE)
          have t2 := conv_str (HBV.out.later HBE)
          have t3 := conv_str (G9.out.later BE)
          have t4 := conv_str (HOV.out.later HBE)
          have t5 := conv_str (K9.out.later BE)
          have t6 := conv_str (HRV.out.later HBE)
          obtain ⟨S3, hS3⟩ : ∃ S3, S3 = strB b := ⟨_, rfl⟩
          obtain ⟨S4, hS4⟩ : ∃ S4, S4 = strB p.opts := ⟨_, rfl⟩
          obtain ⟨S5, hS5⟩ : ∃ S5, S5 = strB r := ⟨_, rfl⟩
          rw [← hS3] at t1 t2
          rw [← hS4] at t3 t4
          rw [← hS5] at t5 t6
          have HF := hide HBE
          clear BE HBE hS3 hS4 hS5 G Bt hj hjl hT
          go_wp2
          go_ret
          exact ⟨rfl, HF.out⟩
end Go.Proofs.Ytiglejmmdghmgaa
