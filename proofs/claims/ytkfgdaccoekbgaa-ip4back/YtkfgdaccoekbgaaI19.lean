
/-
  Ip4Back: the walk.
-/
import Derived.Test.YtkfgdaccoekbgaaI22
import Derived.Test.YtkfgdaccoekbgaaI23
namespace Go.Proofs.Ytkfgdaccoekbgaa
open Go.RowKit Go.Shelf

theorem isB_addr {n0 : Nat} {W : World} {a : Option Addr} {n c : Nat} {bs : List Int} (h : IsB n0 W (.slice a n c) bs) (h0 : 0 < bs.length) : ∃ b off, a = some ⟨b, off, none⟩ := by
  obtain ⟨a', c', e, _, _, hc⟩ := h
  obtain ⟨b, off, e2, _⟩ := hc h0
  cases e
  exact ⟨b, off, e2⟩
theorem zB_len (t : List Int) : (zB t).length = t.length := by
  unfold zB
  split <;> simp
theorem zB_bytes {t : List Int} (h : Bytes t) : Bytes (zB t) := by
  unfold zB
  split
  · exact (h.set 10 0 (by decide) (by decide)).set 11 0 (by decide) (by decide)
  · exact h
set_option maxRecDepth 100000 in
set_option maxHeartbeats 16000000 in
theorem Back_walk (p : Pk) (ov bv : Value) (b : List Int) (tv : Value) (t : List Int) (rv : Value) (r : List Int) (w : World) (hov : IsB w.heap.size w ov p.opts) (hp : PkOk p) (hbv : IsB w.heap.size w bv b) (hB : Bytes b) (lb : b.length ≤ 140737488351232) (htv : IsB w.heap.size w tv t) (hT : Bytes t) (lt : t.length ≤ 140737488351232) (hrv : IsB w.heap.size w rv r) (hR : Bytes r) (lr : r.length ≤ 140737488351232) :
    Calls Try.prog 5 #[.agg (p.cells ov).toArray, bv, tv, rv] w fun e w' => e = .returned (.bool true) ∧ Below w.heap.size w w' := by
  obtain ⟨ao, co, rfl, _⟩ := hov.shape
  obtain ⟨ab, cb, rfl, _⟩ := hbv.shape
  obtain ⟨at_, ct, rfl, _⟩ := htv.shape
  obtain ⟨ar, cr, rfl, crr⟩ := hrv.shape
  obtain ⟨s, hs⟩ : ∃ s, s = w.heap.size := ⟨_, rfl⟩
  obtain ⟨X, hX⟩ : ∃ X, X = p.cells (.slice ao p.opts.length co) := ⟨_, rfl⟩
  have lX : X.length = 16 := by rw [hX]; rfl
  rw [← hX]
  obtain ⟨w1, hw1⟩ : ∃ w1, w1 = w.alloc (.cells X.toArray 26) := ⟨_, rfl⟩
  have b1 : Below w.heap.size w w1 := by rw [hw1]; exact later_alloc _ _
  have c1 : CellsAt w1 s 0 X := by rw [hw1, hs]; exact CellsAt.new w X 26
  have l1 : s < w1.heap.size := by rw [hw1, hs]; simp
  have HB1 := hide b1
  have C1 := hide c1
  have HX := hide hX
  have LX := hide lX
  have HOV := hide hov
  have HBV := hide hbv
  have HTV := hide htv
  have HRV := hide hrv
  have HP := hide hp
  have BYB := hide hB
  have BYT := hide hT
  have BYR := hide hR
  obtain ⟨bl, hbl⟩ : ∃ bl, bl = b.length := ⟨_, rfl⟩
  obtain ⟨tl, htl⟩ : ∃ tl, tl = t.length := ⟨_, rfl⟩
  obtain ⟨nr, hnr⟩ : ∃ nr, nr = r.length := ⟨_, rfl⟩
  rw [← hbl] at HBV lb ⊢
  rw [← htl] at HTV lt ⊢
  rw [← hnr] at HRV lr crr ⊢
  have HBL := hide hbl
  have HTL := hide htl
  have HNR := hide hnr
  clear b1 c1 hX hov hbv htv hrv hp hbl htl hnr hB hT hR
  go_enter Try.func5, Try.ntmps5
  have hw1' := hw1.symm
  have hs' := hs.symm
  have HS := hide hs
  clear hw1 hs
  go_wp2_with fail
  clear hw1' hs' lX
  refine (awake_any w1).mono ?_
  rintro _ w2 ⟨rfl, b2⟩
  have HB2 : Hid (Below w.heap.size w w2) := HB1.out.trans (b2.mono HB1.out.size)
  have C2 := hide (C1.out.later l1 b2)
  have L2 : s < w2.heap.size := Nat.lt_of_lt_of_le l1 b2.size
  have EN := Encode_any p (.slice ao p.opts.length co) (.slice ab bl cb) b w2 (HOV.out.later HB2.out) (HBV.out.later HB2.out) HP.out.src HP.out.dst HP.out.opts (by have := HP.out.len; omega) (by rw [← HBL.out]; omega)
  rw [← HX.out] at EN
  have HEN := hide EN
  clear b2 EN C1 HB1 l1
  go_wp2_with (refine wpList_loadA rfl 26 16 aggP sizP _ rfl s 0 rfl X LX.out C2.out ?_)
  refine HEN.out.mono ?_
  rintro _ w3 ⟨b3, h3⟩
  have HB3 : Hid (Below w.heap.size w w3) := HB2.out.trans (b3.mono HB2.out.size)
  have C3 := hide (C2.out.later L2 b3)
  have L3 : s < w3.heap.size := Nat.lt_of_lt_of_le L2 b3.size
  clear b3 HEN C2 L2
  rcases h3 with ⟨he, v, rfl, g3⟩ | ⟨hne, rfl⟩
  · have he2 : enE p b.length = 0 := he
    obtain ⟨k1, k2, k3, k4⟩ := back_all HP.out he2 t
    obtain ⟨m1, m2, m3, m4, m5⟩ := enE_zero he2
    have len3 := enB_len p b
    have By3 := hide (enB_bytes HP.out he2 BYB.out)
    obtain ⟨XB, hXB⟩ : ∃ XB, XB = enB p b := ⟨_, rfl⟩
    rw [← hXB] at g3 len3 By3 k1 k2 k3 k4
    obtain ⟨ax, cx, rfl, _⟩ := g3.isB.shape
    obtain ⟨N, hN⟩ : ∃ N, N = XB.length := ⟨_, rfl⟩
    have I3 : Hid (IsB w3.heap.size w3 (.slice ax N cx) XB) := by rw [hN]; exact g3.isB
    rw [← hN] at len3 ⊢
    have zN : N ≤ 65535 := by omega
    have zN0 : 20 ≤ N := by omega
    have HN := hide hN
    obtain ⟨XT, hXT⟩ : ∃ XT, XT = XB ++ t := ⟨_, rfl⟩
    rw [← hXT] at k1 k2 k3 k4
    have HXT := hide hXT
    have K1 := hide k1
    have K2 := hide k2
    have K3 := hide k3
    have K4 := hide k4
    clear k1 k2 k3 k4 m1 m2 m3 m4 m5 len3 hXB g3 hN hXT he he2
    go_wp2_with (at_builtin; refine wpList_growB rfl (.const (.slice none 0 0)) (.tmp 32) rfl rfl w3.heap.size (.slice none 0 0) _ [] XB rfl rfl (Gro.nil _ _) I3.out (Nat.le_refl _) (by rw [← HN.out]; simp; omega) XB (List.nil_append _) ?_)
    intro a4 c4 w4 _ g4 b4
    rw [← HN.out]
    have G4 : Hid (Gro w3.heap.size w4 (.slice a4 N c4) XB) := by unfold Hid; rw [HN.out]; exact g4
    have B4 := hide b4
    have HB4 : Hid (Below w.heap.size w w4) := HB3.out.trans (b4.mono HB3.out.size)
    have IT := hide (HTV.out.later HB4.out)
    clear g4 b4 I3
    go_wp2_with (at_builtin; refine wpList_growC rfl (.tmp 33) (.tmp 34) rfl rfl w3.heap.size (.slice a4 N c4) _ XB t rfl rfl G4.out (by rw [← HN.out]; omega) IT.out B4.out.size (by rw [← HN.out, ← HTL.out]; omega) XT HXT.out.symm ?_)
    intro a5 c5 w5 _ g5 b5
    have B5 : Hid (Below w3.heap.size w3 w5) := B4.out.trans b5
    have HB5 : Hid (Below w.heap.size w w5) := HB3.out.trans (B5.out.mono HB3.out.size)
    have DE := hide (Decode_any (.slice a5 XT.length c5) XT w5 g5.isB (by rw [HXT.out]; exact By3.out.append BYT.out) (by rw [HXT.out, List.length_append, ← HN.out, ← HTL.out]; omega))
    have C5 := hide (C3.out.later L3 B5.out)
    have L5 : s < w5.heap.size := Nat.lt_of_lt_of_le L3 B5.out.size
    clear g5 b5 G4 B4 HB4 IT B5 C3 L3
    go_wp2_with fail
    refine DE.out.mono ?_
    rintro _ w6 ⟨b6, h6⟩
    rcases h6 with ⟨hne, _⟩ | ⟨_, qv, dv, n1, rfl, gq, gd, _, _⟩
    · exact absurd K1.out hne
    rw [K4.out] at gq
    rw [K3.out] at gd
    rw [K2.out]
    obtain ⟨aq, cq, rfl, _⟩ := gq.isB.shape
    obtain ⟨ad, cd, rfl, _⟩ := gd.isB.shape
    obtain ⟨Y, hY⟩ : ∃ Y, Y = p.cells (.slice aq p.opts.length cq) := ⟨_, rfl⟩
    rw [← hY]
    have lY : Hid (Y.length = 16) := by rw [hY]; exact (rfl : (p.cells (.slice aq p.opts.length cq)).length = 16)
    have oY : Hid (∀ u ∈ Y, u.oneCell' = true) := by rw [hY]; exact pk_one _ _ _ _
    obtain ⟨u0, w7, hu0, hw7, cu0, fu0, c7, b7, l7⟩ := newP w6 Y lY.out
    obtain ⟨s6, hs6⟩ : ∃ s6, s6 = w6.heap.size := ⟨_, rfl⟩
    rw [← hs6] at hw7 cu0 fu0 c7 l7
    have CU := hide cu0
    have FU := hide fu0
    have b67 := b6.trans (b7.mono b6.size)
    have HB7 : Hid (Below w.heap.size w w7) := HB5.out.trans (b67.mono HB5.out.size)
    have C7s := hide (C5.out.later L5 b67)
    have C7 := hide c7
    have D7 := hide ((gd.later b7).isB)
    have SM := Same_true p (.slice ao p.opts.length co) (.slice aq p.opts.length cq) w7 (HOV.out.later HB7.out) ((gq.later b7).isB)
    rw [← hY, ← HX.out] at SM
    have HSM := hide SM
    have hu0' := hu0.symm
    simp only [zP, Pk.cells, I4.vals, zI, List.cons_append, List.nil_append] at hu0'
    have hs6' := hs6.symm
    have hw7' := hw7.symm
    rw [← HBL.out] at D7 ⊢
    clear b6 b7 b67 gq gd c7 cu0 fu0 SM hu0 hs6 hw7 hY DE HB5 C5 L5 l7 K1 K2 K3 K4 HXT By3 HN zN zN0
    go_upto_region 5 with (refine wpList_storeA rfl 26 16 sizP _ _ rfl s6 0 rfl Y (zP.cells (.slice none 0 0)) rfl lY.out rfl CU.out FU.out oY.out ?_; intro _; rw [hw7'])
    clear hu0' hw7' hs6' CU FU
    go_wp2_with (first | refine wpList_loadA rfl 26 16 aggP sizP _ rfl s 0 rfl X LX.out C7s.out ?_ | refine wpList_loadA rfl 26 16 aggP sizP _ rfl s6 0 rfl Y lY.out C7.out ?_)
    refine HSM.out.mono ?_
    rintro _ w8 ⟨rfl, b8⟩
    have HB8 : Hid (Below w.heap.size w w8) := HB7.out.trans (b8.mono HB7.out.size)
    have sc1 := conv_str (D7.out.later b8)
    have sc2 := conv_str (HBV.out.later HB8.out)
    obtain ⟨SB, hSB⟩ : ∃ SB, SB = strB b := ⟨_, rfl⟩
    rw [← hSB] at sc1 sc2
    clear b8 HSM D7 C7 C7s HB7 hSB HB3 HB2

    have DR := hide (Decode_any (.slice ar nr cr) r w8 (HRV.out.later HB8.out) BYR.out (by rw [← HNR.out]; omega))
    go_wp2_with fail
    clear sc1 sc2
    refine DR.out.mono ?_
    rintro _ wa ⟨ba, ha⟩
    have HBa : Hid (Below w.heap.size w wa) := HB8.out.trans (ba.mono HB8.out.size)
    clear DR ba
    rcases ha with ⟨hne, rfl⟩ | ⟨hz, qv, dv, n1, rfl, gq, gd, _, _⟩
    · obtain ⟨E1, hE1⟩ : ∃ E1, E1 = faE r := ⟨_, rfl⟩
      rw [← hE1] at hne ⊢
      have qE1 : (E1 != 0) = true := by simpa using hne
      obtain ⟨Z, hZ⟩ : ∃ Z, Z = zP.cells (.slice none 0 0) := ⟨_, rfl⟩
      rw [← hZ]
      have lZ : Hid (Z.length = 16) := by rw [hZ]; exact (rfl : (zP.cells (.slice none 0 0)).length = 16)
      have oZ : Hid (∀ u ∈ Z, u.oneCell' = true) := by rw [hZ]; exact pk_one _ _ _ _
      obtain ⟨u1, wb, hu1, hwb, cu1, fu1, cb1, bb, lb1⟩ := newP wa Z lZ.out
      obtain ⟨sa, hsa⟩ : ∃ sa, sa = wa.heap.size := ⟨_, rfl⟩
      rw [← hsa] at hwb cu1 fu1 cb1 lb1
      have CU := hide cu1
      have FU := hide fu1
      have HBb : Hid (Below w.heap.size w wb) := HBa.out.trans (bb.mono HBa.out.size)
      have hu1' := hu1.symm
      simp only [zP, Pk.cells, I4.vals, zI, List.cons_append, List.nil_append] at hu1'
      have hsa' := hsa.symm
      have hwb' := hwb.symm
      clear hu1 hsa hwb cu1 fu1 cb1 bb lb1 hZ hE1 hne
      go_upto_region 9 with (refine wpList_storeA rfl 26 16 sizP _ _ rfl sa 0 rfl Z (zP.cells (.slice none 0 0)) rfl lZ.out rfl CU.out FU.out oZ.out ?_; intro _; rw [hwb'])
      clear hu1' hwb' hsa' CU FU
      go_wp2
      go_ret
      exact ⟨rfl, HBb.out⟩
    · obtain ⟨F1, F2, F3, F4, F5, F6, F7, F8, F9⟩ := forth_all BYR.out hz
      obtain ⟨q, hq⟩ : ∃ q, q = deP r := ⟨_, rfl⟩
      obtain ⟨d, hd⟩ : ∃ d, d = deD r := ⟨_, rfl⟩
      rw [← F6] at gq
      rw [← hq] at F1 F2 F6 F7 gq ⊢
      rw [← hd] at F1 F2 F8 F9 gd
      obtain ⟨aq, cq, rfl, _⟩ := gq.isB.shape
      obtain ⟨ad, cd, rfl, _⟩ := gd.isB.shape
      obtain ⟨Y1, hY1⟩ : ∃ Y1, Y1 = q.cells (.slice aq q.opts.length cq) := ⟨_, rfl⟩
      rw [← hY1]
      have lY1 : Hid (Y1.length = 16) := by rw [hY1]; exact (rfl : (q.cells (.slice aq q.opts.length cq)).length = 16)
      have oY1 : Hid (∀ u ∈ Y1, u.oneCell' = true) := by rw [hY1]; exact pk_one _ _ _ _
      obtain ⟨u1, wb, hu1, hwb, cu1, fu1, cb1, bb, lb1⟩ := newP wa Y1 lY1.out
      obtain ⟨sa, hsa⟩ : ∃ sa, sa = wa.heap.size := ⟨_, rfl⟩
      rw [← hsa] at hwb cu1 fu1 cb1 lb1
      have CU := hide cu1
      have FU := hide fu1
      have CB := hide cb1
      have HBb : Hid (Below w.heap.size w wb) := HBa.out.trans (bb.mono HBa.out.size)
      have EN := Encode_any q (.slice aq q.opts.length cq) (.slice ad d.length cd) d wb ((gq.later bb).isB) ((gd.later bb).isB) F7.src F7.dst F7.opts (by have := F7.len; omega) (by omega)
      rw [← hY1] at EN
      have HEN := hide EN
      have FF1 := hide F1
      obtain ⟨sn, hsn⟩ : ∃ sn, sn = (szI r).toNat := ⟨_, rfl⟩
      rw [← hsn] at F2
      rw [← HNR.out] at F4
      have s20 : 20 ≤ sn := by omega
      have snr : sn ≤ nr := by omega
      have s65 : sn ≤ 65535 := by omega
      obtain ⟨T, hT⟩ : ∃ T, T = r.take sn := ⟨_, rfl⟩
      have TL : Hid (T.length = sn) := by unfold Hid; rw [hT, List.length_take, ← HNR.out]; omega
      have HT := hide hT
      rw [← hT] at F2
      have FF2 := hide F2
      obtain ⟨dl, hdl⟩ : ∃ dl, dl = d.length := ⟨_, rfl⟩
      rw [← hdl] at HEN ⊢
      have HDL := hide hdl
      obtain ⟨gr, offr, har⟩ := isB_addr HRV.out (by rw [← HNR.out]; omega)
      have hu1' := hu1.symm
      simp only [zP, Pk.cells, I4.vals, zI, List.cons_append, List.nil_append] at hu1'
      have hsa' := hsa.symm
      have hwb' := hwb.symm
      clear hu1 hsa hwb cu1 fu1 cb1 bb lb1 hY1 EN gq gd hz F1 F2 F3 F4 F5 F6 F7 F8 F9 hq hd hT hsn hdl HBa
      subst har
      go_upto_region 9 with (refine wpList_storeA rfl 26 16 sizP _ _ rfl sa 0 rfl Y1 (zP.cells (.slice none 0 0)) rfl lY1.out rfl CU.out FU.out oY1.out ?_; intro _; rw [hwb'])
      clear hu1' hwb' hsa' CU FU
      go_wp2_with (refine wpList_loadA rfl 26 16 aggP sizP _ rfl sa 0 rfl Y1 lY1.out CB.out ?_)
      refine HEN.out.mono ?_
      rintro _ wc ⟨bc, hc⟩
      rcases hc with ⟨_, v, rfl, gy⟩ | ⟨hne, _⟩
      case inr => exact absurd FF1.out hne
      rw [FF2.out] at gy
      have HBc : Hid (Below w.heap.size w wc) := HBb.out.trans (bc.mono HBb.out.size)
      have LL : (zB T).length = sn := by rw [zB_len, TL.out]
      obtain ⟨gyb, cy, rfl, hgy1, hgy2, hcy, _, _⟩ := gy.cells (by omega)
      rw [LL]
      rw [LL] at gy
      have GY := hide gy
      have IT := hide ((HRV.out.later HBc.out).take sn (by rw [← HNR.out]; exact snr))
      rw [← HT.out] at IT
      have z1 : (sn : Int) ≤ (cr : Int) := by omega
      have z2 : ¬ (nr : Int) < (sn : Int) := by omega
      have z3 : (0 : Int) < (sn : Int) := by omega
      clear gy bc HEN CB LL hcy
      go_wp2_with (at_builtin; refine wpList_growB rfl (.const (.slice none 0 0)) (.tmp 83) rfl rfl wc.heap.size (.slice none 0 0) _ [] T rfl rfl (Gro.nil _ _) IT.out (Nat.le_refl _) (by rw [TL.out]; simp; omega) T (List.nil_append _) ?_)
      intro az cz wd _ gz bd
      rw [TL.out] at gz ⊢
      have HBd : Hid (Below w.heap.size w wd) := HBc.out.trans (bd.mono HBc.out.size)
      obtain ⟨gzb, rfl, hgz, _, _⟩ := gz.block (by rw [TL.out]; omega)
      have GY2 := GY.out.later bd
      have YZ : gyb ≠ gzb := by omega
      have BT : Hid (Bytes T) := by rw [HT.out]; exact BYR.out.take _
      obtain ⟨x10, f10⟩ := own_cell gz 10 (by rw [TL.out]; omega)
      obtain ⟨x11, f11⟩ := own_cell gz 11 (by rw [TL.out]; omega)
      replace x10 : wd.cell? ⟨gzb, 10, none⟩ = some (.int .u8 (nb T 10)) := x10
      replace x11 : wd.cell? ⟨gzb, 11, none⟩ = some (.int .u8 (nb T 11)) := x11
      obtain ⟨t10, h10⟩ : ∃ t10, t10 = nb T 10 := ⟨_, rfl⟩
      obtain ⟨t11, h11⟩ : ∃ t11, t11 = nb T 11 := ⟨_, rfl⟩
      rw [← h10] at x10
      rw [← h11] at x11
      have z10 : (10 : Int) < (sn : Int) := by omega
      have z11 : (11 : Int) < (sn : Int) := by omega
      have HC0 : Hid (w.heap.size ≤ wc.heap.size) := HBc.out.size
      clear bd GY IT HBb HBc
      by_cases q10 : t10 = 255
      · by_cases q11 : t11 = 255
        · have eZ : zB T = (T.set 10 0).set 11 0 := by unfold zB; rw [if_pos ⟨by omega, by omega⟩]
          have gzlt : w.heap.size ≤ gzb := Nat.le_trans HC0.out hgz
          obtain ⟨we, hwe, HBe, gz2, sze⟩ := own_store HBd.out gzlt gz TL.out.symm 10 0
          obtain ⟨x11b, f11b⟩ := own_cell gz2 11 (by rw [List.length_set, TL.out]; omega)
          obtain ⟨wf, hwf, HBf, gz3, szf⟩ := own_store HBe gzlt gz2 (by rw [List.length_set, TL.out]) 11 0
          have gy3 : Gro wb.heap.size wf (.slice (some ⟨gyb, 0, none⟩) sn cy) (zB T) := by
            rw [← hwf, ← hwe]
            exact (GY2.other gzb 10 _ YZ).other gzb 11 _ YZ
          rw [← eZ] at gz3
          have sc3 := conv_str gy3.isB
          have sc4 := conv_str gz3.isB
          obtain ⟨SL, hSL⟩ : ∃ SL, SL = strB (zB T) := ⟨_, rfl⟩
          rw [← hSL] at sc3 sc4
          have HF := hide HBf
          rw [q10] at x10
          rw [q11] at x11
          have hwe' := hwe
          have hwf' := hwf
          clear eZ gzlt HBe gz2 sze HBf gz3 szf gy3 hSL GY2 gz h10 h11 hwe hwf
          go_wp2
          go_ret
          exact ⟨rfl, HF.out⟩
        · have eZ : zB T = T := by unfold zB; rw [if_neg (fun h => q11 (h11.trans h.2))]
          rw [eZ] at GY2
          have sc3 := conv_str GY2.isB
          have sc4 := conv_str gz.isB
          obtain ⟨SL, hSL⟩ : ∃ SL, SL = strB T := ⟨_, rfl⟩
          rw [← hSL] at sc3 sc4
          have qb : (t11 == 255) = false := by simpa using q11
          rw [q10] at x10
          clear eZ hSL GY2 gz h10 h11 q11 f10 f11
          go_wp2
          go_ret
          exact ⟨rfl, HBd.out⟩
      · have eZ : zB T = T := by unfold zB; rw [if_neg (fun h => q10 (h10.trans h.1))]
        rw [eZ] at GY2
        have sc3 := conv_str GY2.isB
        have sc4 := conv_str gz.isB
        obtain ⟨SL, hSL⟩ : ∃ SL, SL = strB T := ⟨_, rfl⟩
        rw [← hSL] at sc3 sc4
        have qa : (t10 == 255) = false := by simpa using q10
        clear eZ hSL GY2 gz h10 h11 q10 f10 f11
        go_wp2
        go_ret
        exact ⟨rfl, HBd.out⟩
  · obtain ⟨E, hE⟩ : ∃ E, E = enE p b.length := ⟨_, rfl⟩
    rw [← hE] at hne ⊢
    have q : (E == 0) = false := by simpa using hne
    clear hE hne C3 L3 HB2

    have DR := hide (Decode_any (.slice ar nr cr) r w3 (HRV.out.later HB3.out) BYR.out (by rw [← HNR.out]; omega))
    go_wp2_with fail

    refine DR.out.mono ?_
    rintro _ wa ⟨ba, ha⟩
    have HBa : Hid (Below w.heap.size w wa) := HB3.out.trans (ba.mono HB3.out.size)
    clear DR ba
    rcases ha with ⟨hne, rfl⟩ | ⟨hz, qv, dv, n1, rfl, gq, gd, _, _⟩
    · obtain ⟨E1, hE1⟩ : ∃ E1, E1 = faE r := ⟨_, rfl⟩
      rw [← hE1] at hne ⊢
      have qE1 : (E1 != 0) = true := by simpa using hne
      obtain ⟨Z, hZ⟩ : ∃ Z, Z = zP.cells (.slice none 0 0) := ⟨_, rfl⟩
      rw [← hZ]
      have lZ : Hid (Z.length = 16) := by rw [hZ]; exact (rfl : (zP.cells (.slice none 0 0)).length = 16)
      have oZ : Hid (∀ u ∈ Z, u.oneCell' = true) := by rw [hZ]; exact pk_one _ _ _ _
      obtain ⟨u1, wb, hu1, hwb, cu1, fu1, cb1, bb, lb1⟩ := newP wa Z lZ.out
      obtain ⟨sa, hsa⟩ : ∃ sa, sa = wa.heap.size := ⟨_, rfl⟩
      rw [← hsa] at hwb cu1 fu1 cb1 lb1
      have CU := hide cu1
      have FU := hide fu1
      have HBb : Hid (Below w.heap.size w wb) := HBa.out.trans (bb.mono HBa.out.size)
      have hu1' := hu1.symm
      simp only [zP, Pk.cells, I4.vals, zI, List.cons_append, List.nil_append] at hu1'
      have hsa' := hsa.symm
      have hwb' := hwb.symm
      clear hu1 hsa hwb cu1 fu1 cb1 bb lb1 hZ hE1 hne
      go_upto_region 9 with (refine wpList_storeA rfl 26 16 sizP _ _ rfl sa 0 rfl Z (zP.cells (.slice none 0 0)) rfl lZ.out rfl CU.out FU.out oZ.out ?_; intro _; rw [hwb'])
      clear hu1' hwb' hsa' CU FU
      go_wp2
      go_ret
      exact ⟨rfl, HBb.out⟩
    · obtain ⟨F1, F2, F3, F4, F5, F6, F7, F8, F9⟩ := forth_all BYR.out hz
      obtain ⟨q, hq⟩ : ∃ q, q = deP r := ⟨_, rfl⟩
      obtain ⟨d, hd⟩ : ∃ d, d = deD r := ⟨_, rfl⟩
      rw [← F6] at gq
      rw [← hq] at F1 F2 F6 F7 gq ⊢
      rw [← hd] at F1 F2 F8 F9 gd
      obtain ⟨aq, cq, rfl, _⟩ := gq.isB.shape
      obtain ⟨ad, cd, rfl, _⟩ := gd.isB.shape
      obtain ⟨Y1, hY1⟩ : ∃ Y1, Y1 = q.cells (.slice aq q.opts.length cq) := ⟨_, rfl⟩
      rw [← hY1]
      have lY1 : Hid (Y1.length = 16) := by rw [hY1]; exact (rfl : (q.cells (.slice aq q.opts.length cq)).length = 16)
      have oY1 : Hid (∀ u ∈ Y1, u.oneCell' = true) := by rw [hY1]; exact pk_one _ _ _ _
      obtain ⟨u1, wb, hu1, hwb, cu1, fu1, cb1, bb, lb1⟩ := newP wa Y1 lY1.out
      obtain ⟨sa, hsa⟩ : ∃ sa, sa = wa.heap.size := ⟨_, rfl⟩
      rw [← hsa] at hwb cu1 fu1 cb1 lb1
      have CU := hide cu1
      have FU := hide fu1
      have CB := hide cb1
      have HBb : Hid (Below w.heap.size w wb) := HBa.out.trans (bb.mono HBa.out.size)
      have EN := Encode_any q (.slice aq q.opts.length cq) (.slice ad d.length cd) d wb ((gq.later bb).isB) ((gd.later bb).isB) F7.src F7.dst F7.opts (by have := F7.len; omega) (by omega)
      rw [← hY1] at EN
      have HEN := hide EN
      have FF1 := hide F1
      obtain ⟨sn, hsn⟩ : ∃ sn, sn = (szI r).toNat := ⟨_, rfl⟩
      rw [← hsn] at F2
      rw [← HNR.out] at F4
      have s20 : 20 ≤ sn := by omega
      have snr : sn ≤ nr := by omega
      have s65 : sn ≤ 65535 := by omega
      obtain ⟨T, hT⟩ : ∃ T, T = r.take sn := ⟨_, rfl⟩
      have TL : Hid (T.length = sn) := by unfold Hid; rw [hT, List.length_take, ← HNR.out]; omega
      have HT := hide hT
      rw [← hT] at F2
      have FF2 := hide F2
      obtain ⟨dl, hdl⟩ : ∃ dl, dl = d.length := ⟨_, rfl⟩
      rw [← hdl] at HEN ⊢
      have HDL := hide hdl
      obtain ⟨gr, offr, har⟩ := isB_addr HRV.out (by rw [← HNR.out]; omega)
      have hu1' := hu1.symm
      simp only [zP, Pk.cells, I4.vals, zI, List.cons_append, List.nil_append] at hu1'
      have hsa' := hsa.symm
      have hwb' := hwb.symm
      clear hu1 hsa hwb cu1 fu1 cb1 bb lb1 hY1 EN gq gd hz F1 F2 F3 F4 F5 F6 F7 F8 F9 hq hd hT hsn hdl HBa
      subst har
      go_upto_region 9 with (refine wpList_storeA rfl 26 16 sizP _ _ rfl sa 0 rfl Y1 (zP.cells (.slice none 0 0)) rfl lY1.out rfl CU.out FU.out oY1.out ?_; intro _; rw [hwb'])
      clear hu1' hwb' hsa' CU FU
      go_wp2_with (refine wpList_loadA rfl 26 16 aggP sizP _ rfl sa 0 rfl Y1 lY1.out CB.out ?_)
      refine HEN.out.mono ?_
      rintro _ wc ⟨bc, hc⟩
      rcases hc with ⟨_, v, rfl, gy⟩ | ⟨hne, _⟩
      case inr => exact absurd FF1.out hne
      rw [FF2.out] at gy
      have HBc : Hid (Below w.heap.size w wc) := HBb.out.trans (bc.mono HBb.out.size)
      have LL : (zB T).length = sn := by rw [zB_len, TL.out]
      obtain ⟨gyb, cy, rfl, hgy1, hgy2, hcy, _, _⟩ := gy.cells (by omega)
      rw [LL]
      rw [LL] at gy
      have GY := hide gy
      have IT := hide ((HRV.out.later HBc.out).take sn (by rw [← HNR.out]; exact snr))
      rw [← HT.out] at IT
      have z1 : (sn : Int) ≤ (cr : Int) := by omega
      have z2 : ¬ (nr : Int) < (sn : Int) := by omega
      have z3 : (0 : Int) < (sn : Int) := by omega
      clear gy bc HEN CB LL hcy
      go_wp2_with (at_builtin; refine wpList_growB rfl (.const (.slice none 0 0)) (.tmp 83) rfl rfl wc.heap.size (.slice none 0 0) _ [] T rfl rfl (Gro.nil _ _) IT.out (Nat.le_refl _) (by rw [TL.out]; simp; omega) T (List.nil_append _) ?_)
      intro az cz wd _ gz bd
      rw [TL.out] at gz ⊢
      have HBd : Hid (Below w.heap.size w wd) := HBc.out.trans (bd.mono HBc.out.size)
      obtain ⟨gzb, rfl, hgz, _, _⟩ := gz.block (by rw [TL.out]; omega)
      have GY2 := GY.out.later bd
      have YZ : gyb ≠ gzb := by omega
      have BT : Hid (Bytes T) := by rw [HT.out]; exact BYR.out.take _
      obtain ⟨x10, f10⟩ := own_cell gz 10 (by rw [TL.out]; omega)
      obtain ⟨x11, f11⟩ := own_cell gz 11 (by rw [TL.out]; omega)
      replace x10 : wd.cell? ⟨gzb, 10, none⟩ = some (.int .u8 (nb T 10)) := x10
      replace x11 : wd.cell? ⟨gzb, 11, none⟩ = some (.int .u8 (nb T 11)) := x11
      obtain ⟨t10, h10⟩ : ∃ t10, t10 = nb T 10 := ⟨_, rfl⟩
      obtain ⟨t11, h11⟩ : ∃ t11, t11 = nb T 11 := ⟨_, rfl⟩
      rw [← h10] at x10
      rw [← h11] at x11
      have z10 : (10 : Int) < (sn : Int) := by omega
      have z11 : (11 : Int) < (sn : Int) := by omega
      have HC0 : Hid (w.heap.size ≤ wc.heap.size) := HBc.out.size
      clear bd GY IT HBb HBc
      by_cases q10 : t10 = 255
      · by_cases q11 : t11 = 255
        · have eZ : zB T = (T.set 10 0).set 11 0 := by unfold zB; rw [if_pos ⟨by omega, by omega⟩]
          have gzlt : w.heap.size ≤ gzb := Nat.le_trans HC0.out hgz
          obtain ⟨we, hwe, HBe, gz2, sze⟩ := own_store HBd.out gzlt gz TL.out.symm 10 0
          obtain ⟨x11b, f11b⟩ := own_cell gz2 11 (by rw [List.length_set, TL.out]; omega)
          obtain ⟨wf, hwf, HBf, gz3, szf⟩ := own_store HBe gzlt gz2 (by rw [List.length_set, TL.out]) 11 0
          have gy3 : Gro wb.heap.size wf (.slice (some ⟨gyb, 0, none⟩) sn cy) (zB T) := by
            rw [← hwf, ← hwe]
            exact (GY2.other gzb 10 _ YZ).other gzb 11 _ YZ
          rw [← eZ] at gz3
          have sc3 := conv_str gy3.isB
          have sc4 := conv_str gz3.isB
          obtain ⟨SL, hSL⟩ : ∃ SL, SL = strB (zB T) := ⟨_, rfl⟩
          rw [← hSL] at sc3 sc4
          have HF := hide HBf
          rw [q10] at x10
          rw [q11] at x11
          have hwe' := hwe
          have hwf' := hwf
          clear eZ gzlt HBe gz2 sze HBf gz3 szf gy3 hSL GY2 gz h10 h11 hwe hwf
          go_wp2
          go_ret
          exact ⟨rfl, HF.out⟩
        · have eZ : zB T = T := by unfold zB; rw [if_neg (fun h => q11 (h11.trans h.2))]
          rw [eZ] at GY2
          have sc3 := conv_str GY2.isB
          have sc4 := conv_str gz.isB
          obtain ⟨SL, hSL⟩ : ∃ SL, SL = strB T := ⟨_, rfl⟩
          rw [← hSL] at sc3 sc4
          have qb : (t11 == 255) = false := by simpa using q11
          rw [q10] at x10
          clear eZ hSL GY2 gz h10 h11 q11 f10 f11
          go_wp2
          go_ret
          exact ⟨rfl, HBd.out⟩
      · have eZ : zB T = T := by unfold zB; rw [if_neg (fun h => q10 (h10.trans h.1))]
        rw [eZ] at GY2
        have sc3 := conv_str GY2.isB
        have sc4 := conv_str gz.isB
        obtain ⟨SL, hSL⟩ : ∃ SL, SL = strB T := ⟨_, rfl⟩
        rw [← hSL] at sc3 sc4
        have qa : (t10 == 255) = false := by simpa using q10
        clear eZ hSL GY2 gz h10 h11 q10 f10 f11
        go_wp2
        go_ret
        exact ⟨rfl, HBd.out⟩
end Go.Proofs.Ytkfgdaccoekbgaa
