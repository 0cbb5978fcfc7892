
/-
  IcmpForms: the walk.
-/
import Derived.Test.YtlhkdjockodneaaT18
namespace Go.Proofs.Ytlhkdjockodneaa
open Go.RowKit Go.Shelf

/-- it holds, and will, as long as all that is there stays -/
def Up (a : World) (Φ : World → Prop) : Prop := ∀ W, Below a.heap.size a W → Φ W
theorem Up.now {a : World} {Φ : World → Prop} (h : Up a Φ) : Φ a := h a (Below.refl _ _)
theorem Up.next {a b : World} {Φ : World → Prop} (h : Up a Φ) (hb : Below a.heap.size a b) : Up b Φ := fun W hW => h W (later hb hW)
theorem Up.and {a : World} {Φ Ψ : World → Prop} (h : Up a Φ) (k : Up a Ψ) : Up a (fun W => Φ W ∧ Ψ W) := fun W hW => ⟨h W hW, k W hW⟩
theorem CellsAt.up {a : World} {s o : Nat} {vs : List Value} (h : CellsAt a s o vs) (hl : s < a.heap.size) : Up a (fun W => CellsAt W s o vs) := fun _ hW => h.later hl hW
theorem Gro.up {B : Nat} {a : World} {v : Value} {bs : List Int} (h : Gro B a v bs) : Up a (fun W => Gro B W v bs) := fun _ hW => h.later hW
theorem IsB.up {a : World} {v : Value} {bs : List Int} (h : IsB a.heap.size a v bs) : Up a (fun W => IsB W.heap.size W v bs) := fun _ hW => h.later hW
set_option maxRecDepth 100000 in
set_option maxHeartbeats 16000000 in
theorem Forms_walk (m : Ms) (dv bv : Value) (b : List Int) (w : World) (hd : IsB w.heap.size w dv m.d) (hO : MsOk m) (hb : IsB w.heap.size w bv b) (hB : Bytes b) (lb : b.length ≤ 140737488351232) :
    Calls Try.prog 3 #[.agg (m.cells dv).toArray, bv] w fun e w' => e = .returned (.bool true) ∧ Below w.heap.size w w' := by
  have hDB := hO.data
  have hDL := hO.len
  clear hO
  obtain ⟨da, dc, rfl, _⟩ := hd.shape
  obtain ⟨ba, bc, rfl, _⟩ := hb.shape
  obtain ⟨t, c, i, s, u, ds⟩ := m
  simp only at hd hDB hDL ⊢
  obtain ⟨dn, hdn⟩ : ∃ dn, dn = ds.length := ⟨_, rfl⟩
  obtain ⟨bn, hbn⟩ : ∃ bn, bn = b.length := ⟨_, rfl⟩
  rw [← hdn] at hd hDL ⊢
  rw [← hbn] at hb lb ⊢
  obtain ⟨s2, w1, hs2, hw1, b1, l1, hc, _⟩ := boxI w t c i s u (.slice da dn dc)
  obtain ⟨X, hX⟩ : ∃ X, X = imL t c i s u (.slice da dn dc) := ⟨_, rfl⟩
  rw [← hX] at hc
  have LX : Hid (X.length = 6) := by rw [hX]; exact rfl
  have OX : Hid (∀ u ∈ X, u.oneCell' = true) := by rw [hX]; exact im_one _ _ _ _ _ _ _ _
  have HX := hide hX
  have DB := hide hDB
  have BB := hide hB
  have HDN := hide hdn
  have HBN := hide hbn
  have S2 : Hid (s2 = w.heap.size) := hs2.symm
  have U1 : Hid (Up w1 (fun W => CellsAt W s2 0 X ∧ IsB W.heap.size W (.slice da dn dc) ds ∧ IsB W.heap.size W (.slice ba bn bc) b)) := (hc.up l1).and ((hd.later b1).up.and (hb.later b1).up)
  have B1 := hide b1
  have HD0 := hide hd
  have HB0 := hide hb
  simp only [Ms.cells, imL]
  clear hc b1 hd hb hDB hB hX hdn hbn
  go_enter Try.func3, Try.ntmps3
  go_wp2_with fail
  clear hs2 hw1
  refine (icAwake_any w1).mono ?_
  rintro _ w2 ⟨rfl, b2⟩
  have B2 := hide (later B1.out b2)
  have U2 := U1.out.next b2
  -- o
  obtain ⟨u3, w3, hu3, hw3, cu3, fu3, c3, b3, l3⟩ := newC w2 X LX.out
  obtain ⟨s6, hs6⟩ : ∃ s6, s6 = w2.heap.size := ⟨_, rfl⟩
  rw [← hs6] at hw3 cu3 fu3 c3 l3
  have C2 := hide U2.now.1
  have CU := hide cu3
  have FU := hide fu3
  have f3 : ∀ y, w3.frozen? ⟨s6, y, none⟩ = false := fun y => by rw [hw3, World.frozen?_setCells]; exact fu3 y
  have S6 : Hid (w.heap.size ≤ s6 ∧ s2 < s6) := by have h1 := B2.out.size; have h2 := b2.size; exact ⟨by omega, by omega⟩
  have B3 := hide (later B2.out b3)
  have U3 := hide ((U2.next b3))
  have C3 := hide c3
  have F3 := hide f3
  have hu3' := hu3.symm
  simp only [zIm, imL] at hu3'
  have hs6' := hs6.symm
  have hw3' := hw3.symm
  clear b2 U2 U1 B1 hu3 hw3 hs6 cu3 fu3 c3 b3 f3
  go_upto_region 3 with (first | refine wpList_loadA rfl 24 6 aggC sizC _ rfl s2 0 rfl X LX.out C2.out ?_ | (refine wpList_storeA rfl 24 6 sizC _ _ rfl s6 0 rfl X zIm rfl LX.out rfl CU.out FU.out OX.out ?_; intro _; rw [hw3']))
  clear hu3' hw3' hs6' CU FU C2
  -- o.Data
  have x5 : w3.cell? ⟨s2, 5, none⟩ = some (.slice da dn dc) := by
    have h := U3.out.now.1
    rw [HX.out] at h
    exact (imL_cells h).2.2.2.2.2
  have ID3 := hide U3.out.now.2.1
  have LD3 : Hid (([] : List Int).length + ds.length ≤ 140737488355328) := by unfold Hid; rw [← HDN.out]; simp; omega
  have EL3 : Hid (([] : List Int) ++ ds = ds) := rfl
  have GN3 : Hid (Gro w3.heap.size w3 (.slice none 0 0) []) := Gro.nil _ _
  have NN3 : Hid (w3.heap.size ≤ w3.heap.size) := Nat.le_refl _
  go_wp2_with (at_builtin; refine wpList_growB rfl (.const (.slice none 0 0)) (.tmp 26) rfl rfl w3.heap.size (.slice none 0 0) _ [] ds rfl rfl GN3.out ID3.out NN3.out LD3.out ds EL3.out ?_)
  intro a4 c4 w4 hc4 g4 b4
  rw [← HDN.out] at hc4 g4 ⊢
  have c4' := C3.out.later l3 b4
  rw [HX.out] at c4'
  have x5' := (imL_cells c4').2.2.2.2.2
  have f5' : w4.frozen? ⟨s6, 5, none⟩ = false := (b4.frozen (p := ⟨s6, 5, none⟩) l3).trans (F3.out 5)
  obtain ⟨w5, hw5⟩ : ∃ w5, w5 = w4.setCell ⟨s6, 5, none⟩ (.slice a4 dn c4) := ⟨_, rfl⟩
  obtain ⟨Y, hY⟩ : ∃ Y, Y = imL t c i s u (.slice a4 dn c4) := ⟨_, rfl⟩
  have c5 : CellsAt w5 s6 0 Y := by
    obtain ⟨y0, y1, y2, y3, y4, y5⟩ := imL_cells c4'
    rw [hw5, hY]
    intro j v hv
    rw [Nat.zero_add]
    rcases j with _ | _ | _ | _ | _ | _ | j
    · rw [setCell_out (by decide)]; cases hv; exact y0
    · rw [setCell_out (by decide)]; cases hv; exact y1
    · rw [setCell_out (by decide)]; cases hv; exact y2
    · rw [setCell_out (by decide)]; cases hv; exact y3
    · rw [setCell_out (by decide)]; cases hv; exact y4
    · cases hv; exact World.cell?_setCell_same _ _ _ y5
    · cases hv
  have bo5 : But (Only s6) w4 w5 := by rw [hw5]; exact (But.refl (Only s6) w4).cellb (b := s6) rfl 5 _
  have l5 : s6 < w5.heap.size := Nat.lt_of_lt_of_le l3 (Nat.le_trans b4.size bo5.size)
  have g5 : Gro w3.heap.size w5 (.slice a4 dn c4) ds := g4.off bo5 (fun g x y e e2 => by
    have := (g4.lies g x y e).1
    omega)
  have B5 : Hid (Below w.heap.size w w5) := by
    have h := later B3.out b4
    exact h.trans (bo5.below h.size (fun g hg e => by have e : g = s6 := e; have := S6.out; omega))
  have U5 : Hid (Up w5 (fun W => (CellsAt W s2 0 X ∧ IsB W.heap.size W (.slice da dn dc) ds ∧ IsB W.heap.size W (.slice ba bn bc) b) ∧ (CellsAt W s6 0 Y ∧ Gro w3.heap.size W (.slice a4 dn c4) ds))) := by
    have k := U3.out.next b4
    have kb := k.now
    have l2 : s2 < w4.heap.size := kb.1.lt (by rw [LX.out]; decide)
    have q1 : CellsAt w5 s2 0 X := kb.1.but l2 bo5 (fun e => by have e : s2 = s6 := e; have := S6.out; omega)
    exact ((q1.up (q1.lt (by rw [LX.out]; decide))).and ((HD0.out.later B5.out).up.and (HB0.out.later B5.out).up)).and ((c5.up l5).and g5.up)
  have EN := icEnc_any t c i s u a4 c4 ds w5 (by have h := g5.isB; rw [HDN.out] at h; exact h) DB.out
  rw [← HDN.out] at EN
  have LY : Hid (Y.length = 6) := by rw [hY]; exact rfl
  have YV : Hid (Y = imL t c i s u (.slice a4 dn c4)) := hY
  have EY : Hid (Y.toArray = #[.int .i64 t, .int .i64 c, .int .i64 i, .int .i64 s, .int .i64 u, .slice a4 dn c4]) := by rw [hY]; exact rfl
  obtain ⟨E, hE⟩ : ∃ E, E = ieE t c i s u dn := ⟨_, rfl⟩
  obtain ⟨L, hL⟩ : ∃ L, L = ieB t c i s u ds := ⟨_, rfl⟩
  rw [← hE, ← hL, ← EY.out] at EN
  have HEN := hide EN
  have C5 := hide c5
  have HE := hide hE
  have HL := hide hL
  have ODL : Hid (∀ g x y, (.slice a4 dn c4 : Value) = .slice (some ⟨g, 0, none⟩) x y → g < w5.heap.size) := fun g x y e => (g5.lies g x y e).2
  have hw5' := hw5.symm
  clear hc4 g4 b4 c4' hw5 hY c5 bo5 g5 EN hE hL C3 F3 U3 ID3 LD3 EL3 GN3 NN3 B3
  go_upto_region 4 with fail
  clear x5 x5' f5' hw5'
  go_wp2_with (refine wpList_loadA rfl 24 6 aggC sizC _ rfl s6 0 rfl Y LY.out C5.out ?_)
  refine HEN.out.mono ?_
  rintro _ w6 ⟨xv, rfl, g6, b6⟩
  obtain ⟨xa, xc, rfl, _⟩ := g6.isB.shape
  obtain ⟨xn, hxn⟩ : ∃ xn, xn = L.length := ⟨_, rfl⟩
  rw [← hxn] at g6 ⊢
  have HXN := hide hxn
  have B6 := hide (later B5.out b6)
  have U6 := hide ((U5.out.next b6).and g6.up)
  have GX6 := hide g6
  have Z56 : Hid (w5.heap.size ≤ w6.heap.size) := b6.size
  have XLI : Hid (∀ g x y, (.slice xa xn xc : Value) = .slice (some ⟨g, 0, none⟩) x y → w5.heap.size ≤ g ∧ g < w6.heap.size) := fun g x y e => g6.lies g x y e
  clear HEN C5 b6 g6 hxn U5
  have RE := rEnc_any t c i s u da dc ds w6 (by have h := U6.out.now.1.1.2.1; rw [HDN.out] at h; exact h) DB.out
  have EX : Hid (X.toArray = #[.int .i64 t, .int .i64 c, .int .i64 i, .int .i64 s, .int .i64 u, .slice da dn dc]) := by rw [HX.out]; exact rfl
  rw [← HDN.out, ← HE.out, ← HL.out, ← EX.out] at RE
  have HRE := hide RE
  have C6 := hide U6.out.now.1.1.1
  clear RE
  go_wp2_with (refine wpList_loadA rfl 24 6 aggC sizC _ rfl s2 0 rfl X LX.out C6.out ?_)
  refine HRE.out.mono ?_
  rintro _ w7 ⟨yv, rfl, g7, b7⟩
  obtain ⟨ya, yc, rfl, _⟩ := g7.isB.shape
  rw [← HXN.out] at g7 ⊢
  have B7 := hide (later B6.out b7)
  have U7 := hide ((U6.out.next b7).and g7.isB.up)
  have Z67 : Hid (w6.heap.size ≤ w7.heap.size) := b7.size
  clear HRE C6 b7 g7 U6
  -- own
  have IB7 := hide U7.out.now.1.1.1.2.2
  have LD7 : Hid (([] : List Int).length + b.length ≤ 140737488355328) := by unfold Hid; rw [← HBN.out]; simp; omega
  have EL7 : Hid (([] : List Int) ++ b = b) := rfl
  have GN7 : Hid (Gro w7.heap.size w7 (.slice none 0 0) []) := Gro.nil _ _
  have NN7 : Hid (w7.heap.size ≤ w7.heap.size) := Nat.le_refl _
  go_wp2_with (at_builtin; refine wpList_growB rfl (.const (.slice none 0 0)) (.tmp 39) rfl rfl w7.heap.size (.slice none 0 0) _ [] b rfl rfl GN7.out IB7.out NN7.out LD7.out b EL7.out ?_)
  intro oa oc w8 hc8 g8 b8
  rw [← HBN.out] at hc8 g8 ⊢
  have B8 := hide (later B7.out b8)
  have U8 := hide ((U7.out.next b8).and g8.up)
  have DE := icDec_any (.slice oa bn oc) b w8 g8.isB BB.out (by rw [← HBN.out]; omega)
  obtain ⟨M, hM⟩ : ∃ M, M = idM b := ⟨_, rfl⟩
  obtain ⟨F, hF⟩ : ∃ F, F = idE b := ⟨_, rfl⟩
  rw [← hM, ← hF] at DE
  have HDE := hide DE
  have HM := hide hM
  have HF := hide hF
  have Z78 : Hid (w7.heap.size ≤ w8.heap.size) := b8.size
  have OWN : Hid (∀ g x y, (.slice oa bn oc : Value) = .slice (some ⟨g, 0, none⟩) x y → w7.heap.size ≤ g ∧ g < w8.heap.size) := fun g x y e => g8.lies g x y e
  clear hc8 g8 b8 DE hM hF U7 IB7 LD7 EL7 GN7 NN7
  go_wp2_with fail
  refine HDE.out.mono ?_
  rintro _ w9 ⟨pa, pn, pc, rfl, g9, b9⟩
  obtain ⟨P, hP⟩ : ∃ P, P = M.cells (.slice pa pn pc) := ⟨_, rfl⟩
  rw [← hP]
  have LP : Hid (P.length = 6) := by rw [hP]; exact rfl
  have OP : Hid (∀ u ∈ P, u.oneCell' = true) := by rw [hP]; exact im_one _ _ _ _ _ _ _ _
  have HP := hide hP
  obtain ⟨u10, w10, hu10, hw10, cu10, fu10, c10, b10, l10⟩ := newC w9 P LP.out
  obtain ⟨s12, hs12⟩ : ∃ s12, s12 = w9.heap.size := ⟨_, rfl⟩
  rw [← hs12] at hw10 cu10 fu10 c10 l10
  have CU := hide cu10
  have FU := hide fu10
  have b910 := later b9 b10
  have B10 := hide (later B8.out b910)
  have U10 := hide ((U8.out.next b910).and ((c10.up l10).and (g9.later b10).up))
  have PL : Hid (pn = M.d.length) := by
    obtain ⟨_, _, e, _⟩ := g9.isB.shape
    simp only [Value.slice.injEq] at e
    exact e.2.1
  have P12 : Hid (∀ g x y, (.slice pa pn pc : Value) = .slice (some ⟨g, 0, none⟩) x y → w8.heap.size ≤ g ∧ g < s12) := fun g x y e => by
    have h := g9.lies g x y e
    rw [hs12]
    exact h
  have RD := rDec_any (.slice ba bn bc) b w10 U10.out.now.1.1.1.1.1.2.2 BB.out (by rw [← HBN.out]; omega)
  rw [← HM.out, ← HF.out] at RD
  have HRD := hide RD
  have hu10' := hu10.symm
  simp only [zIm, imL] at hu10'
  have hs12' := hs12.symm
  have hw10' := hw10.symm
  have S12 : Hid (w8.heap.size ≤ s12) := by rw [hs12]; exact b9.size
  clear hP hu10 hw10 cu10 fu10 c10 b10 b9 b910 g9 hs12 RD HDE U8
  go_upto_region 8 with (refine wpList_storeA rfl 24 6 sizC _ _ rfl s12 0 rfl P zIm rfl LP.out rfl CU.out FU.out OP.out ?_; intro _; rw [hw10'])
  clear hu10' hw10' hs12' CU FU
  go_wp2_with fail
  refine HRD.out.mono ?_
  rintro _ w11 ⟨qa, qn, qc, rfl, i11, b11⟩
  obtain ⟨Q, hQ⟩ : ∃ Q, Q = M.cells (.slice qa qn qc) := ⟨_, rfl⟩
  rw [← hQ]
  have LQ : Hid (Q.length = 6) := by rw [hQ]; exact rfl
  have OQ : Hid (∀ u ∈ Q, u.oneCell' = true) := by rw [hQ]; exact im_one _ _ _ _ _ _ _ _
  obtain ⟨u12, w12, hu12, hw12, cu12, fu12, c12, b12, l12⟩ := newC w11 Q LQ.out
  obtain ⟨s14, hs14⟩ : ∃ s14, s14 = w11.heap.size := ⟨_, rfl⟩
  rw [← hs14] at hw12 cu12 fu12 c12 l12
  have CU := hide cu12
  have FU := hide fu12
  have b1112 := later b11 b12
  have B12 := hide (later B10.out b1112)
  have U12 := hide (U10.out.next b1112)
  have C12 := hide c12
  have CP12 := hide U12.out.now.2.1
  have SM := icSame_any M.t M.c M.i M.s M.u pa pn pc M.d M.t M.c M.i M.s M.u qa qn qc M.d w12 U12.out.now.2.2.isB (i11.later b12)
  have SM2 : Hid (Calls Try.prog 14 #[.agg P.toArray, .agg Q.toArray] w12 fun e w' => e = .returned (.bool true) ∧ Below w12.heap.size w12 w') := by
    rw [HP.out, hQ]
    exact SM.mono (by rintro _ W' ⟨r, rfl, h, hb⟩; rw [h rfl rfl rfl rfl rfl rfl]; exact ⟨rfl, hb⟩)
  have hu12' := hu12.symm
  simp only [zIm, imL] at hu12'
  have hs14' := hs14.symm
  have hw12' := hw12.symm
  clear hQ hu12 hw12 cu12 fu12 c12 b12 b11 b1112 i11 hs14 SM HRD U10
  go_upto_region 9 with (refine wpList_storeA rfl 24 6 sizC _ _ rfl s14 0 rfl Q zIm rfl LQ.out rfl CU.out FU.out OQ.out ?_; intro _; rw [hw12'])
  clear hu12' hw12' hs14' CU FU
  go_wp2_with (first | refine wpList_loadA rfl 24 6 aggC sizC _ rfl s12 0 rfl P LP.out CP12.out ?_ | refine wpList_loadA rfl 24 6 aggC sizC _ rfl s14 0 rfl Q LQ.out C12.out ?_)
  refine SM2.out.mono ?_
  rintro _ w13 ⟨rfl, b13⟩
  have B13 := hide (later B12.out b13)
  have U13 := hide (U12.out.next b13)
  clear b13 SM2 C12 CP12 U12
  -- back
  have LB : Hid (Bytes L ∧ L.length ≤ 1024) := by
    by_cases e : E = 0
    · obtain ⟨m1, m2⟩ := ieE_zero (HE.out.symm.trans e)
      have eL : L = icB t c i s u ds := by rw [HL.out]; unfold ieB; rw [← HDN.out, ← HE.out, if_pos e]
      rw [eL]
      exact ⟨icB_bytes m2 DB.out, by rw [icB_len, ← HDN.out]; omega⟩
    · have eL : L = [] := by rw [HL.out]; unfold ieB; rw [← HDN.out, ← HE.out, if_neg e]
      rw [eL]
      exact ⟨Bytes.nil, by simp⟩
  have BD := icDec_any (.slice xa xn xc) L w13 U13.out.now.1.1.1.2.isB LB.out.1 (by have := LB.out.2; omega)
  obtain ⟨K, hK⟩ : ∃ K, K = idM L := ⟨_, rfl⟩
  obtain ⟨G, hG⟩ : ∃ G, G = idE L := ⟨_, rfl⟩
  rw [← hK, ← hG] at BD
  have BACK : Hid (E = 0 → G = 0 ∧ K = ⟨t, c, i, s, u, ds⟩) := fun e => by
    obtain ⟨m1, m2⟩ := ieE_zero (HE.out.symm.trans e)
    have eL : L = icB t c i s u ds := by rw [HL.out]; unfold ieB; rw [← HDN.out, ← HE.out, if_pos e]
    rw [hG, hK, eL]
    exact dec_enc m2 DB.out (by rw [← HDN.out]; exact m1)
  have HBD := hide BD
  clear BD hK hG
  go_wp2_with fail
  refine HBD.out.mono ?_
  rintro _ w14 ⟨ka, kn, kc, rfl, g14, b14⟩
  obtain ⟨R, hR⟩ : ∃ R, R = K.cells (.slice ka kn kc) := ⟨_, rfl⟩
  rw [← hR]
  have LR : Hid (R.length = 6) := by rw [hR]; exact rfl
  have OR : Hid (∀ u ∈ R, u.oneCell' = true) := by rw [hR]; exact im_one _ _ _ _ _ _ _ _
  obtain ⟨u15, w15, hu15, hw15, cu15, fu15, c15, b15, l15⟩ := newC w14 R LR.out
  obtain ⟨s17, hs17⟩ : ∃ s17, s17 = w14.heap.size := ⟨_, rfl⟩
  rw [← hs17] at hw15 cu15 fu15 c15 l15
  have CU := hide cu15
  have FU := hide fu15
  have b1415 := later b14 b15
  have B15 := hide (later B13.out b1415)
  have U15 := hide (U13.out.next b1415)
  have C15 := hide c15
  have CX15 := hide U15.out.now.1.1.1.1.1.1
  have SM := icSame_any K.t K.c K.i K.s K.u ka kn kc K.d t c i s u da dn dc ds w15 (g14.later b15).isB U15.out.now.1.1.1.1.1.2.1
  have SM2 : Hid (Calls Try.prog 14 #[.agg R.toArray, .agg X.toArray] w15 fun e w' => ∃ r, e = .returned (.bool r) ∧ (E = 0 → r = true) ∧ Below w15.heap.size w15 w') := by
    rw [hR, HX.out]
    exact SM.mono (by rintro _ W' ⟨r, rfl, h, hb⟩; exact ⟨r, rfl, fun e => by obtain ⟨_, e2⟩ := BACK.out e; rw [e2] at h; exact h rfl rfl rfl rfl rfl rfl, hb⟩)
  have hu15' := hu15.symm
  simp only [zIm, imL] at hu15'
  have hs17' := hs17.symm
  have hw15' := hw15.symm
  clear hR hu15 hw15 cu15 fu15 c15 b15 b14 b1415 g14 hs17 SM HBD U13
  go_upto_region 11 with (refine wpList_storeA rfl 24 6 sizC _ _ rfl s17 0 rfl R zIm rfl LR.out rfl CU.out FU.out OR.out ?_; intro _; rw [hw15'])
  clear hu15' hw15' hs17' CU FU
  go_wp2_with (first | refine wpList_loadA rfl 24 6 aggC sizC _ rfl s17 0 rfl R LR.out C15.out ?_ | refine wpList_loadA rfl 24 6 aggC sizC _ rfl s2 0 rfl X LX.out CX15.out ?_)
  refine SM2.out.mono ?_
  rintro _ w16 ⟨r, rfl, hr, b16⟩
  have B16 := hide (later B15.out b16)
  have U16 := hide (U15.out.next b16)
  have HR2 := hide hr
  clear b16 SM2 C15 CX15 U15 hr
  go_upto_region 12 with fail
  go_cut [71] from 62 to 71 (fun v wx => v = .bool false ∧ w16 = wx)
  case first =>
    by_cases e : E = 0
    · obtain ⟨eG, _⟩ := BACK.out e
      have er := HR2.out e
      subst eG er
      have z : (E == 0) = true := by simpa using e
      clear e
      go_wp2
      go_meet
      exact ⟨rfl, rfl⟩
    · have z : (E == 0) = false := by simpa using e
      clear e
      go_wp2
      go_meet
      exact ⟨rfl, rfl⟩
  case rest =>
    obtain ⟨rfl, hcw⟩ := hcut
    subst hcw
    have t1 := conv_str U16.out.now.1.1.1.2.isB
    have t2 := conv_str U16.out.now.1.1.2
    obtain ⟨S1, hS1⟩ : ∃ S1, S1 = strB L := ⟨_, rfl⟩
    rw [← hS1] at t1 t2
    clear hS1
    have l2 : s2 < w5.heap.size := by have := S6.out; omega
    have B5z : Hid (w.heap.size ≤ w5.heap.size) := B5.out.size
    go_upto_region 15 with fail
    clear t1 t2
    go_wp2
    go_loopw [21] (fun vi wr => ∃ (k : Nat) (Z : List Int), vi = .int .i64 (k : Int) ∧ k ≤ xn ∧ Hid (Z.length = xn) ∧ Hid (Gro w5.heap.size wr (.slice xa xn xc) Z) ∧ Hid (But (fun g => w5.heap.size ≤ g ∧ g < w6.heap.size) w16 wr)) (fun vi _ => xn - (intOf vi).toNat)
    case atStart => exact ⟨0, L, rfl, Nat.zero_le _, HXN.out.symm, U16.out.now.1.1.1.2, But.refl _ _⟩
    case round =>
      obtain ⟨k, Z, rfl, hk, hZ, GZ, Bt⟩ := hrel
      have xz : (xn : Int) ≤ 1024 := by have := HXN.out; have := LB.out.2; omega
      by_cases hlt : k < xn
      · obtain ⟨qq, rfl, hq, hc, hf⟩ := GZ.out.block (by rw [hZ.out]; omega)
        have c9 := hc k (by rw [hZ.out]; exact hlt)
        have f9 := hf k
        have HQQ := hide (XLI.out qq _ _ rfl)
        obtain ⟨z, ez⟩ : ∃ z, Z[k]?.getD 0 = z := ⟨_, rfl⟩
        rw [ez] at c9
        clear ez hc hf hq hk
        go_wp2
        go_roundw
        case rel => exact ⟨k + 1, Z.set k ((z + 1) % 256), by go_num, by omega, by show _ = _; rw [List.length_set]; exact hZ.out, GZ.out.store hZ.out.symm k _, Bt.out.setCell (p := ⟨qq, k, none⟩) (.inr HQQ.out) _⟩
        case measure => simp [intOf]; omega
      · obtain ⟨wz, hwz⟩ : ∃ wz, wz = wr := ⟨_, rfl⟩
        rw [← hwz] at Bt ⊢
        have zz5 := Z56.out
        have zz6 := Z67.out
        have zz7 := Z78.out
        have zz8 := S12.out
        have GP := hide (U16.out.now.2.2.away Bt.out (fun g x y e k => by have := (P12.out g x y e).1; have := k.2; omega))
        have GO := hide (U16.out.now.1.2.away Bt.out (fun g x y e k => by have := (OWN.out g x y e).1; have := k.2; omega))
        have GD := hide (U16.out.now.1.1.1.1.2.2.away Bt.out (fun g x y e k => by have := ODL.out g x y e; have := k.1; omega))
        have L12 : s12 < w16.heap.size := U16.out.now.2.1.lt (by rw [LP.out]; decide)
        have L6 : s6 < w16.heap.size := U16.out.now.1.1.1.1.2.1.lt (by rw [LY.out]; decide)
        have L2 : s2 < w16.heap.size := U16.out.now.1.1.1.1.1.1.lt (by rw [LX.out]; decide)
        have CP := hide (U16.out.now.2.1.but L12 Bt.out (fun e => by have := e.2; omega))
        have CY := hide (U16.out.now.1.1.1.1.2.1.but L6 Bt.out (fun e => by have := e.1; omega))
        have CX := hide (U16.out.now.1.1.1.1.1.1.but L2 Bt.out (fun e => by have := e.1; omega))
        have BZ := hide (B16.out.trans (Bt.out.below B16.out.size (fun g hg e => by have := e.1; have := B5z.out; omega)))
        have L12z : s12 < wz.heap.size := Nat.lt_of_lt_of_le L12 Bt.out.size
        have L6z : s6 < wz.heap.size := Nat.lt_of_lt_of_le L6 Bt.out.size
        have L2z : s2 < wz.heap.size := Nat.lt_of_lt_of_le L2 Bt.out.size
        have kz : ¬ (k : Int) < (xn : Int) := by omega
        have pz : (pn : Int) ≤ 4611686018427387904 := by
          have h1 := PL.out
          have h2 : M.d.length ≤ b.length := by
            rw [HM.out]
            unfold idM
            split
            · show (b.drop 8).length ≤ _; simp
            · simp [zMs]
          have := HBN.out
          omega
        clear GZ Bt hZ hlt hk hwz U16
        go_wp2
        go_loopw [22] (fun vi wq => ∃ (j : Nat) (T : List Int), vi = .int .i64 (j : Int) ∧ j ≤ pn ∧ Hid (T.length = pn) ∧ Hid (Gro w8.heap.size wq (.slice pa pn pc) T) ∧ Hid (But (fun g => w8.heap.size ≤ g ∧ g < s12) wz wq)) (fun vi _ => pn - (intOf vi).toNat)
        case atStart => exact ⟨0, M.d, rfl, Nat.zero_le _, PL.out.symm, GP.out, But.refl _ _⟩
        case round =>
          obtain ⟨j, T, rfl, hj, hT, GT, Bt⟩ := hrel
          have x5 : wr.cell? ⟨s12, 5, none⟩ = some (.slice pa pn pc) := by
            have h := CP.out.but L12z Bt.out (fun e => by have := e.2; omega)
            rw [HP.out] at h
            exact (imL_cells h).2.2.2.2.2
          by_cases hjl : j < pn
          · obtain ⟨qq, rfl, hq, hc, hf⟩ := GT.out.block (by rw [hT.out]; omega)
            have c9 := hc j (by rw [hT.out]; exact hjl)
            have f9 := hf j
            have HQQ := hide (P12.out qq _ _ rfl)
            have sqq : s12 ≠ qq := fun e => by have := HQQ.out.2; omega
            obtain ⟨z, ez⟩ : ∃ z, T[j]?.getD 0 = z := ⟨_, rfl⟩
            rw [ez] at c9
            have jz : (j : Int) < (pn : Int) := by omega
            clear ez hc hf hq hj
            go_upto_region 22 with fail
            go_region
            go_wp2
            go_roundw
            case rel => exact ⟨j + 1, T.set j ((z + 1) % 256), by go_num, by omega, by show _ = _; rw [List.length_set]; exact hT.out, (GT.out.store hT.out.symm j _).later ⟨rfl, rfl, rfl, Nat.le_refl _, fun _ _ => rfl⟩, (Bt.out.setCell (p := ⟨qq, j, none⟩) (.inr HQQ.out) _).drew⟩
            case measure => simp [intOf]; omega
          · have BE : Below w.heap.size w wr := BZ.out.trans (Bt.out.below BZ.out.size (fun g hg e => by have := e.1; have := B5z.out; omega))
            have xo : wr.cell? ⟨s6, 5, none⟩ = some (.slice a4 dn c4) := by
              have h := CY.out.but L6z Bt.out (fun e => by have := e.1; omega)
              have h5 := h 5 (.slice a4 dn c4) (by rw [YV.out]; rfl)
              exact h5
            have xs : wr.cell? ⟨s2, 5, none⟩ = some (.slice da dn dc) := by
              have h := CX.out.but L2z Bt.out (fun e => by have := e.1; omega)
              rw [HX.out] at h
              exact (imL_cells h).2.2.2.2.2
            have t1 := conv_str (GO.out.away Bt.out (fun g x y e k => by have := (OWN.out g x y e).2; have := k.1; omega)).isB
            have t2 := conv_str (HB0.out.later BE)
            have t3 := conv_str (GD.out.away Bt.out (fun g x y e k => by have := ODL.out g x y e; have := k.1; omega)).isB
            have t4 := conv_str (HD0.out.later BE)
            obtain ⟨S3, hS3⟩ : ∃ S3, S3 = strB b := ⟨_, rfl⟩
            obtain ⟨S4, hS4⟩ : ∃ S4, S4 = strB ds := ⟨_, rfl⟩
            rw [← hS3] at t1 t2
            rw [← hS4] at t3 t4
            have HF2 := hide BE
            have jz : ¬ (j : Int) < (pn : Int) := by omega
            clear BE hS3 hS4 GT Bt hj hjl hT
            go_wp2
            go_ret
            exact ⟨rfl, HF2.out⟩
end Go.Proofs.Ytlhkdjockodneaa
