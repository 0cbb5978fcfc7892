
/-
  Package tcp: the chapter's examples.
-/
import Derived.Test.YtggadchhkenipaaD16
namespace Go.Proofs.Ytggadchhkenipaa
open Go.RowKit Go.Shelf

def zSC : List Value := zSg.cells (.slice none 0 0) (.slice none 0 0)
theorem newS (w : World) (X : List Value) (hX : X.length = 10) : ∃ w0 w1, w0 = w.alloc (.cells zSC.toArray 26) ∧ w1 = w0.setCells w.heap.size 0 X ∧ CellsAt w0 w.heap.size 0 zSC ∧ (∀ y, w0.frozen? ⟨w.heap.size, y, none⟩ = false) ∧ CellsAt w1 w.heap.size 0 X ∧ Below w.heap.size w w1 ∧ w.heap.size < w1.heap.size ∧ ∀ y, w1.frozen? ⟨w.heap.size, y, none⟩ = false := by
  refine ⟨_, _, rfl, rfl, CellsAt.new w _ _, fun y => frozen_new w _ _ _, (CellsAt.new w _ _).stored (by rw [hX]; rfl), (Below.refl _ w).alloc (Nat.le_refl _) _ |>.trans ((But.cells w.heap.size X 0 _).below (by simp) (fun g hg e => by have e : g = w.heap.size := e; omega)), ?_, fun y => by rw [World.frozen?_setCells]; exact frozen_new w _ _ _⟩
  have h := (But.cells w.heap.size X 0 (w.alloc (.cells zSC.toArray 26))).size
  rw [World.size_alloc] at h
  omega
def exS : Sg := ⟨5, 7, 1, 0, 2, 8, 216, false, [], []⟩
def exX : List Int := [0, 5, 0, 7, 0, 0, 0, 1, 0, 0, 0, 0, 96, 2, 0, 8, 107, 0, 0, 0, 2, 4, 0, 216]
theorem exS_ok : exS.Ok := ⟨by unfold i64In; decide, by unfold i64In; decide, by decide, by decide, by unfold i64In; decide, by unfold i64In; decide, by unfold i64In; decide, by intro x hx; simp [exS] at hx, by intro x hx; simp [exS] at hx⟩
theorem ex_e : teE exS = 0 := by decide +kernel
theorem ex_sum : (teB ipU1 ipU2 exS).length = 24 ∧ nb (teB ipU1 ipU2 exS) 12 = 96 ∧ nb (teB ipU1 ipU2 exS) 13 = 2 ∧ nb (teB ipU1 ipU2 exS) 23 = 216 := by decide +kernel
theorem ex_told : toldS exS = exS := by decide +kernel
theorem ex_rs : rsS exS = ⟨7, 5, 0, 2, 20, 0, 0, false, [], []⟩ := by decide +kernel
theorem ex_rb : rsB exS = true := by decide +kernel
theorem ex_by : Bytes (teB ipU1 ipU2 exS) := by
  unfold teB
  rw [if_pos ex_e]
  exact tsB_bytes exS_ok (by decide)
theorem ex_back : tdE ipU1 ipU2 (teB ipU1 ipU2 exS) = 0 ∧ tdS ipU1 ipU2 (teB ipU1 ipU2 exS) = exS := by
  have h := t_back ipU1_ok ipU2_ok exS_ok ex_e
  unfold teB
  rw [if_pos ex_e]
  rw [ex_told] at h
  exact h
set_option maxRecDepth 100000 in
set_option maxHeartbeats 8000000 in
theorem tAwake_any (w : World) : Calls Try.prog 9 #[] w fun e w' => e = .returned (.bool true) ∧ Below w.heap.size w w' := by
  obtain ⟨A, hA⟩ : ∃ A, A = ipU1.vals := ⟨_, rfl⟩
  obtain ⟨B, hB⟩ : ∃ B, B = ipU2.vals := ⟨_, rfl⟩
  obtain ⟨C, hC⟩ : ∃ C, C = exS.cells (.slice none 0 0) (.slice none 0 0) := ⟨_, rfl⟩
  have LA : Hid (A.length = 4) := by rw [hA]; exact rfl
  have LB : Hid (B.length = 4) := by rw [hB]; exact rfl
  have LC : Hid (C.length = 10) := by rw [hC]; exact rfl
  have OA : Hid (∀ u ∈ A, u.oneCell' = true) := by rw [hA]; exact ip_oneC _
  have OB : Hid (∀ u ∈ B, u.oneCell' = true) := by rw [hB]; exact ip_oneC _
  have OC : Hid (∀ u ∈ C, u.oneCell' = true) := by rw [hC]; exact sg_one _ _ _ rfl rfl
  have EA : Hid (Value.agg #[.int .u8 10, .int .u8 0, .int .u8 0, .int .u8 1] = .agg A.toArray) := by rw [hA]; exact rfl
  have EB : Hid (Value.agg #[.int .u8 10, .int .u8 0, .int .u8 0, .int .u8 2] = .agg B.toArray) := by rw [hB]; exact rfl
  have EC : Hid (Value.agg #[.int .i64 5, .int .i64 7, .int .u32 1, .int .u32 0, .int .i64 2, .int .i64 8, .int .i64 216, .bool false, .slice none 0 0, .slice none 0 0] = .agg C.toArray) := by rw [hC]; exact rfl
  obtain ⟨u1, w1, hu1, hw1, cu1, fu1, c1, b1, l1⟩ := newI w A LA.out
  obtain ⟨s1, hs1⟩ : ∃ s1, s1 = w.heap.size := ⟨_, rfl⟩
  rw [← hs1] at hw1 cu1 fu1 c1 l1
  obtain ⟨u2, w2, hu2, hw2, cu2, fu2, c2, b2, l2⟩ := newI w1 B LB.out
  obtain ⟨s2, hs2⟩ : ∃ s2, s2 = w1.heap.size := ⟨_, rfl⟩
  rw [← hs2] at hw2 cu2 fu2 c2 l2
  obtain ⟨u3, w3, hu3, hw3, cu3, fu3, c3, b3, l3, _⟩ := newS w2 C LC.out
  obtain ⟨s3, hs3⟩ : ∃ s3, s3 = w2.heap.size := ⟨_, rfl⟩
  rw [← hs3] at hw3 cu3 fu3 c3 l3
  have CU1 := hide cu1
  have FU1 := hide fu1
  have CU2 := hide cu2
  have FU2 := hide fu2
  have CU3 := hide cu3
  have FU3 := hide fu3
  have B3 := hide (later (later b1 b2) b3)
  have U3 : Hid (Up w3 (fun W => (CellsAt W s1 0 A ∧ CellsAt W s2 0 B) ∧ CellsAt W s3 0 C)) := ((((c1.later l1 b2).up (Nat.lt_of_lt_of_le l1 b2.size)).and (c2.up l2)).next b3).and (c3.up l3)
  have hu1' := hu1.symm
  have hu2' := hu2.symm
  have hu3' := hu3.symm
  simp only [zI, I4.vals] at hu1' hu2'
  simp only [zSC, zSg, Sg.cells] at hu3'
  have hw1' := hw1.symm
  have hw2' := hw2.symm
  have hw3' := hw3.symm
  have hs1' := hs1.symm
  have hs2' := hs2.symm
  have hs3' := hs3.symm
  have XV : Hid (ipU1.val = .agg A.toArray ∧ ipU2.val = .agg B.toArray ∧ Value.agg (exS.cells (.slice none 0 0) (.slice none 0 0)).toArray = .agg C.toArray) := by rw [hA, hB, hC]; exact ⟨rfl, rfl, rfl⟩
  have HC := hide hC
  clear hu1 hu2 hu3 hw1 hw2 hw3 hs1 hs2 hs3 cu1 cu2 cu3 fu1 fu2 fu3 c1 c2 c3 b1 b2 b3 hA hB hC
  go_enter Try.func9, Try.ntmps9
  go_upto_region 2 with (refine wpList_storeA rfl 35 4 sizI _ _ rfl s1 0 rfl A zI.vals EA.out LA.out rfl CU1.out FU1.out OA.out ?_; intro _; rw [hw1'])
  go_upto_region 3 with (refine wpList_storeA rfl 35 4 sizI _ _ rfl s2 0 rfl B zI.vals EB.out LB.out rfl CU2.out FU2.out OB.out ?_; intro _; rw [hw2'])
  go_upto_region 4 with (refine wpList_storeA rfl 26 10 sizSg _ _ rfl s3 0 rfl C zSC EC.out LC.out rfl CU3.out FU3.out OC.out ?_; intro _; rw [hw3'])
  clear hu1' hu2' hu3' hw1' hw2' hw3' hs1' hs2' hs3' CU1 FU1 CU2 FU2 CU3 FU3
  have EN := tEnc_any (P := fun _ => True) ipU1 ipU2 ipU1_ok ipU2_ok exS exS_ok (.slice none 0 0) (.slice none 0 0) w3 (CG.nil _ _) (IsB.nil _ _)
  rw [ex_e, XV.out.1, XV.out.2.1, XV.out.2.2] at EN
  have HEN := hide EN
  have C1 := hide U3.out.now.1.1
  have C2 := hide U3.out.now.1.2
  have C3 := hide U3.out.now.2
  obtain ⟨X, hX⟩ : ∃ X, X = teB ipU1 ipU2 exS := ⟨_, rfl⟩
  have XF := ex_sum
  have XB := ex_by
  have XK := ex_back
  rw [← hX] at HEN XF XB XK
  have HXF := hide XF
  have HXB := hide XB
  have HXK := hide XK
  clear EN hX XF XB XK
  go_wp2_with (first | refine wpList_loadA rfl 35 4 aggI sizI _ rfl s1 0 rfl A LA.out C1.out ?_ | refine wpList_loadA rfl 35 4 aggI sizI _ rfl s2 0 rfl B LB.out C2.out ?_ | refine wpList_loadA rfl 26 10 aggSg sizSg _ rfl s3 0 rfl C LC.out C3.out ?_)
  refine HEN.out.mono ?_
  rintro _ w4 ⟨v4, rfl, g4, b4⟩
  obtain ⟨a4, c4, e4, _⟩ := g4.isB.shape
  rw [HXF.out.1] at e4
  subst e4
  obtain ⟨gx, e4, hgx, cells4, fz4⟩ := g4.block (by rw [HXF.out.1]; decide)
  subst e4
  have x12 : w4.cell? ⟨gx, 12, none⟩ = some (.int .u8 96) := by rw [cells4 12 (by rw [HXF.out.1]; decide)]; exact congrArg (fun z => some (Value.int .u8 z)) HXF.out.2.1
  have x13 : w4.cell? ⟨gx, 13, none⟩ = some (.int .u8 2) := by rw [cells4 13 (by rw [HXF.out.1]; decide)]; exact congrArg (fun z => some (Value.int .u8 z)) HXF.out.2.2.1
  have x23 : w4.cell? ⟨gx, 23, none⟩ = some (.int .u8 216) := by rw [cells4 23 (by rw [HXF.out.1]; decide)]; exact congrArg (fun z => some (Value.int .u8 z)) HXF.out.2.2.2
  have B4 := hide (later B3.out b4)
  have U4 := hide ((U3.out.next b4).and g4.isB.up)
  have D1 := tDec_any ipU1 ipU2 ipU1_ok ipU2_ok _ X w4 g4.isB HXB.out (by rw [HXF.out.1]; decide)
  rw [HXK.out.1, HXK.out.2, XV.out.1, XV.out.2.1] at D1
  have HD1 := hide D1
  have C1 := hide U4.out.now.1.1.1
  have C2 := hide U4.out.now.1.1.2
  have C3 := hide U4.out.now.1.2
  clear b4 g4 cells4 fz4 HEN hgx D1 U3
  go_upto_region 7 with fail
  clear x12 x13 x23
  go_wp2_with (first | refine wpList_loadA rfl 35 4 aggI sizI _ rfl s1 0 rfl A LA.out C1.out ?_ | refine wpList_loadA rfl 35 4 aggI sizI _ rfl s2 0 rfl B LB.out C2.out ?_)
  refine HD1.out.mono ?_
  rintro _ w5 ⟨gv, dv, rfl, g5, d5, b5⟩
  obtain ⟨ga, gc, rfl⟩ := g5.shape
  obtain ⟨da, dc, rfl, _⟩ := d5.isB.shape
  rw [show exS.got.length = 0 from rfl] at g5 ⊢
  rw [show exS.dat.length = 0 from rfl] at d5 ⊢
  obtain ⟨D, hD⟩ : ∃ D, D = exS.cells (.slice ga 0 gc) (.slice da 0 dc) := ⟨_, rfl⟩
  have LD : Hid (D.length = 10) := by rw [hD]; exact rfl
  have OD : Hid (∀ u ∈ D, u.oneCell' = true) := by rw [hD]; exact sg_one _ _ _ rfl rfl
  rw [← hD]
  have HDD := hide hD
  obtain ⟨u6, w6, hu6, hw6, cu6, fu6, c6, b6, l6, _⟩ := newS w5 D LD.out
  obtain ⟨s6, hs6⟩ : ∃ s6, s6 = w5.heap.size := ⟨_, rfl⟩
  rw [← hs6] at hw6 cu6 fu6 c6 l6
  have B6 := hide (later (later B4.out b5) b6)
  have U6 := hide (((U4.out.next b5).next b6).and (c6.up l6))
  have G6 := hide (g5.later b6)
  have D6 := hide (d5.isB.later b6)
  have SM := SameT_true (P := fun _ => True) exS (.slice none 0 0) (.slice none 0 0) (.slice ga 0 gc) (.slice da 0 dc) w6 (CG.nil _ _) G6.out (IsB.nil _ _) D6.out (by decide)
  rw [XV.out.2.2, ← HDD.out] at SM
  have HSM := hide SM
  have CU6 := hide cu6
  have FU6 := hide fu6
  have C3 := hide U6.out.now.1.1.2
  have C6 := hide U6.out.now.2
  have hu6' := hu6.symm
  simp only [zSC, zSg, Sg.cells] at hu6'
  have hw6' := hw6.symm
  have hs6' := hs6.symm
  clear hD hu6 hw6 hs6 cu6 fu6 c6 b5 b6 g5 d5 HD1 SM U4 C1 C2 G6 D6
  go_upto_region 8 with (refine wpList_storeA rfl 26 10 sizSg _ _ rfl s6 0 rfl D zSC rfl LD.out rfl CU6.out FU6.out OD.out ?_; intro _; rw [hw6'])
  clear hu6' hw6' hs6' CU6 FU6
  go_wp2_with (first | refine wpList_loadA rfl 26 10 aggSg sizSg _ rfl s3 0 rfl C LC.out C3.out ?_ | refine wpList_loadA rfl 26 10 aggSg sizSg _ rfl s6 0 rfl D LD.out C6.out ?_)
  refine HSM.out.mono ?_
  rintro _ w7 ⟨rfl, b7⟩
  have B7 := hide (later B6.out b7)
  have U7 := hide (U6.out.next b7)
  have C3 := hide U7.out.now.1.1.2
  have RS := Reset_any exS exS_ok (.slice none 0 0) none 0 w7 (by decide)
  rw [show exS.dat.length = 0 from rfl, XV.out.2.2, ex_rs, ex_rb] at RS
  have HRS := hide RS
  clear b7 HSM C6 U6 RS
  go_wp2_with (refine wpList_loadA rfl 26 10 aggSg sizSg _ rfl s3 0 rfl C LC.out C3.out ?_)
  refine HRS.out.mono ?_
  rintro _ w8 ⟨rfl, b8⟩
  obtain ⟨E, hE⟩ : ∃ E, E = Sg.cells ⟨7, 5, 0, 2, 20, 0, 0, false, [], []⟩ (.slice none 0 0) (.slice none 0 0) := ⟨_, rfl⟩
  have LE : Hid (E.length = 10) := by rw [hE]; exact rfl
  have OE : Hid (∀ u ∈ E, u.oneCell' = true) := by rw [hE]; exact sg_one _ _ _ rfl rfl
  rw [← hE]
  obtain ⟨u9, w9, hu9, hw9, cu9, fu9, c9, b9, l9, _⟩ := newS w8 E LE.out
  obtain ⟨s9, hs9⟩ : ∃ s9, s9 = w8.heap.size := ⟨_, rfl⟩
  rw [← hs9] at hw9 cu9 fu9 c9 l9
  have B9 := hide (later (later B7.out b8) b9)
  have CU9 := hide cu9
  have FU9 := hide fu9
  have c9' : CellsAt w9 s9 0 (Sg.cells ⟨7, 5, 0, 2, 20, 0, 0, false, [], []⟩ (.slice none 0 0) (.slice none 0 0)) := by rw [← hE]; exact c9
  have k3 : w9.cell? ⟨s9, 3, none⟩ = some (.int .u32 2) := c9' 3 _ rfl
  have k4 : w9.cell? ⟨s9, 4, none⟩ = some (.int .i64 20) := c9' 4 _ rfl
  have hu9' := hu9.symm
  simp only [zSC, zSg, Sg.cells] at hu9'
  have hw9' := hw9.symm
  have hs9' := hs9.symm
  have DF := Diff_any 1 4294967295 w9
  rw [show dif 1 4294967295 = 2 by decide] at DF
  have HDF := hide DF
  have W4 := Within_any 2 4294967295 4 (by unfold i64In; decide) w9
  rw [show wit 2 4294967295 4 = true by decide] at W4
  have HW4 := hide W4
  have W3 := Within_any 2 4294967295 3 (by unfold i64In; decide) w9
  rw [show wit 2 4294967295 3 = false by decide] at W3
  have HW3 := hide W3
  have FS := First_any 3 w9
  rw [show fst32 3 = 12288 by decide] at FS
  have HFS := hide FS
  clear hE hu9 hw9 hs9 cu9 fu9 c9 c9' b8 b9 HRS C3 U7 DF W4 W3 FS
  go_upto_region 10 with (refine wpList_storeA rfl 26 10 sizSg _ _ rfl s9 0 rfl E zSC rfl LE.out rfl CU9.out FU9.out OE.out ?_; intro _; rw [hw9'])
  clear hu9' hw9' hs9' CU9 FU9
  go_wp2_with fail
  refine HDF.out.mono ?_
  rintro _ wx ⟨rfl, hw⟩
  rw [hw]
  clear hw wx HDF
  go_wp2_with fail
  refine HW4.out.mono ?_
  rintro _ wx ⟨rfl, hw⟩
  rw [hw]
  clear hw wx HW4
  go_wp2_with fail
  refine HW3.out.mono ?_
  rintro _ wx ⟨rfl, hw⟩
  rw [hw]
  clear hw wx HW3
  go_wp2_with fail
  refine HFS.out.mono ?_
  rintro _ wx ⟨rfl, hw⟩
  rw [hw]
  clear hw wx HFS
  go_wp2
  go_ret
  exact ⟨rfl, B9.out⟩
end Go.Proofs.Ytggadchhkenipaa
