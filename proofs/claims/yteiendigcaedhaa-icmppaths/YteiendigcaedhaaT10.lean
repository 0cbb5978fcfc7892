
/-
  The chapter's examples: awake.
-/
import Derived.Test.YteiendigcaedhaaT9
import Derived.Lib.SmallJoins
namespace Go.Proofs.Yteiendigcaedhaa
open Go.RowKit Go.Shelf

theorem conv_same (w : World) (C : Array Value) (n c : Nat) : (convert 22 22 (.slice (some ⟨w.heap.size, 0, none⟩) n c)).run Try.prog (w.alloc (.cells C 5)) = .ok (.slice (some ⟨w.heap.size, 0, none⟩) n c) (w.alloc (.cells C 5 (C.size, C.size + 1))) :=
  Lib.run_convert_bytes_const w _ _ C n c Try.underlying22 Try.underlying5
theorem lit_B (w : World) (bs : List Int) (fz : Nat × Nat) : IsB (w.heap.size + 1) (w.alloc (.cells (bs.map (Value.int .u8)).toArray 5 fz)) (.slice (some ⟨w.heap.size, 0, none⟩) bs.length bs.length) bs :=
  ⟨_, _, rfl, Nat.le_refl _, (fun h => by cases h), fun _ => ⟨w.heap.size, 0, rfl, by omega, fun j hj => by
    rw [Nat.zero_add, cell_of_row _ w.heap.size j (bs.map (Value.int .u8)).toArray 5 fz (heap_alloc_new w _)]
    simp [hj]⟩⟩
/-- a new variable, a message in it -/
theorem newC (w : World) (X : List Value) (hX : X.length = 6) : ∃ w0 w1, w0 = w.alloc (.cells zIm.toArray 24) ∧ w1 = w0.setCells w.heap.size 0 X ∧ CellsAt w0 w.heap.size 0 zIm ∧ (∀ y, w0.frozen? ⟨w.heap.size, y, none⟩ = false) ∧ CellsAt w1 w.heap.size 0 X ∧ Below w.heap.size w w1 ∧ w.heap.size < w1.heap.size := by
  refine ⟨_, _, rfl, rfl, CellsAt.new w _ _, fun y => frozen_new w _ _ _, (CellsAt.new w _ _).stored hX, (later_alloc w _).trans ((But.cells w.heap.size X 0 _).below (by simp) (fun g hg e => by have e : g = w.heap.size := e; omega)), ?_⟩
  rw [size_setCells, World.size_alloc]
  omega
def xA : List Int := [8, 0, 150, 252, 0, 1, 0, 2, 97]
def xB : List Int := [8, 0, 150, 252, 0, 1, 0, 2, 98]
theorem xA_eq : ieB 8 0 1 2 0 [97] = xA := by decide +kernel
theorem xA_e : ieE 8 0 1 2 0 1 = 0 := by decide +kernel
theorem xA_by : Bytes xA := by intro x hx; simp [xA] at hx; omega
theorem xB_by : Bytes xB := by intro x hx; simp [xB] at hx; omega
theorem xA_d : idE xA = 0 := by decide +kernel
theorem xB_d : idE xB = 5 := by decide +kernel
theorem xA_m : idM xA = ⟨8, 0, 1, 2, 0, [97]⟩ := by
  unfold idM
  rw [if_pos xA_d]
  rfl
theorem xB_m : idM xB = zMs := by
  unfold idM
  rw [if_neg (by rw [xB_d]; decide)]
def bA : Bk := ⟨4, 0, 0⟩
theorem bA_ok : bA.Ok := ⟨by decide, by decide, by decide, by decide, by decide⟩
theorem bA_tk : bA.tkE 0 = 0 ∧ bA.tk 0 = ⟨3, 0, 0⟩ ∧ (Bk.lf ⟨3, 0, 0⟩ 0).left = 3 := by decide +kernel
theorem bB_ok : Bk.Ok ⟨3, 0, 0⟩ := ⟨by decide, by decide, by decide, by decide, by decide⟩
def ipA1 : I4 := ⟨10, 0, 0, 0⟩
def ipB1 : I4 := ⟨11, 0, 0, 0⟩
theorem pA_l : plB ipA1 100 [] = true ∧ ∀ ck, plL ipA1 100 [] ck = [⟨ipA1, 100, ck⟩] := ⟨by decide +kernel, fun ck => rfl⟩
theorem pA_f (ck : Nat) : pfE ipA1 [⟨ipA1, 100, ck⟩] = 100 ∧ pfE ipB1 [⟨ipA1, 100, ck⟩] = 256 := ⟨rfl, rfl⟩
set_option maxRecDepth 100000 in
set_option maxHeartbeats 8000000 in
theorem icAwake_any (w : World) : Calls Try.prog 9 #[] w fun e w' => e = .returned (.bool true) ∧ Below w.heap.size w w' := by
  obtain ⟨w2, hw2⟩ : ∃ w2, w2 = w.alloc (.cells #[.int .u8 97] 5 (1, 2)) := ⟨_, rfl⟩
  have b2 : Below w.heap.size w w2 := by rw [hw2]; exact later_alloc _ _
  have i2 : IsB w2.heap.size w2 (.slice (some ⟨w.heap.size, 0, none⟩) 1 1) [97] := by
    rw [hw2, World.size_alloc]; exact lit_B w [97] (1, 2)
  obtain ⟨s1, hs1⟩ : ∃ s1, s1 = w.heap.size := ⟨_, rfl⟩
  rw [← hs1] at i2
  have EN := icEnc_any 8 0 1 2 0 (some ⟨s1, 0, none⟩) 1 [97] w2 i2 (by intro x hx; simp at hx; omega)
  rw [show ([97] : List Int).length = 1 from rfl, xA_e, xA_eq] at EN
  have HEN := hide EN
  have HB2 := hide b2
  have HS1 := hide hs1
  have cv : (convert 22 22 (.slice (some ⟨s1, 0, none⟩) 1 1)).run Try.prog (w.alloc (.cells #[.int .u8 97] 5)) = .ok (.slice (some ⟨s1, 0, none⟩) 1 1) w2 := by rw [hs1, hw2]; exact conv_same w #[.int .u8 97] 1 1
  have hw2' := hw2.symm
  have hs1' := hs1.symm
  clear EN b2 i2 hw2 hs1
  go_enter Try.func9, Try.ntmps9
  go_wp2_with fail
  clear hw2' cv hs1'
  refine HEN.out.mono ?_
  rintro _ w3 ⟨v3, rfl, g3, b3⟩
  obtain ⟨a3, c3, rfl, _⟩ := g3.isB.shape
  obtain ⟨gx, rfl, hgx, cells3, fz3⟩ := g3.block (by decide)
  have lgx : gx < w3.heap.size := World.block_lt_of_cell? w3 _ (cells3 0 (by decide))
  have x10 : w3.cell? ⟨gx, 2, none⟩ = some (.int .u8 150) := cells3 2 (by decide)
  have x11 : w3.cell? ⟨gx, 3, none⟩ = some (.int .u8 252) := cells3 3 (by decide)
  have HB3 : Hid (Below w.heap.size w w3) := HB2.out.trans (b3.mono HB2.out.size)
  have G3 := hide g3
  have SGX : Hid (w.heap.size ≤ gx) := by have := HB2.out.size; unfold Hid; omega
  have DE := icDec_any _ xA w3 g3.isB xA_by (by decide)
  rw [xA_d, xA_m] at DE
  have HDE := hide DE
  rw [show xA.length = 9 from rfl] at G3 HDE ⊢
  clear b3 g3 cells3 fz3 HEN HB2 hgx DE
  go_wp2_with fail
  clear x10 x11
  refine HDE.out.mono ?_
  rintro _ w4 ⟨da, dn, dc, rfl, g4, b4⟩
  obtain ⟨Y, hY⟩ : ∃ Y, Y = Ms.cells ⟨8, 0, 1, 2, 0, [97]⟩ (.slice da dn dc) := ⟨_, rfl⟩
  rw [← hY]
  have lY : Hid (Y.length = 6) := by rw [hY]; exact rfl
  have oY : Hid (∀ u ∈ Y, u.oneCell' = true) := by rw [hY]; exact im_one _ _ _ _ _ _ _ _
  obtain ⟨u0, w5, hu0, hw5, cu0, fu0, c5, b5, l5⟩ := newC w4 Y lY.out
  obtain ⟨s4, hs4⟩ : ∃ s4, s4 = w4.heap.size := ⟨_, rfl⟩
  rw [← hs4] at hw5 cu0 fu0 c5 l5
  have CU := hide cu0
  have FU := hide fu0
  have b45 := b4.trans (b5.mono b4.size)
  have HB5 : Hid (Below w.heap.size w w5) := HB3.out.trans (b45.mono HB3.out.size)
  have C5 := hide c5
  have G5 := G3.out.later b45
  have D5 := g4.later b5
  have N1 : Hid (gx < w3.heap.size ∧ gx < s4) := by have := b4.size; exact ⟨lgx, by omega⟩
  obtain ⟨x8, f8⟩ := own_cell G5 8 (by decide)
  obtain ⟨w7, hw7⟩ : ∃ w7, w7 = w5.setCell ⟨gx, 8, none⟩ (.int .u8 98) := ⟨_, rfl⟩
  have bo7 : But (Only gx) w5 w7 := by rw [hw7]; exact (But.refl (Only gx) w5).cellb (b := gx) rfl 8 _
  have G7 : Gro w2.heap.size w7 (.slice (some ⟨gx, 0, none⟩) 9 c3) xB := by rw [hw7]; exact G5.store rfl 8 98
  have D7 : Hid (Gro w3.heap.size w7 (.slice da dn dc) [97]) := D5.off bo7 (fun g x y e e2 => by
    obtain ⟨_, ⟨h2, _⟩ | ⟨g', cap', cur, e', hge, hh, _⟩⟩ := D5
    · rw [e] at h2; cases h2
    · rw [e] at e'
      cases e'
      have := N1.out
      omega)
  have HB7 : Hid (Below w.heap.size w w7) := HB5.out.trans (bo7.below HB5.out.size (fun g hg e => by have e : g = gx := e; have := SGX.out; omega))
  have C7 : Hid (CellsAt w7 s4 0 Y) := c5.but l5 bo7 (fun e => by have e : s4 = gx := e; have := N1.out.2; omega)
  have l7 : s4 < w7.heap.size := Nat.lt_of_lt_of_le l5 bo7.size
  have DE2 := icDec_any (.slice (some ⟨gx, 0, none⟩) 9 c3) xB w7 G7.isB xB_by (by decide)
  rw [xB_d, xB_m] at DE2
  have HDE2 := hide DE2
  have HY := hide hY
  have hu0' := hu0.symm
  simp only [zIm, imL] at hu0'
  have hs4' := hs4.symm
  have hw5' := hw5.symm
  have hw7' := hw7.symm
  have z9 : (8 : Int) < (9 : Int) := by decide
  clear b4 g4 b45 b5 c5 cu0 fu0 hu0 hs4 hw5 hY HDE G3 HB3 l5 G5 D5 bo7 G7 DE2 hw7 HB5 C5
  go_upto_region 5 with (refine wpList_storeA rfl 24 6 sizC _ _ rfl s4 0 rfl Y zIm rfl lY.out rfl CU.out FU.out oY.out ?_; intro _; rw [hw5'])
  clear hu0' hw5' hs4' CU FU
  go_wp2_with fail
  clear x8 f8 hw7'
  refine HDE2.out.mono ?_
  rintro _ w8 ⟨ea, en, ec, rfl, g8, b8⟩
  obtain ⟨Z, hZ⟩ : ∃ Z, Z = zMs.cells (.slice ea en ec) := ⟨_, rfl⟩
  rw [← hZ]
  have lZ : Hid (Z.length = 6) := by rw [hZ]; exact rfl
  have oZ : Hid (∀ u ∈ Z, u.oneCell' = true) := by rw [hZ]; exact im_one _ _ _ _ _ _ _ _
  obtain ⟨u0, w9, hu0, hw9, cu0, fu0, c9, b9, l9⟩ := newC w8 Z lZ.out
  obtain ⟨s8, hs8⟩ : ∃ s8, s8 = w8.heap.size := ⟨_, rfl⟩
  rw [← hs8] at hw9 cu0 fu0 c9 l9
  have CU := hide cu0
  have FU := hide fu0
  have b89 := b8.trans (b9.mono b8.size)
  have HB9 : Hid (Below w.heap.size w w9) := HB7.out.trans (b89.mono HB7.out.size)
  have C9 := hide (C7.out.later l7 b89)
  have l9s : s4 < w9.heap.size := Nat.lt_of_lt_of_le l7 b89.size
  have D9 := hide (D7.out.later b89)
  have NB := hide (icNewB_any 0 w9)
  have hu0' := hu0.symm
  simp only [zIm, imL] at hu0'
  have hs8' := hs8.symm
  have hw9' := hw9.symm
  clear b8 hw9 hs8 hu0 cu0 fu0 c9 b9 l9 b89 HDE2 HB7 C7 l7 hZ D7 g8
  go_upto_region 7 with (refine wpList_storeA rfl 24 6 sizC _ _ rfl s8 0 rfl Z zIm rfl lZ.out rfl CU.out FU.out oZ.out ?_; intro _; rw [hw9'])
  clear hu0' hw9' hs8' CU FU
  obtain ⟨kb, hkb⟩ : ∃ kb, kb = w9.heap.size := ⟨_, rfl⟩
  rw [← hkb] at NB
  have s4k : s4 < kb := by omega
  have HKB := hide hkb
  clear hkb
  go_wp2_with fail
  refine NB.out.mono ?_
  rintro _ w10 ⟨rfl, K10, b10'⟩
  have b10 : Below w9.heap.size w9 w10 := by rw [← HKB.out]; exact b10'
  have NP := hide (icNewP_any w10)
  obtain ⟨pb, hpb⟩ : ∃ pb, pb = w10.heap.size := ⟨_, rfl⟩
  rw [← hpb] at NP
  have HPB := hide hpb
  have kp : kb < pb := by rw [hpb]; exact K10.lt
  have K10 := hide K10
  have B10 := hide b10
  clear b10 b10' NB hpb
  go_wp2_with fail
  refine NP.out.mono ?_
  rintro _ w11 ⟨rfl, P11, b11'⟩
  have b11 : Below w10.heap.size w10 w11 := by rw [← HPB.out]; exact b11'
  have K11 : BkAt w11 kb bA := K10.out.later b11
  have TK := icTake_any K11 bA_ok 0 (by decide) (by decide)
  rw [bA_tk.1, bA_tk.2.1] at TK
  have HTK := hide TK
  have P11 := hide P11
  have B11 := hide (later B10.out b11)
  clear TK K11 b11 b11' NP K10 B10
  go_wp2_with fail
  refine HTK.out.mono ?_
  rintro _ w12 ⟨rfl, K12, bo12⟩
  have P12 : PsAt w12 pb (fun _ => False) [] 0 := P11.out.but bo12 (fun g hg e => by
    have e : g = kb := e
    rcases hg with h | h | h
    · omega
    · omega
    · exact h)
  have B12 : Below w9.heap.size w9 w12 := B11.out.trans (bo12.below B11.out.size (fun g hg e => by have e : g = kb := e; have := HKB.out; omega))
  have LE := icLearn_any P12 (fun _ h => h.elim) (by decide) ipA1 100
  rw [pA_l.1, pA_l.2] at LE
  have HLE : Hid (Calls Try.prog 26 #[.pointer (some ⟨pb + 1, 0, none⟩), .agg #[.int .u8 10, .int .u8 0, .int .u8 0, .int .u8 0], .int .i64 100] w12 fun e w' => e = .returned (.bool true) ∧ (∃ ck', PsAt w' pb (fun g => False ∨ (w12.heap.size ≤ g ∧ g < w'.heap.size)) (if true = true then [⟨ipA1, 100, 0⟩] else []) ck') ∧ But (PsK pb (fun _ => False)) w12 w') := LE
  have KW12 : Hid (kb < w12.heap.size) := K12.lt
  have K12 := hide K12
  have B12 := hide B12
  clear LE P12 bo12 P11 B11 HTK
  go_wp2_with fail
  refine HLE.out.mono ?_
  rintro _ w13 ⟨rfl, ⟨ck, P13⟩, bo13⟩
  rw [if_pos trivial] at P13
  have K13 : BkAt w13 kb ⟨3, 0, 0⟩ := K12.out.but bo13 (fun e => by
    rcases e with e | e | e
    · omega
    · omega
    · exact e)
  have B13 : Below w9.heap.size w9 w13 := B12.out.trans (bo13.below B12.out.size (fun g hg e => by
    have := HKB.out
    rcases e with e | e | e
    · omega
    · omega
    · exact e))
  have c13 := C9.out.later l9s B13
  rw [HY.out] at c13
  obtain ⟨m0, m1, m2, m3, m4, m5⟩ := imL_cells c13
  have sc := conv_str ((D9.out.later B13).isB)
  rw [show strB [97] = { data := #[97] } from by decide] at sc
  have LF := icLeft_any K13 bB_ok 0 (by decide) (by decide)
  rw [bA_tk.2.2] at LF
  have HLF := hide LF
  have P13 := hide P13
  have HB13 := hide (later HB9.out B13)
  have K13 := hide K13
  clear B13 c13 LF HLE K12 B12 C9 D9 bo13
  go_wp2_with fail
  clear m0 m1 m2 m3 m4 m5 sc
  refine HLF.out.mono ?_
  rintro _ w14 ⟨rfl, K14, bo14⟩
  have P14 := P13.out.but bo14 (fun g hg e => by
    have e : g = kb := e
    have := K13.out.lt
    rcases hg with h | h | h
    · omega
    · omega
    · rcases h with h | h
      · exact h
      · have := KW12.out; omega)
  have HB14 : Hid (Below w.heap.size w w14) := HB13.out.trans (bo14.below HB13.out.size (fun g hg e => by have e : g = kb := e; have := HKB.out; have := HB9.out.size; omega))
  have F1 : Hid (Calls Try.prog 25 #[.pointer (some ⟨pb + 1, 0, none⟩), .agg #[.int .u8 10, .int .u8 0, .int .u8 0, .int .u8 0]] w14 fun e w' => e = .returned (.int .i64 100) ∧ Below w14.heap.size w14 w') := by
    have h := icFindP_any P14 ipA1
    rw [(pA_f 0).1] at h
    exact h
  have P14 := hide P14
  clear bo14 K14 HLF P13 HB13
  go_wp2_with fail
  refine F1.out.mono ?_
  rintro _ w15 ⟨rfl, b15⟩
  have F2 : Hid (Calls Try.prog 25 #[.pointer (some ⟨pb + 1, 0, none⟩), .agg #[.int .u8 11, .int .u8 0, .int .u8 0, .int .u8 0]] w15 fun e w' => e = .returned (.int .i64 256) ∧ Below w15.heap.size w15 w') := by
    have h := icFindP_any (P14.out.later b15) ipB1
    rw [(pA_f 0).2] at h
    exact h
  have HB15 := hide (later HB14.out b15)
  clear b15 F1
  go_wp2_with fail
  refine F2.out.mono ?_
  rintro _ w16 ⟨rfl, b16⟩
  have HB16 := hide (later HB15.out b16)
  clear b16 F2
  go_wp2
  go_ret
  exact ⟨rfl, HB16.out⟩
end Go.Proofs.Yteiendigcaedhaa
