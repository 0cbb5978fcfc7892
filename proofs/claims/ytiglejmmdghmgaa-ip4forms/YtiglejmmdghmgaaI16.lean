
/-
  awake: the chapter's example.
-/
import Derived.Test.YtiglejmmdghmgaaI10
import Derived.Test.YtiglejmmdghmgaaI15
import Derived.Lib.SmallJoins
namespace Go.Proofs.Ytiglejmmdghmgaa
open Go.RowKit Go.Shelf

theorem conv_same (w : World) (C : Array Value) (n c : Nat) : (convert 24 24 (.slice (some ⟨w.heap.size, 0, none⟩) n c)).run Try.prog (w.alloc (.cells C 5)) = .ok (.slice (some ⟨w.heap.size, 0, none⟩) n c) (w.alloc (.cells C 5 (C.size, C.size + 1))) :=
  Lib.run_convert_bytes_const w _ _ C n c Try.underlying24 Try.underlying5
def pA : Pk := ⟨⟨10, 0, 0, 1⟩, ⟨10, 0, 0, 2⟩, 17, 64, 0, 0, false, false, 0, []⟩
def xA : List Int := [69, 0, 0, 21, 0, 0, 0, 0, 64, 17, 102, 214, 10, 0, 0, 1, 10, 0, 0, 2, 97]
theorem xA_eq : enB pA [97] = xA := by decide +kernel
theorem xA_e : enE pA 1 = 0 := by
  unfold enE
  rw [if_neg (by decide), if_neg (by unfold opB; rw [show pA.opts = [] from rfl, okO_nil]; decide), if_neg (by decide)]
theorem xA_by : Bytes xA := by
  intro x hx
  simp [xA] at hx
  omega
theorem xA_f : faE xA = 0 := by
  unfold faE
  rw [if_neg (by decide), if_neg (by decide), if_neg (by decide), if_neg (by decide +kernel), if_neg (by rw [show (hdL xA).drop 20 = [] by decide +kernel, okO_nil]; decide), if_neg (by decide), if_neg (by decide)]
theorem xA_p : deP xA = pA := by decide +kernel
theorem xA_d : deD xA = [97] := by decide +kernel
theorem xA_o : (hdL xA).drop 20 = [] := by decide +kernel
theorem xA_g : faE (xA.set 8 63) = 5 := by
  unfold faE
  rw [if_neg (by decide), if_neg (by decide), if_neg (by decide), if_pos (by decide +kernel)]
theorem lit_B (w : World) (bs : List Int) (fz : Nat × Nat) : IsB (w.heap.size + 1) (w.alloc (.cells (bs.map (Value.int .u8)).toArray 5 fz)) (.slice (some ⟨w.heap.size, 0, none⟩) bs.length bs.length) bs :=
  ⟨_, _, rfl, Nat.le_refl _, (fun h => by cases h), fun _ => ⟨w.heap.size, 0, rfl, by omega, fun j hj => by
    rw [Nat.zero_add, cell_of_row _ w.heap.size j (bs.map (Value.int .u8)).toArray 5 fz (heap_alloc_new w _)]
    simp [hj]⟩⟩
/-- a new variable, a packet's head in it -/
theorem newP (w : World) (X : List Value) (hX : X.length = 16) : ∃ w0 w1, w0 = w.alloc (.cells (zP.cells (.slice none 0 0)).toArray 26) ∧ w1 = w0.setCells w.heap.size 0 X ∧ CellsAt w0 w.heap.size 0 (zP.cells (.slice none 0 0)) ∧ (∀ y, w0.frozen? ⟨w.heap.size, y, none⟩ = false) ∧ CellsAt w1 w.heap.size 0 X ∧ Below w.heap.size w w1 ∧ w.heap.size < w1.heap.size := by
  refine ⟨_, _, rfl, rfl, CellsAt.new w _ _, fun y => frozen_new w _ _ _, (CellsAt.new w _ _).stored hX, (later_alloc w _).trans ((But.cells w.heap.size X 0 _).below (by simp) (fun g hg e => by have e : g = w.heap.size := e; omega)), ?_⟩
  rw [size_setCells, World.size_alloc]
  omega
set_option maxRecDepth 100000 in
set_option maxHeartbeats 8000000 in
theorem awake_any (w : World) : Calls Try.prog 9 #[] w fun e w' => e = .returned (.bool true) ∧ Below w.heap.size w w' := by
  obtain ⟨X, hX⟩ : ∃ X, X = pA.cells (.slice none 0 0) := ⟨_, rfl⟩
  have lX : Hid (X.length = 16) := by rw [hX]; exact (rfl : (pA.cells (.slice none 0 0)).length = 16)
  have oX : Hid (∀ u ∈ X, u.oneCell' = true) := by rw [hX]; exact pk_one _ _ _ _
  obtain ⟨w0, w1, hw0, hw1, c0, f0, c1, b1, l1⟩ := newP w X lX.out
  obtain ⟨s1, hs1⟩ : ∃ s1, s1 = w.heap.size := ⟨_, rfl⟩
  rw [← hs1] at hw1 c0 f0 c1 l1
  obtain ⟨w2, hw2⟩ : ∃ w2, w2 = w1.alloc (.cells #[.int .u8 97] 5 (1, 2)) := ⟨_, rfl⟩
  have b2 : Below w1.heap.size w1 w2 := by rw [hw2]; exact later_alloc _ _
  have i2 : IsB w2.heap.size w2 (.slice (some ⟨w1.heap.size, 0, none⟩) 1 1) [97] := by
    rw [hw2, World.size_alloc]; exact lit_B w1 [97] (1, 2)
  have EN := Encode_any pA (.slice none 0 0) (.slice (some ⟨w1.heap.size, 0, none⟩) 1 1) [97] w2 (IsB.nil _ _) i2 ⟨⟨by decide, by decide⟩, ⟨by decide, by decide⟩, ⟨by decide, by decide⟩, ⟨by decide, by decide⟩⟩ ⟨⟨by decide, by decide⟩, ⟨by decide, by decide⟩, ⟨by decide, by decide⟩, ⟨by decide, by decide⟩⟩ Bytes.nil (by decide) (by decide)
  rw [← hX] at EN
  have HEN := hide EN
  have HB2 : Hid (Below w.heap.size w w2) := b1.trans (b2.mono b1.size)
  have C0 := hide c0
  have F0 := hide f0
  have C1 := hide c1
  have C2 := hide (c1.later l1 b2)
  have L2 : s1 < w2.heap.size := Nat.lt_of_lt_of_le l1 b2.size
  have HX := hide hX
  have cv := conv_same
  have hw0' := hw0.symm
  simp only [zP, Pk.cells, I4.vals, zI, List.cons_append, List.nil_append] at hw0'
  have hs1' := hs1.symm
  have hw1' := hw1.symm
  have hw2' := hw2.symm
  have HS1 := hide hs1
  have XE : Hid (X.toArray = #[.int .u8 10, .int .u8 0, .int .u8 0, .int .u8 1, .int .u8 10, .int .u8 0, .int .u8 0, .int .u8 2, .int .i64 17, .int .i64 64, .int .i64 0, .int .i64 0, .bool false, .bool false, .int .i64 0, .slice none 0 0]) := by rw [hX]; exact rfl
  clear EN b1 b2 c1 i2 hX hw1 hs1 hw2 hw0 c0 f0 l1
  go_enter Try.func9, Try.ntmps9
  go_upto_region 1 with fail
  go_upto_region 2 with (refine wpList_storeA rfl 26 16 sizP _ _ rfl s1 0 rfl X (zP.cells (.slice none 0 0)) (by rw [XE.out]; rfl) lX.out rfl C0.out F0.out oX.out ?_; intro _; rw [hw1'])
  clear hw0' hw1' hs1'
  go_wp2_with (refine wpList_loadA rfl 26 16 aggP sizP _ rfl s1 0 rfl X lX.out C1.out ?_)
  clear hw2' cv
  refine HEN.out.mono ?_
  rintro _ w3 ⟨b3, h3⟩
  rcases h3 with ⟨_, v, rfl, g3⟩ | ⟨hne, _⟩
  case inr => exact absurd xA_e hne
  rw [xA_eq] at g3
  obtain ⟨a3, c3, rfl, _⟩ := g3.isB.shape
  obtain ⟨gx, rfl, hgx, cells3, fz3⟩ := g3.block (by decide)
  have lgx : gx < w3.heap.size := World.block_lt_of_cell? w3 _ (cells3 0 (by decide))
  have x10 : w3.cell? ⟨gx, 10, none⟩ = some (.int .u8 102) := cells3 10 (by decide)
  have x11 : w3.cell? ⟨gx, 11, none⟩ = some (.int .u8 214) := cells3 11 (by decide)
  have HB3 : Hid (Below w.heap.size w w3) := HB2.out.trans (b3.mono HB2.out.size)
  have C3 := hide (C2.out.later L2 b3)
  have L3 : s1 < w3.heap.size := Nat.lt_of_lt_of_le L2 b3.size
  have G3 := hide g3
  have SGX : Hid (s1 < gx) := by unfold Hid; omega
  have DE := hide (Decode_any _ xA w3 g3.isB xA_by (by decide))
  rw [show xA.length = 21 from rfl] at G3 DE ⊢
  clear b3 g3 cells3 fz3 HEN HB2 C2 L2 C0 F0 C1 hgx
  go_wp2_with fail
  clear x10 x11
  refine DE.out.mono ?_
  rintro _ w4 ⟨b4, h4⟩
  rcases h4 with ⟨hne, _⟩ | ⟨_, ov, dv, n1, rfl, go4, gd4, hn1, _⟩
  case inl => exact absurd xA_f hne
  rw [xA_o] at go4
  rw [xA_d] at gd4
  rw [xA_p]
  obtain ⟨ao, co, rfl, _⟩ := go4.isB.shape
  obtain ⟨da, dc, rfl, _⟩ := gd4.isB.shape
  obtain ⟨Y, hY⟩ : ∃ Y, Y = pA.cells (.slice ao ([] : List Int).length co) := ⟨_, rfl⟩
  rw [← hY]
  have lY : Hid (Y.length = 16) := by rw [hY]; exact (rfl : (pA.cells (.slice ao ([] : List Int).length co)).length = 16)
  have oY : Hid (∀ u ∈ Y, u.oneCell' = true) := by rw [hY]; exact pk_one _ _ _ _
  obtain ⟨u0, w5, hu0, hw5, cu0, fu0, c5, b5, l5⟩ := newP w4 Y lY.out
  obtain ⟨s4, hs4⟩ : ∃ s4, s4 = w4.heap.size := ⟨_, rfl⟩
  rw [← hs4] at hw5 cu0 fu0 c5 l5
  have CU := hide cu0
  have FU := hide fu0
  have b45 := b4.trans (b5.mono b4.size)
  have HB5 : Hid (Below w.heap.size w w5) := HB3.out.trans (b45.mono HB3.out.size)
  have C5s := hide (C3.out.later L3 b45)
  have L5s : s1 < w5.heap.size := Nat.lt_of_lt_of_le L3 b45.size
  have C5 := hide c5
  have G5 := hide (G3.out.later b45)
  have D5 := hide (gd4.later b5)
  have N1 : Hid (gx < n1) := by unfold Hid; omega
  have SM := Same_true pA (.slice none 0 0) (.slice ao ([] : List Int).length co) w5 (IsB.nil _ _) ((go4.later b5).isB)
  rw [← hY, ← HX.out] at SM
  have HSM := hide SM
  have hu0' := hu0.symm
  simp only [zP, Pk.cells, I4.vals, zI, List.cons_append, List.nil_append] at hu0'
  have hs4' := hs4.symm
  have hw5' := hw5.symm
  clear b4 go4 gd4 hn1 b45 b5 c5 cu0 fu0 SM hu0 hs4 hw5 hY DE C3 L3 G3 HB3 l5
  go_upto_region 6 with (refine wpList_storeA rfl 26 16 sizP _ _ rfl s4 0 rfl Y (zP.cells (.slice none 0 0)) rfl lY.out rfl CU.out FU.out oY.out ?_; intro _; rw [hw5'])
  clear hu0' hw5' hs4' CU FU
  go_wp2_with (first | refine wpList_loadA rfl 26 16 aggP sizP _ rfl s1 0 rfl X lX.out C5s.out ?_ | refine wpList_loadA rfl 26 16 aggP sizP _ rfl s4 0 rfl Y lY.out C5.out ?_)
  refine HSM.out.mono ?_
  rintro _ w6 ⟨rfl, b6⟩
  have HB6 : Hid (Below w.heap.size w w6) := HB5.out.trans (b6.mono HB5.out.size)
  have C6s := hide (C5s.out.later L5s b6)
  have L6s : s1 < w6.heap.size := Nat.lt_of_lt_of_le L5s b6.size
  have G6 := G5.out.later b6
  have D6 := D5.out.later b6
  obtain ⟨x8, f8⟩ := own_cell G6 8 (by decide)
  obtain ⟨w7, hw7⟩ : ∃ w7, w7 = w6.setCell ⟨gx, 8, none⟩ (.int .u8 63) := ⟨_, rfl⟩
  have bo7 : But (Only gx) w6 w7 := by rw [hw7]; exact (But.refl (Only gx) w6).cellb (b := gx) rfl 8 _
  have G7 : Gro w2.heap.size w7 (.slice (some ⟨gx, 0, none⟩) 21 c3) (xA.set 8 63) := by rw [hw7]; exact G6.store rfl 8 63
  have D7 : Hid (Gro n1 w7 (.slice da ([97] : List Int).length dc) [97]) := D6.off bo7 (fun g x y e e2 => by
    obtain ⟨_, ⟨h2, _⟩ | ⟨g', cap', cur, e', hge, hh, _⟩⟩ := D6
    · rw [e] at h2; cases h2
    · rw [e] at e'
      cases e'
      have := N1.out
      omega)
  have HB7 : Hid (Below w.heap.size w w7) := HB6.out.trans (bo7.below HB6.out.size (fun g hg e => by have e : g = gx := e; have := SGX.out; have := HS1.out; omega))
  have C7s : Hid (CellsAt w7 s1 0 X) := C6s.out.but L6s bo7 (fun e => by have e : s1 = gx := e; have := SGX.out; omega)
  have L7s : s1 < w7.heap.size := Nat.lt_of_lt_of_le L6s bo7.size
  have DE2 := Decode_any (.slice (some ⟨gx, 0, none⟩) 21 c3) (xA.set 8 63) w7 G7.isB (xA_by.set 8 63 (by decide) (by decide)) (by decide)
  have HDE2 := hide DE2
  have hw7' := hw7.symm
  have z21 : (8 : Int) < (21 : Int) := by decide
  clear b6 HSM G6 D6 bo7 G7 DE2 hw7 HB5 HB6 C5s C6s G5 D5 C5 L5s L6s
  go_wp2_with fail
  clear x8 f8 hw7'
  refine HDE2.out.mono ?_
  rintro _ w8 ⟨b8, h8⟩
  rcases h8 with ⟨_, rfl⟩ | ⟨hne, _⟩
  case inr => rw [xA_g] at hne; exact absurd hne (by decide)
  rw [xA_g]
  obtain ⟨Z, hZ⟩ : ∃ Z, Z = zP.cells (.slice none 0 0) := ⟨_, rfl⟩
  rw [← hZ]
  have lZ : Hid (Z.length = 16) := by rw [hZ]; exact (rfl : (zP.cells (.slice none 0 0)).length = 16)
  have oZ : Hid (∀ u ∈ Z, u.oneCell' = true) := by rw [hZ]; exact pk_one _ _ _ _
  obtain ⟨u0, w9, hu0, hw9, cu0, fu0, c9, b9, l9⟩ := newP w8 Z lZ.out
  obtain ⟨s8, hs8⟩ : ∃ s8, s8 = w8.heap.size := ⟨_, rfl⟩
  rw [← hs8] at hw9 cu0 fu0 c9 l9
  have CU := hide cu0
  have FU := hide fu0
  have b89 := b8.trans (b9.mono b8.size)
  have HB9 : Hid (Below w.heap.size w w9) := HB7.out.trans (b89.mono HB7.out.size)
  have c9s := C7s.out.later L7s b89
  rw [HX.out] at c9s
  have y0 := c9s 0 _ rfl
  have y1 := c9s 1 _ rfl
  have y2 := c9s 2 _ rfl
  have y3 := c9s 3 _ rfl
  simp only [Nat.zero_add, pA] at y0 y1 y2 y3
  have sc := conv_str ((D7.out.later b89).isB)
  rw [show strB [97] = { data := #[97] } from by decide, show ([97] : List Int).length = 1 from rfl] at sc
  have hu0' := hu0.symm
  simp only [zP, Pk.cells, I4.vals, zI, List.cons_append, List.nil_append] at hu0'
  have hs8' := hs8.symm
  have hw9' := hw9.symm
  clear b8 hw9 hs8 hu0 cu0 fu0 c9 b9 l9 b89 c9s HDE2 HB7 C7s L7s hZ D7
  go_upto_region 9 with (refine wpList_storeA rfl 26 16 sizP _ _ rfl s8 0 rfl Z (zP.cells (.slice none 0 0)) rfl lZ.out rfl CU.out FU.out oZ.out ?_; intro _; rw [hw9'])
  clear hu0' hw9' hs8' CU FU
  have FI : Hid (Calls Try.prog 17 #[I4.val ⟨10, 0, 0, 1⟩] w9 fun e w' => e = .returned (.bool true) ∧ Below w9.heap.size w9 w') := (Fits_any ⟨10, 0, 0, 1⟩ w9 ⟨⟨by decide, by decide⟩, ⟨by decide, by decide⟩, ⟨by decide, by decide⟩, ⟨by decide, by decide⟩⟩).mono (by rintro _ w' ⟨rfl, b⟩; exact ⟨rfl, b⟩)
  simp only [I4.val] at FI
  go_wp2_with fail
  clear y0 y1 y2 y3 sc
  refine FI.out.mono ?_
  rintro _ w10 ⟨rfl, b10⟩
  have HB10 : Hid (Below w.heap.size w w10) := HB9.out.trans (b10.mono HB9.out.size)
  have FZ : Hid (Calls Try.prog 17 #[I4.val zI] w10 fun e w' => e = .returned (.bool false) ∧ Below w10.heap.size w10 w') := (Fits_any zI w10 ⟨⟨by decide, by decide⟩, ⟨by decide, by decide⟩, ⟨by decide, by decide⟩, ⟨by decide, by decide⟩⟩).mono (by rintro _ w' ⟨rfl, b⟩; exact ⟨rfl, b⟩)
  simp only [I4.val, zI] at FZ
  clear b10 FI HB9
  go_wp2_with fail
  refine FZ.out.mono ?_
  rintro _ w11 ⟨rfl, b11⟩
  have HB11 : Hid (Below w.heap.size w w11) := HB10.out.trans (b11.mono HB10.out.size)
  clear b11 FZ HB10
  go_wp2
  go_ret
  exact ⟨rfl, HB11.out⟩
end Go.Proofs.Ytiglejmmdghmgaa
