
/-
  The chapter's examples: awake.
-/
import Derived.Test.YthjeaebpboilpaaU5
import Derived.Lib.SmallJoins
namespace Go.Proofs.Ythjeaebpboilpaa
open Go.RowKit Go.Shelf

theorem uLine_any (w : World) : Calls Try.prog 20 #[] w fun e w' => e = .returned (.pointer (some ⟨w.heap.size, 0, none⟩)) ∧ w'.cell? ⟨w.heap.size, 0, none⟩ = some (.slice none 0 0) ∧ w'.frozen? ⟨w.heap.size, 0, none⟩ = false ∧ Below w.heap.size w w' := by
  obtain ⟨w2, hw2⟩ : ∃ w2, w2 = w.alloc (.cells #[.slice none 0 0] 83) := ⟨_, rfl⟩
  have b2 : Below w.heap.size w w2 := by rw [hw2]; exact later_alloc _ _
  have c2 : CellsAt w2 w.heap.size 0 [.slice none 0 0] := by rw [hw2]; exact CellsAt.new w _ _
  have f2 : w2.frozen? ⟨w.heap.size, 0, none⟩ = false := by rw [hw2]; exact frozen_new w _ _ _
  have C2 := hide c2
  have B2 := hide b2
  have F2 := hide f2
  have hw2' := hw2.symm
  clear hw2 b2 c2 f2
  go_enter Try.func20, Try.ntmps20
  go_wp2
  go_ret
  exact ⟨rfl, C2.out 0 _ rfl, F2.out, B2.out⟩
theorem uLen_any (w : World) (b : Nat) (a : Option Addr) (n c : Nat) (h : w.cell? ⟨b, 0, none⟩ = some (.slice a n c)) : Calls Try.prog 24 #[.pointer (some ⟨b, 0, none⟩)] w fun e w' => e = .returned (.int .i64 (n : Int)) ∧ w' = w := by
  go_enter Try.func24, Try.ntmps24
  go_wp2
  go_ret
  exact ⟨rfl, rfl⟩
theorem newI (w : World) (X : List Value) (hX : X.length = 4) : ∃ w0 w1, w0 = w.alloc (.cells zI.vals.toArray 23) ∧ w1 = w0.setCells w.heap.size 0 X ∧ CellsAt w0 w.heap.size 0 zI.vals ∧ (∀ y, w0.frozen? ⟨w.heap.size, y, none⟩ = false) ∧ CellsAt w1 w.heap.size 0 X ∧ Below w.heap.size w w1 ∧ w.heap.size < w1.heap.size := by
  refine ⟨_, _, rfl, rfl, CellsAt.new w _ _, fun y => frozen_new w _ _ _, (CellsAt.new w _ _).stored (by rw [hX]; rfl), (Below.refl _ w).alloc (Nat.le_refl _) _ |>.trans ((But.cells w.heap.size X 0 _).below (by simp) (fun g hg e => by have e : g = w.heap.size := e; omega)), ?_⟩
  have h := (But.cells w.heap.size X 0 (w.alloc (.cells zI.vals.toArray 23))).size
  rw [World.size_alloc] at h
  omega
def ipU1 : I4 := ⟨10, 0, 0, 1⟩
def ipU2 : I4 := ⟨10, 0, 0, 2⟩
def ipU3 : I4 := ⟨10, 0, 0, 3⟩
theorem ipU1_ok : ipU1.Ok := ⟨⟨by decide, by decide⟩, ⟨by decide, by decide⟩, ⟨by decide, by decide⟩, ⟨by decide, by decide⟩⟩
theorem ipU2_ok : ipU2.Ok := ⟨⟨by decide, by decide⟩, ⟨by decide, by decide⟩, ⟨by decide, by decide⟩, ⟨by decide, by decide⟩⟩
theorem ipU3_ok : ipU3.Ok := ⟨⟨by decide, by decide⟩, ⟨by decide, by decide⟩, ⟨by decide, by decide⟩, ⟨by decide, by decide⟩⟩
def xA : List Int := [0, 5, 0, 7, 0, 9, 138, 205, 97]
theorem xA_e : ueE 5 7 1 = 0 := by decide +kernel
theorem xA_b : ueB ipU1 ipU2 5 7 [97] = xA := by decide +kernel
theorem xA_by : Bytes xA := by intro x hx; simp [xA] at hx; omega
theorem xA_d : udE ipU1 ipU2 xA = 0 := by decide +kernel
theorem xC_d : udE ipU1 ipU3 xA = 5 := by decide +kernel
theorem xA_f : udF ipU1 ipU2 xA = 5 := by decide +kernel
theorem xA_t : udT ipU1 ipU2 xA = 7 := by decide +kernel
theorem xA_dd : udD ipU1 ipU2 xA = [97] := by decide +kernel
theorem bd1 {r err : Int} {L : List Po} {ck : Nat} {nx : Int} (h : Bnd 49152 [] 0 1 7 r err L ck nx) : r = 7 ∧ err = 0 ∧ L = [⟨7, 1, 0⟩] ∧ ck = 1 ∧ nx = 49152 := by
  rcases h with h | h | h | h | h
  · rcases h.1 with h1 | h1
    · exact absurd h1.2 (by decide)
    · omega
  · omega
  · omega
  · exact absurd h.2.2.2.1 (by decide)
  · obtain ⟨_, _, _, _, h1, h2, h3, h4, h5⟩ := h
    exact ⟨h1, h2, h3, h4, h5⟩
theorem bd2 {r err : Int} {L : List Po} {ck : Nat} {nx : Int} (h : Bnd 49152 [⟨7, 1, 0⟩] 1 2 7 r err L ck nx) : r = 0 ∧ err = 130 ∧ L = [⟨7, 1, 0⟩] ∧ ck = 1 ∧ nx = 49152 := by
  rcases h with h | h | h | h | h
  · rcases h.1 with h1 | h1
    · exact absurd h1.2 (by decide)
    · omega
  · omega
  · omega
  · obtain ⟨_, _, _, _, h1, h2, h3, h4, h5⟩ := h
    exact ⟨h1, h2, h3, h4, h5⟩
  · exact absurd h.2.2.2.1 (by decide)
theorem bd3 {r err : Int} {L : List Po} {ck : Nat} {nx : Int} (h : Bnd 49152 [⟨7, 1, 0⟩] 1 2 0 r err L ck nx) : r = 49152 ∧ err = 0 := by
  have hn : ∀ p, FF 49152 [⟨7, 1, 0⟩] p → p = 49152 := fun p hp => by
    have h0 : otk 49152 [⟨7, 1, 0⟩] = false := by decide
    rcases hp with hp | hp | hp
    · have := hp.2 49152 (by omega) (by omega)
      rw [h0] at this
      cases this
    · by_cases e : p = 49152
      · exact e
      · have := hp.2.2.2 49152 (by omega) (by have := hp.1; omega)
        rw [h0] at this
        cases this
    · have := hp.1
      have := hp.2.1
      omega
  rcases h with h | h | h | h | h
  · rcases h.1 with h1 | h1
    · exact absurd rfl h1.1
    · omega
  · have := hn 0 h.2.2.2.1
    omega
  · exact ⟨hn r h.2.2.2.1, h.2.2.2.2.1⟩
  · exact absurd rfl h.1
  · exact absurd rfl h.1
set_option maxRecDepth 100000 in
set_option maxHeartbeats 8000000 in
theorem uAwake_any (w : World) : Calls Try.prog 8 #[] w fun e w' => e = .returned (.bool true) ∧ Below w.heap.size w w' := by
  obtain ⟨A, hA⟩ : ∃ A, A = ipU1.vals := ⟨_, rfl⟩
  obtain ⟨B, hB⟩ : ∃ B, B = ipU2.vals := ⟨_, rfl⟩
  have LA : Hid (A.length = 4) := by rw [hA]; exact rfl
  have LB : Hid (B.length = 4) := by rw [hB]; exact rfl
  have OA : Hid (∀ u ∈ A, u.oneCell' = true) := by rw [hA]; exact ip_oneC _
  have OB : Hid (∀ u ∈ B, u.oneCell' = true) := by rw [hB]; exact ip_oneC _
  have EA : Hid (Value.agg #[.int .u8 10, .int .u8 0, .int .u8 0, .int .u8 1] = .agg A.toArray) := by rw [hA]; exact rfl
  have EB : Hid (Value.agg #[.int .u8 10, .int .u8 0, .int .u8 0, .int .u8 2] = .agg B.toArray) := by rw [hB]; exact rfl
  obtain ⟨u1, w1, hu1, hw1, cu1, fu1, c1, b1, l1⟩ := newI w A LA.out
  obtain ⟨s1, hs1⟩ : ∃ s1, s1 = w.heap.size := ⟨_, rfl⟩
  rw [← hs1] at hw1 cu1 fu1 c1 l1
  obtain ⟨u2, w2, hu2, hw2, cu2, fu2, c2, b2, l2⟩ := newI w1 B LB.out
  obtain ⟨s2, hs2⟩ : ∃ s2, s2 = w1.heap.size := ⟨_, rfl⟩
  rw [← hs2] at hw2 cu2 fu2 c2 l2
  have CU1 := hide cu1
  have FU1 := hide fu1
  have CU2 := hide cu2
  have FU2 := hide fu2
  have B2 := hide (later b1 b2)
  have U2 : Hid (Up w2 (fun W => CellsAt W s1 0 A ∧ CellsAt W s2 0 B)) := ((c1.later l1 b2).up (Nat.lt_of_lt_of_le l1 b2.size)).and (c2.up l2)
  have hu1' := hu1.symm
  have hu2' := hu2.symm
  simp only [zI, I4.vals] at hu1' hu2'
  have hw1' := hw1.symm
  have hw2' := hw2.symm
  have hs1' := hs1.symm
  have hs2' := hs2.symm
  have XV : Hid (ipU1.val = .agg A.toArray ∧ ipU2.val = .agg B.toArray) := by rw [hA, hB]; exact ⟨rfl, rfl⟩
  clear hu1 hu2 hw1 hw2 hs1 hs2 cu1 cu2 fu1 fu2 c1 c2 b1 b2 hA hB
  go_enter Try.func8, Try.ntmps8
  go_upto_region 2 with (refine wpList_storeA rfl 23 4 sizI _ _ rfl s1 0 rfl A zI.vals EA.out LA.out rfl CU1.out FU1.out OA.out ?_; intro _; rw [hw1'])
  go_upto_region 3 with (refine wpList_storeA rfl 23 4 sizI _ _ rfl s2 0 rfl B zI.vals EB.out LB.out rfl CU2.out FU2.out OB.out ?_; intro _; rw [hw2'])
  clear hu1' hu2' hw1' hw2' hs1' hs2' CU1 FU1 CU2 FU2
  obtain ⟨w3, hw3⟩ : ∃ w3, w3 = w2.alloc (.cells #[.int .u8 97] 5 (1, 2)) := ⟨_, rfl⟩
  have b3 : Below w2.heap.size w2 w3 := by rw [hw3]; exact later_alloc _ _
  have i3 : IsB w3.heap.size w3 (.slice (some ⟨w2.heap.size, 0, none⟩) 1 1) [97] := by
    rw [hw3, World.size_alloc]; exact lit_B w2 [97] (1, 2)
  obtain ⟨s3, hs3⟩ : ∃ s3, s3 = w2.heap.size := ⟨_, rfl⟩
  rw [← hs3] at i3
  have EN := uEnc_any ipU1 ipU2 ipU1_ok ipU2_ok 5 7 (some ⟨s3, 0, none⟩) 1 [97] w3 i3 (by intro x hx; simp at hx; omega) (by decide)
  rw [show ([97] : List Int).length = 1 from rfl, xA_e, xA_b, XV.out.1, XV.out.2] at EN
  have HEN := hide EN
  have cv : (convert 24 24 (.slice (some ⟨s3, 0, none⟩) 1 1)).run Try.prog (w2.alloc (.cells #[.int .u8 97] 5)) = .ok (.slice (some ⟨s3, 0, none⟩) 1 1) w3 := by rw [hs3, hw3]; exact conv_same w2 #[.int .u8 97] 1 1
  have C1 := hide U2.out.now.1
  have C2 := hide U2.out.now.2
  have B3 := hide (later B2.out b3)
  have U3 := hide (U2.out.next b3)
  have hs3' := hs3.symm
  clear EN b3 i3 hw3 hs3
  go_wp2_with (first | refine wpList_loadA rfl 23 4 aggI sizI _ rfl s1 0 rfl A LA.out C1.out ?_ | refine wpList_loadA rfl 23 4 aggI sizI _ rfl s2 0 rfl B LB.out C2.out ?_)
  clear hs3' cv C1 C2 U2
  refine HEN.out.mono ?_
  rintro _ w4 ⟨v4, rfl, g4, b4⟩
  obtain ⟨a4, c4, rfl, _⟩ := g4.isB.shape
  obtain ⟨gx, rfl, hgx, cells4, fz4⟩ := g4.block (by decide)
  have x6 : w4.cell? ⟨gx, 6, none⟩ = some (.int .u8 138) := cells4 6 (by decide)
  have x7 : w4.cell? ⟨gx, 7, none⟩ = some (.int .u8 205) := cells4 7 (by decide)
  have B4 := hide (later B3.out b4)
  have U4 := hide ((U3.out.next b4).and g4.isB.up)
  have D1 := uDec_any ipU1 ipU2 ipU1_ok ipU2_ok _ xA w4 g4.isB xA_by (by decide)
  rw [xA_d, xA_f, xA_t, xA_dd, XV.out.1, XV.out.2] at D1
  have HD1 := hide D1
  have C1 := hide U4.out.now.1.1
  have C2 := hide U4.out.now.1.2
  rw [show xA.length = 9 from rfl] at U4 HD1 ⊢
  clear b4 g4 cells4 fz4 HEN hgx D1 U3
  go_upto_region 6 with fail
  clear x6 x7
  go_wp2_with (first | refine wpList_loadA rfl 23 4 aggI sizI _ rfl s1 0 rfl A LA.out C1.out ?_ | refine wpList_loadA rfl 23 4 aggI sizI _ rfl s2 0 rfl B LB.out C2.out ?_)
  refine HD1.out.mono ?_
  rintro _ w5 ⟨v5, rfl, g5, b5⟩
  obtain ⟨a5, c5, rfl, _⟩ := g5.isB.shape
  have B5 := hide (later B4.out b5)
  have U5 := hide ((U4.out.next b5).and g5.isB.up)
  have D2 := uDec_any ipU1 ipU3 ipU1_ok ipU3_ok _ xA w5 U5.out.now.1.2 xA_by (by decide)
  rw [xC_d, XV.out.1, show ipU3.val = .agg #[.int .u8 10, .int .u8 0, .int .u8 0, .int .u8 3] from rfl] at D2
  obtain ⟨f2, hf2⟩ : ∃ f2, f2 = udF ipU1 ipU3 xA := ⟨_, rfl⟩
  obtain ⟨t2, ht2⟩ : ∃ t2, t2 = udT ipU1 ipU3 xA := ⟨_, rfl⟩
  rw [← hf2, ← ht2] at D2
  have HD2 := hide D2
  have C1 := hide U5.out.now.1.1.1
  clear b5 g5 HD1 D2 hf2 ht2 U4
  go_wp2_with (refine wpList_loadA rfl 23 4 aggI sizI _ rfl s1 0 rfl A LA.out C1.out ?_)
  refine HD2.out.mono ?_
  rintro _ w6 ⟨v6, rfl, g6, b6⟩
  obtain ⟨a6, c6, rfl, _⟩ := g6.isB.shape
  have B6 := hide (later B5.out b6)
  have U6 := hide (U5.out.next b6)
  have NP := hide (uNew_any w6)
  obtain ⟨pb, hpb⟩ : ∃ pb, pb = w6.heap.size := ⟨_, rfl⟩
  rw [← hpb] at NP
  have PB6 := hide hpb
  clear b6 g6 HD2 U5 hpb
  go_wp2_with fail
  refine NP.out.mono ?_
  rintro _ w7 ⟨rfl, P7, b7'⟩
  have b7 : Below w6.heap.size w6 w7 := by rw [← PB6.out]; exact b7'
  have NL := hide (uLine_any w7)
  obtain ⟨lb, hlb⟩ : ∃ lb, lb = w7.heap.size := ⟨_, rfl⟩
  rw [← hlb] at NL
  have LB7 := hide hlb
  have lpb : pb + 1 < lb := by rw [hlb]; exact P7.lt
  have P7 := hide P7
  have B67 := hide b7
  clear b7 b7' NP hlb
  go_wp2_with fail
  refine NL.out.mono ?_
  rintro _ w8 ⟨rfl, cl8, _, b8'⟩
  have b8 : Below w7.heap.size w7 w8 := by rw [← LB7.out]; exact b8'
  have P8 := hide (P7.out.later b8)
  have CL8 := hide cl8
  have B68 := hide (later B67.out b8)
  have ll8 : lb < w8.heap.size := World.block_lt_of_cell? w8 _ cl8
  have BD1 := hide (uBind_any P8.out (by omega) (by omega) 1 7)
  clear b8 b8' NL cl8 P7 B67
  go_wp2_with fail
  refine BD1.out.mono ?_
  rintro _ w9 ⟨r, err, L', ck', nx', rfl, hb, P9, bo9⟩
  obtain ⟨rfl, rfl, rfl, rfl, rfl⟩ := bd1 hb
  have nl : ¬ PoK pb lb := fun e => by rcases e with e | e <;> omega
  have CL9 := hide ((bo9.cell (p := ⟨lb, 0, none⟩) ll8 nl).trans CL8.out)
  have ll9 : lb < w9.heap.size := Nat.lt_of_lt_of_le ll8 bo9.size
  have BO9 := hide bo9
  have BD2 := hide (uBind_any P9 (by omega) (by omega) 2 7)
  clear bo9 hb BD1 CL8 P9
  go_wp2_with fail
  refine BD2.out.mono ?_
  rintro _ w10 ⟨r, err, L', ck', nx', rfl, hb, P10, bo10⟩
  obtain ⟨rfl, rfl, rfl, rfl, rfl⟩ := bd2 hb
  have CL10 := hide ((bo10.cell (p := ⟨lb, 0, none⟩) ll9 nl).trans CL9.out)
  have ll10 : lb < w10.heap.size := Nat.lt_of_lt_of_le ll9 bo10.size
  have BO10 := hide (BO9.out.trans bo10)
  have BD3 := hide (uBind_any P10 (by omega) (by omega) 2 0)
  clear bo10 hb BD2 CL9 P10 BO9
  go_wp2_with fail
  refine BD3.out.mono ?_
  rintro _ w11 ⟨r, err, L', ck', nx', rfl, hb, P11, bo11⟩
  obtain ⟨rfl, rfl⟩ := bd3 hb
  have cl11 := (bo11.cell (p := ⟨lb, 0, none⟩) ll10 nl).trans CL10.out
  have LN := hide (uLen_any w11 lb none 0 0 cl11)
  have bo := BO10.out.trans bo11
  have b611 : Below w6.heap.size w6 w11 := B68.out.trans (bo.below B68.out.size (fun g hg e => by have := PB6.out; rcases e with e | e <;> omega))
  have B11 := hide (later B6.out b611)
  have sc : (convert 24 9 (.slice a5 1 c5)).run Try.prog w11 = .ok (.string { data := #[97] }) w11 := by
    have h := conv_str (U6.out.next b611).now.2
    rw [show strB [97] = { data := #[97] } from by decide] at h
    exact h
  clear bo bo11 hb BD3 CL10 P11 BO10 cl11 b611
  go_wp2_with fail
  clear sc
  refine LN.out.mono ?_
  rintro _ wx ⟨rfl, hw⟩
  rw [hw]
  clear hw wx LN
  go_wp2
  go_ret
  exact ⟨rfl, B11.out⟩
end Go.Proofs.Ythjeaebpboilpaa
