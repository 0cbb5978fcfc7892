
/-
  TcpBack: the walk.
-/
import Derived.Test.YtifoiodehejenaaD23
namespace Go.Proofs.Ytifoiodehejenaa
open Go.RowKit Go.Shelf

set_option maxRecDepth 100000 in
set_option maxHeartbeats 16000000 in
theorem tBack_walk (x y : I4) (s : Sg) (gv dv : Value) (bit : Int) (w : World) (hx : x.Ok) (hy : y.Ok) (hs : SgIn w s gv dv) (_ : -9223372036854775808 ≤ bit) (_ : bit ≤ 9223372036854775807) :
    Calls Try.prog 6 #[x.val, y.val, .agg (s.cells gv dv).toArray, .int .i64 bit] w fun e w' => e = .returned (.bool true) ∧ Below w.heap.size w w' := by
  obtain ⟨w1, w2, s1, s2, hs1, hw1, hs2, hw2, c1, c2, b2, l1, l2, _⟩ := twoI w x y
  obtain ⟨w3, b, hsb, hwb, c3, f3, b3, l3⟩ := boxS w2 s gv dv
  obtain ⟨X, hX⟩ : ∃ X, X = x.vals := ⟨_, rfl⟩
  obtain ⟨Y, hY⟩ : ∃ Y, Y = y.vals := ⟨_, rfl⟩
  obtain ⟨Z, hZ⟩ : ∃ Z, Z = s.cells gv dv := ⟨_, rfl⟩
  have LX : Hid (X.length = 4) := by rw [hX]; exact rfl
  have LY : Hid (Y.length = 4) := by rw [hY]; exact rfl
  have LZ : Hid (Z.length = 10) := by rw [hZ]; exact rfl
  have OY : Hid (∀ u ∈ Y, u.oneCell' = true) := by rw [hY]; exact ip_oneC _
  have OZ : Hid (∀ u ∈ Z, u.oneCell' = true) := by
    obtain ⟨ga, gc, eg⟩ := hs.got.shape
    obtain ⟨da, dc, ed, _⟩ := hs.dat
    rw [hZ, eg, ed]
    exact sg_one _ _ _ rfl rfl
  rw [← hX] at c1
  rw [← hY] at c2
  have XV : Hid (x.val = .agg X.toArray ∧ y.val = .agg Y.toArray ∧ Value.agg (s.cells gv dv).toArray = .agg Z.toArray) := by rw [hX, hY, hZ]; exact ⟨rfl, rfl, rfl⟩
  have XO := hide hx
  have YO := hide hy
  have HS := hide hs
  have B3 := hide (later b2 b3)
  have HYV := hide hY
  have k4 : w3.cell? ⟨b, 4, none⟩ = some (.int .i64 s.flg) := c3 4 _ rfl
  have U3 : Hid (Up w3 (fun W => (CellsAt W s1 0 X ∧ CellsAt W s2 0 Y) ∧ CellsAt W b 0 Z)) := (((c1.up l1).and (c2.up l2)).next b3).and (by rw [hZ]; exact c3.up l3)
  have HZV := hide hZ
  rw [show (Value.agg (s.cells gv dv).toArray) = .agg #[.int .i64 s.src, .int .i64 s.dst, .int .u32 s.seq, .int .u32 s.ack, .int .i64 s.flg, .int .i64 s.wnd, .int .i64 s.mss, .bool s.sak, gv, dv] from rfl]
  rw [show x.val = .agg #[.int .u8 x.a, .int .u8 x.b, .int .u8 x.c, .int .u8 x.d] from rfl, show y.val = .agg #[.int .u8 y.a, .int .u8 y.b, .int .u8 y.c, .int .u8 y.d] from rfl]
  have hs1' := hs1.symm
  have hs2' := hs2.symm
  have hw1' := hw1.symm
  have hw2' := hw2.symm
  have hsb' := hsb.symm
  have hwb' := hwb.symm
  clear c1 c2 b2 c3 f3 b3 hs1 hs2 hw1 hw2 hsb hwb hX hY hZ hx hy hs
  go_enter Try.func6, Try.ntmps6
  go_upto_region 1 with fail
  clear hs1' hs2' hw1' hw2' hsb' hwb' k4
  go_wp2_with fail
  refine (tAwake_any w3).mono ?_
  rintro _ w4 ⟨rfl, b4⟩
  have B4 := hide (later B3.out b4)
  have U4 := hide (U3.out.next b4)
  have EN := tEnc_any (P := fun g => g < w.heap.size) x y XO.out YO.out s HS.out.ok gv dv w4 (HS.out.got.later B4.out) (HS.out.dat.later B4.out)
  rw [XV.out.1, XV.out.2.1, XV.out.2.2] at EN
  obtain ⟨E, hE⟩ : ∃ E, E = teE s := ⟨_, rfl⟩
  rw [← hE] at EN
  have HEN := hide EN
  have HE := hide hE
  have C1 := hide U4.out.now.1.1
  have C2 := hide U4.out.now.1.2
  have C3 := hide U4.out.now.2
  clear b4 U3 EN hE B3
  go_wp2_with (first | refine wpList_loadA rfl 35 4 aggI sizI _ rfl s1 0 rfl X LX.out C1.out ?_ | refine wpList_loadA rfl 35 4 aggI sizI _ rfl s2 0 rfl Y LY.out C2.out ?_ | refine wpList_loadA rfl 26 10 aggSg sizSg _ rfl b 0 rfl Z LZ.out C3.out ?_)
  refine HEN.out.mono ?_
  rintro _ w5 ⟨xv, rfl, g5, b5⟩
  have B5 := hide (later B4.out b5)
  by_cases hE0 : E = 0
  case neg =>
    have qE : (E != 0) = true := by simpa using hE0
    obtain ⟨a3, k3, rfl, _⟩ := g5.isB.shape
    clear g5 hE0 b5 HEN
    go_wp2
    go_ret
    exact ⟨rfl, B5.out⟩
  subst hE0
  have TE : Hid (teE s = 0) := HE.out.symm
  have eB : teB x y s = tsB x y s := by unfold teB; rw [if_pos TE.out]
  rw [eB] at g5
  obtain ⟨dl, mb⟩ := teE_zero TE.out
  obtain ⟨_, _, ⟨fl0, fl1⟩, _, _, h3⟩ := mbS_true mb
  obtain ⟨tb1, tb2⟩ := t_back XO.out YO.out HS.out.ok TE.out
  obtain ⟨l35, _⟩ := otB_len s h3
  have lB := tsB_len x y s
  have By0 := tsB_bytes (x := x) (y := y) HS.out.ok h3
  obtain ⟨L0, hL0⟩ : ∃ L0, L0 = tsB x y s := ⟨_, rfl⟩
  rw [← hL0] at g5 tb1 tb2 lB By0
  obtain ⟨N, hN⟩ : ∃ N, N = L0.length := ⟨_, rfl⟩
  have HN := hide hN
  have zN1 : N ≤ 1100 := by omega
  have zN2 : 20 ≤ N := by omega
  obtain ⟨gx, xc, rfl, hgx, lgx, hcx, cells5, fz5⟩ := g5.cells (by omega)
  rw [← hN] at g5 hcx ⊢
  have By := hide By0
  have TD := hide tb1
  have TS := hide tb2
  have H3 := hide h3
  have U5 := hide ((U4.out.next b5).and g5.isB.up)
  have GX : Hid (Gro w4.heap.size w5 (.slice (some ⟨gx, 0, none⟩) N xc) L0) := g5
  have C1 := hide U5.out.now.1.1.1
  have C2 := hide U5.out.now.1.1.2
  have C3 := hide U5.out.now.1.2
  have D5 := tDec_any x y XO.out YO.out _ L0 w5 U5.out.now.2 By0 (by omega)
  rw [tb1, tb2, XV.out.1, XV.out.2.1] at D5
  have HD5 := hide D5
  clear eB hL0 hN lB cells5 fz5 g5 b5 HEN hcx C1 C2 C3 By0 tb1 tb2 dl mb l35 h3 D5 U4
  have C1 := hide U5.out.now.1.1.1
  have C2 := hide U5.out.now.1.1.2
  have C3 := hide U5.out.now.1.2
  go_wp2_with (first | refine wpList_loadA rfl 35 4 aggI sizI _ rfl s1 0 rfl X LX.out C1.out ?_ | refine wpList_loadA rfl 35 4 aggI sizI _ rfl s2 0 rfl Y LY.out C2.out ?_)
  refine HD5.out.mono ?_
  rintro _ w6 ⟨ev, fv, rfl, g6, d6, b6⟩
  -- what was told lies in a block
  obtain ⟨D, hD⟩ : ∃ D, D = (toldS s).cells ev fv := ⟨_, rfl⟩
  have LD : Hid (D.length = 10) := by rw [hD]; exact rfl
  have OD : Hid (∀ u ∈ D, u.oneCell' = true) := by
    obtain ⟨ga, gc, eg⟩ := g6.shape
    obtain ⟨da, dc, ed, _⟩ := d6.isB.shape
    rw [hD, eg, ed]
    exact sg_one _ _ _ rfl rfl
  rw [← hD]
  obtain ⟨u7, w7, hu7, hw7, cu7, fu7, c7, b7, l7, _⟩ := newS w6 D LD.out
  obtain ⟨s7, hs7⟩ : ∃ s7, s7 = w6.heap.size := ⟨_, rfl⟩
  rw [← hs7] at hw7 cu7 fu7 c7 l7
  have B7 := hide (later (later B5.out b6) b7)
  have U7 := hide (((U5.out.next b6).next b7).and (c7.up l7))
  have G7 := hide (g6.later b7)
  have D7 := hide (d6.isB.later b7)
  have GX7 : Hid (Gro w4.heap.size w7 (.slice (some ⟨gx, 0, none⟩) N xc) L0) := (GX.out.later b6).later b7
  have CU7 := hide cu7
  have FU7 := hide fu7
  have C3 := hide U7.out.now.1.1.2
  have hu7' := hu7.symm
  simp only [zSC, zSg, Sg.cells] at hu7'
  have hw7' := hw7.symm
  have hs7' := hs7.symm
  have HDV := hide hD
  clear hu7 hw7 hs7 cu7 fu7 c7 b6 b7 l7 g6 d6 HD5 U5 C1 C2 hD GX
  go_upto_region 6 with (refine wpList_storeA rfl 26 10 sizSg _ _ rfl s7 0 rfl D zSC rfl LD.out rfl CU7.out FU7.out OD.out ?_; intro _; rw [hw7'])
  clear hu7' hw7' hs7' CU7 FU7
  -- what is wanted
  obtain ⟨u8, w8, hu8, hw8, cu8, fu8, c8, b8, l8, f8⟩ := newS w7 Z LZ.out
  obtain ⟨s8, hs8⟩ : ∃ s8, s8 = w7.heap.size := ⟨_, rfl⟩
  rw [← hs8] at hw8 cu8 fu8 c8 l8 f8
  have B8 := hide (later B7.out b8)
  have U8 := hide (U7.out.next b8)
  have CU8 := hide cu8
  have FU8 := hide fu8
  have FZ := hide f8
  have HC8 := hide c8
  have hu8' := hu8.symm
  simp only [zSC, zSg, Sg.cells] at hu8'
  have hw8' := hw8.symm
  have hs8' := hs8.symm
  have Z4 : Z[4]? = some (.int .i64 s.flg) := by rw [HZV.out]; rfl
  have Z6 : Z[6]? = some (.int .i64 s.mss) := by rw [HZV.out]; rfl
  have Z7 : Z[7]? = some (.bool s.sak) := by rw [HZV.out]; rfl
  have k4 : w8.cell? ⟨b, 4, none⟩ = some (.int .i64 s.flg) := U8.out.now.1.1.2 4 _ Z4
  have k6 : w8.cell? ⟨s8, 6, none⟩ = some (.int .i64 s.mss) := c8 6 _ Z6
  have k7 : w8.cell? ⟨s8, 7, none⟩ = some (.bool s.sak) := c8 7 _ Z7
  have fz6 : w8.frozen? ⟨s8, 6, none⟩ = false := f8 6
  have fz7 : w8.frozen? ⟨s8, 7, none⟩ = false := f8 7
  obtain ⟨w9, hw9⟩ : ∃ w9, w9 = if s.flg / 2 % 2 = 0 then (w8.setCell ⟨s8, 6, none⟩ (.int .i64 0)).setCell ⟨s8, 7, none⟩ (.bool false) else w8 := ⟨_, rfl⟩
  have c9 : CellsAt w9 s8 0 (tolC s gv dv) := by
    rw [hw9]
    unfold tolC
    rw [← HZV.out]
    split
    · exact (c8.one (by rw [LZ.out]; decide) _).one (by rw [List.length_set, LZ.out]; decide) _
    · exact c8
  have bo9 : But (Only s8) w8 w9 := by
    rw [hw9]
    split
    · exact ((But.refl (Only s8) w8).cellb (b := s8) rfl 6 _).cellb (b := s8) rfl 7 _
    · exact But.refl _ _
  have b79 : Below w7.heap.size w7 w9 := b8.trans (bo9.below b8.size (fun g hg e => by have e : g = s8 := e; omega))
  obtain ⟨fl, hfl⟩ : ∃ fl, fl = s.flg := ⟨_, rfl⟩
  have HFL := hide hfl
  rw [← hfl] at k4 hw9 fl0 fl1
  have HW9 := hide hw9
  clear hu8 hw8 hs8 cu8 fu8 c8 f8 hw9 hfl Z4 Z6 Z7
  go_upto_region 7 with (first | refine wpList_loadA rfl 26 10 aggSg sizSg _ rfl b 0 rfl Z LZ.out C3.out ?_ | (refine wpList_storeA rfl 26 10 sizSg _ _ rfl s8 0 rfl Z zSC rfl LZ.out rfl CU8.out FU8.out OZ.out ?_; intro _; rw [hw8']))
  clear hu8' hw8' hs8' CU8 FU8 C3
  go_upto_if 49 with fail
  go_cut [] (fun wc => w9 = wc)
  case first =>
    by_cases h0 : fl / 2 % 2 = 0
    · have q0 : (fl / 2 % 2 == 0) = true := by simpa using h0
      have e9 : w9 = (w8.setCell ⟨s8, 6, none⟩ (.int .i64 0)).setCell ⟨s8, 7, none⟩ (.bool false) := by rw [HW9.out, if_pos h0]
      clear h0
      go_wp2
      go_meet
      case rel => rw [e9]
    · have q0 : (fl / 2 % 2 == 0) = false := by simpa using h0
      have e9 : w9 = w8 := by rw [HW9.out, if_neg h0]
      clear h0
      go_wp2
      go_meet
      case rel => rw [e9]
  case rest =>
    subst hcut
    clear k4 k6 k7 fz6 fz7 HC8 FZ HW9
    have B9 := hide (later B7.out b79)
    have U9 := hide (U7.out.next b79)
    have GX9 : Hid (Gro w4.heap.size w9 (.slice (some ⟨gx, 0, none⟩) N xc) L0) := GX7.out.later b79
    obtain ⟨T, hT⟩ : ∃ T, T = tolC s gv dv := ⟨_, rfl⟩
    have LT : Hid (T.length = 10) := by rw [hT, tolC_eq]; exact rfl
    have C9 : Hid (CellsAt w9 s8 0 T) := by rw [hT]; exact c9
    have C7 := hide U9.out.now.2
    have SM := SameT_true (P := fun g => w6.heap.size - w6.heap.size ≤ g) (Q := fun g => g < w.heap.size) (toldS s) ev fv gv dv w9 ((G7.out.later b79).own (fun g _ _ => by omega)) (by rw [(toldS_got s).1]; exact HS.out.got.later B9.out) (D7.out.later b79) (by rw [(toldS_got s).2]; exact HS.out.dat.later B9.out) (by rw [(toldS_got s).1]; have := H3.out; omega)
    rw [← HDV.out, ← tolC_eq, ← hT] at SM
    have HSM := hide SM
    clear SM hT c9 b79 B8 U8 bo9 U7 G7 D7 GX7 B7
    go_wp2_with (first | refine wpList_loadA rfl 26 10 aggSg sizSg _ rfl s7 0 rfl D LD.out C7.out ?_ | refine wpList_loadA rfl 26 10 aggSg sizSg _ rfl s8 0 rfl T LT.out C9.out ?_)
    refine HSM.out.mono ?_
    rintro _ w10 ⟨rfl, b10⟩
    have B10 := hide (later B9.out b10)
    have U10 := hide (U9.out.next b10)
    have GX10 : Hid (Gro w4.heap.size w10 (.slice (some ⟨gx, 0, none⟩) N xc) L0) := GX9.out.later b10
    clear b10 HSM C7 C9 U9 B9 GX9
    have zN : (N : Int) ≤ 1100 := by omega
    have zN8 : (20 : Int) ≤ (N : Int) := by omega
    by_cases h1 : bit < 0
    · go_wp2
      go_ret
      exact ⟨rfl, B10.out⟩
    by_cases h2 : 8 * (N : Int) ≤ bit
    · go_wp2
      go_ret
      exact ⟨rfl, B10.out⟩
    obtain ⟨q0, rfl⟩ := Int.eq_ofNat_of_zero_le (show 0 ≤ bit by omega)
    obtain ⟨k, hk⟩ : ∃ k, k = q0 / 8 := ⟨_, rfl⟩
    obtain ⟨j, hj⟩ : ∃ j, j = q0 % 8 := ⟨_, rfl⟩
    obtain ⟨m, hm⟩ : ∃ m, m = q0 % 32 := ⟨_, rfl⟩
    obtain ⟨i, hi⟩ : ∃ i, i = m / 8 := ⟨_, rfl⟩
    have hkN : k < N := by omega
    have hj8 : j < 8 := by omega
    have i4 : i < 4 := by omega
    have e1 : (q0 : Int) / 8 = (k : Int) := by omega
    have e2 : (q0 : Int) % 8 = (j : Int) := by omega
    have e3 : (q0 : Int) % 32 = (m : Int) := by omega
    have e4 : (m : Int) / 8 = (i : Int) := by omega
    have zb : (q0 : Int) < 8 * (N : Int) := by omega
    have HK := hide hk
    have HJ := hide hj
    clear hk hj hm hi h1 h2
    -- another segment
    have LD0 : Hid (([] : List Int).length + L0.length ≤ 140737488355328) := by unfold Hid; rw [← HN.out]; simp; omega
    have EL : Hid (([] : List Int) ++ L0 = L0) := rfl
    have GN : Hid (Gro w10.heap.size w10 (.slice none 0 0) []) := Gro.nil _ _
    have NN : Hid (w10.heap.size ≤ w10.heap.size) := Nat.le_refl _
    have IX := hide GX10.out.isB
    go_wp2_with (at_builtin; refine wpList_growB rfl (.const (.slice none 0 0)) (.tmp 70) rfl rfl w10.heap.size (.slice none 0 0) _ [] L0 rfl rfl GN.out IX.out NN.out LD0.out L0 EL.out ?_)
    intro a11 k11 w11 _ g11 b11
    rw [← HN.out] at g11 ⊢
    obtain ⟨gy, rfl, hgy, hcy, hfy⟩ := g11.block (by rw [← HN.out]; omega)
    have cy0 := hcy k (by rw [← HN.out]; exact hkN)
    have fy := hfy k
    obtain ⟨xk, hxk⟩ : ∃ xk, xk = nb L0 k := ⟨_, rfl⟩
    have cy : w11.cell? ⟨gy, k, none⟩ = some (.int .u8 xk) := by rw [hxk]; exact cy0
    clear cy0
    obtain ⟨nv, hnv⟩ : ∃ nv, nv = bits BinOp.xor IntKind.u8 xk (2 ^ j % 256) := ⟨_, rfl⟩
    obtain ⟨_, n0, n1⟩ := xor_bit' xk j (by rw [hxk]; exact (nb_bd By.out k).1) (by rw [hxk]; exact (nb_bd By.out k).2) hj8
    rw [← hnv] at n0 n1
    obtain ⟨w12, hw12⟩ : ∃ w12, w12 = w11.setCell ⟨gy, k, none⟩ (.int .u8 nv) := ⟨_, rfl⟩
    obtain ⟨L, hL⟩ : ∃ L, L = L0.set k nv := ⟨_, rfl⟩
    have g12 : Gro w10.heap.size w12 (.slice (some ⟨gy, 0, none⟩) N k11) L := by rw [hw12, hL]; exact g11.store HN.out k _
    have BL : Bytes L := by rw [hL]; exact By.out.set k _ n0 n1
    have lL : L.length = N := by rw [hL, List.length_set, HN.out]
    have bo12 : But (Only gy) w11 w12 := by rw [hw12]; exact (But.refl (Only gy) w11).cellb (b := gy) rfl k _
    have b1012 : Below w10.heap.size w10 w12 := b11.trans (bo12.below b11.size (fun g hg e => by have e : g = gy := e; omega))
    have B12 := hide (later B10.out b1012)
    have U12 := hide (U10.out.next b1012)
    have GX12 : Hid (Gro w4.heap.size w12 (.slice (some ⟨gx, 0, none⟩) N xc) L0) := GX10.out.later b1012
    have TN : Hid (tdE x y L ≠ 0) := by
      unfold Hid
      rw [hL, hnv, hxk]
      exact td_turn XO.out YO.out By.out TD.out (k := k) (j := j) (by rw [← HN.out]; exact hkN) hj8
    have D12 := tDec_any x y XO.out YO.out (.slice (some ⟨gy, 0, none⟩) N k11) L w12 g12.isB BL (by rw [lL]; omega)
    rw [XV.out.1, XV.out.2.1] at D12
    obtain ⟨h, hh⟩ : ∃ h, h = tdE x y L := ⟨_, rfl⟩
    obtain ⟨s12, hs12⟩ : ∃ s12, s12 = tdS x y L := ⟨_, rfl⟩
    rw [← hh] at TN
    rw [← hh, ← hs12] at D12
    have HD12 := hide D12
    have C1 := hide U12.out.now.1.1.1.1
    have C2 := hide U12.out.now.1.1.1.2
    have hw12' := hw12.symm
    rw [hnv] at hw12'
    have zk : (k : Int) < (N : Int) := by omega
    clear g11 b11 hgy hcy hfy hxk hw12 hL g12 BL lL bo12 b1012 D12 hs12 hh LD0 EL GN NN hnv n0 n1 U10 IX GX10 B10
    go_upto_region 17 with fail
    clear cy fy hw12'
    go_wp2_with (first | refine wpList_loadA rfl 35 4 aggI sizI _ rfl s1 0 rfl X LX.out C1.out ?_ | refine wpList_loadA rfl 35 4 aggI sizI _ rfl s2 0 rfl Y LY.out C2.out ?_)
    refine HD12.out.mono ?_
    rintro _ w13 ⟨ga3, da3, rfl, g13, d13, b13⟩
    obtain ⟨D3, hD3⟩ : ∃ D, D = s12.cells ga3 da3 := ⟨_, rfl⟩
    have LD3 : Hid (D3.length = 10) := by rw [hD3]; exact rfl
    have OD3 : Hid (∀ u ∈ D3, u.oneCell' = true) := by
      obtain ⟨ga, gc, eg⟩ := g13.shape
      obtain ⟨da, dc, ed, _⟩ := d13.isB.shape
      rw [hD3, eg, ed]
      exact sg_one _ _ _ rfl rfl
    rw [← hD3]
    obtain ⟨u14, w14, hu14, hw14, cu14, fu14, c14, b14, l14, _⟩ := newS w13 D3 LD3.out
    obtain ⟨s14, hs14⟩ : ∃ s14, s14 = w13.heap.size := ⟨_, rfl⟩
    rw [← hs14] at hw14 cu14 fu14 c14 l14
    have B14 := hide (later (later B12.out b13) b14)
    have U14 := hide ((U12.out.next b13).next b14)
    have GX14 : Hid (Gro w4.heap.size w14 (.slice (some ⟨gx, 0, none⟩) N xc) L0) := (GX12.out.later b13).later b14
    have CU14 := hide cu14
    have FU14 := hide fu14
    have hu14' := hu14.symm
    simp only [zSC, zSg, Sg.cells] at hu14'
    have hw14' := hw14.symm
    have hs14' := hs14.symm
    clear hu14 hw14 hs14 cu14 fu14 c14 b13 b14 l14 g13 d13 HD12 U12 C1 C2 hD3 GX12 B12
    go_upto_region 18 with (refine wpList_storeA rfl 26 10 sizSg _ _ rfl s14 0 rfl D3 zSC rfl LD3.out rfl CU14.out FU14.out OD3.out ?_; intro _; rw [hw14'])
    clear hu14' hw14' hs14' CU14 FU14
    -- another address
    obtain ⟨v, hv⟩ : ∃ v, v = bits BinOp.xor IntKind.u8 (y.at i) (2 ^ j % 256) := ⟨_, rfl⟩
    obtain ⟨_, v0, v1⟩ := xor_bit' (y.at i) j (I4.at_bd YO.out i).1 (I4.at_bd YO.out i).2 hj8
    rw [← hv] at v0 v1
    obtain ⟨z8, w15, hz8, hw8, cz8, fz8, c8, b8, l8⟩ := newI w14 Y LY.out
    obtain ⟨s3, hs3⟩ : ∃ s3, s3 = w14.heap.size := ⟨_, rfl⟩
    rw [← hs3] at hw8 cz8 fz8 c8 l8
    have f8 : w15.frozen? ⟨s3, i, none⟩ = false := by rw [hw8, World.frozen?_setCells]; exact fz8 i
    have x8 : w15.cell? ⟨s3, i, none⟩ = some (.int .u8 (y.at i)) := by
      have h := c8 i (.int .u8 (y.at i)) (by rw [HYV.out]; exact vals_at y i4)
      rw [Nat.zero_add] at h
      exact h
    obtain ⟨w16, hw16⟩ : ∃ w16, w16 = w15.setCell ⟨s3, i, none⟩ (.int .u8 v) := ⟨_, rfl⟩
    have bo16 : But (Only s3) w15 w16 := by rw [hw16]; exact (But.refl (Only s3) w15).cellb (b := s3) rfl i _
    have C2 := hide U14.out.now.1.1.1.2
    have CU := hide cz8
    have FU := hide fz8
    obtain ⟨Y9, hY9⟩ : ∃ Y9, Y9 = (y.put i v).vals := ⟨_, rfl⟩
    have LY9 : Hid (Y9.length = 4) := by rw [hY9]; exact rfl
    have c16 : CellsAt w16 s3 0 Y9 := by
      rw [hY9, vals_put y i4, hw16, ← HYV.out]
      exact c8.one (by rw [LY.out]; exact i4) _
    have B9a : Below w14.heap.size w14 w16 := b8.trans (bo16.below b8.size (fun g hg e => by have e : g = s3 := e; omega))
    have B16 := hide (later B14.out B9a)
    have U16 := hide (U14.out.next B9a)
    have C16 := hide c16
    have C1 := hide U16.out.now.1.1.1.1
    have GX16 : Hid (Gro w4.heap.size w16 (.slice (some ⟨gx, 0, none⟩) N xc) L0) := GX14.out.later B9a
    have D9 := tDec_any x (y.put i v) XO.out (I4.put_ok YO.out i v0 v1) (.slice (some ⟨gx, 0, none⟩) N xc) L0 w16 GX16.out.isB By.out (by rw [← HN.out]; omega)
    have ER : tdE x (y.put i v) L0 = 5 := by rw [hv]; exact td_other XO.out YO.out By.out TD.out i4 hj8
    rw [ER, XV.out.1, show (y.put i v).val = .agg Y9.toArray from by rw [hY9]; rfl] at D9
    obtain ⟨s19, hs19⟩ : ∃ s19, s19 = tdS x (y.put i v) L0 := ⟨_, rfl⟩
    rw [← hs19] at D9
    have HD9 := hide D9
    have hz8' := hz8.symm
    simp only [zI, I4.vals] at hz8'
    have hw8' := hw8.symm
    have hs3' := hs3.symm
    have hw16' := hw16.symm
    rw [hv] at hw16'
    have zi : (i : Int) < 4 := by omega
    clear hz8 hw8 hs3 cz8 fz8 c8 b8 bo16 c16 B9a D9 hY9 ER hs19 hw16 hv v0 v1 U14 GX14 B14 GX16
    go_upto_region 19 with (first | refine wpList_loadA rfl 35 4 aggI sizI _ rfl s2 0 rfl Y LY.out C2.out ?_ | (refine wpList_storeA rfl 35 4 sizI _ _ rfl s3 0 rfl Y zI.vals rfl LY.out rfl CU.out FU.out OY.out ?_; intro _; rw [hw8']))
    clear hz8' hw8' hs3' CU FU C2
    go_upto_region 20 with fail
    clear x8 f8 hw16'
    go_wp2_with (first | refine wpList_loadA rfl 35 4 aggI sizI _ rfl s3 0 rfl Y9 LY9.out C16.out ?_ | refine wpList_loadA rfl 35 4 aggI sizI _ rfl s1 0 rfl X LX.out C1.out ?_)
    refine HD9.out.mono ?_
    rintro _ w17 ⟨ga4, da4, rfl, g17, d17, b17⟩
    obtain ⟨D4, hD4⟩ : ∃ D, D = s19.cells ga4 da4 := ⟨_, rfl⟩
    have LD4 : Hid (D4.length = 10) := by rw [hD4]; exact rfl
    have OD4 : Hid (∀ u ∈ D4, u.oneCell' = true) := by
      obtain ⟨ga, gc, eg⟩ := g17.shape
      obtain ⟨da, dc, ed, _⟩ := d17.isB.shape
      rw [hD4, eg, ed]
      exact sg_one _ _ _ rfl rfl
    rw [← hD4]
    obtain ⟨u18, w18, hu18, hw18, cu18, fu18, c18, b18, l18, _⟩ := newS w17 D4 LD4.out
    obtain ⟨s18, hs18⟩ : ∃ s18, s18 = w17.heap.size := ⟨_, rfl⟩
    rw [← hs18] at hw18 cu18 fu18 c18 l18
    have B18 := hide (later (later B16.out b17) b18)
    have CU18 := hide cu18
    have FU18 := hide fu18
    have hu18' := hu18.symm
    simp only [zSC, zSg, Sg.cells] at hu18'
    have hw18' := hw18.symm
    have hs18' := hs18.symm
    clear hu18 hw18 hs18 cu18 fu18 c18 b17 b18 l18 g17 d17 HD9 U16 C1 C16 hD4 B16
    go_upto_region 21 with (refine wpList_storeA rfl 26 10 sizSg _ _ rfl s18 0 rfl D4 zSC rfl LD4.out rfl CU18.out FU18.out OD4.out ?_; intro _; rw [hw18'])
    clear hu18' hw18' hs18' CU18 FU18
    have q0' : (h != 0) = true := by simpa using TN.out
    go_wp2
    go_ret
    exact ⟨rfl, B18.out⟩
end Go.Proofs.Ytifoiodehejenaa
