
/-
  TcpUnknown: the walk.
-/
import Derived.Test.YtifoiodehejenabD26
namespace Go.Proofs.Ytifoiodehejenab
open Go.RowKit Go.Shelf

set_option maxRecDepth 100000 in
set_option maxHeartbeats 16000000 in
theorem tUnknown_walk (x y : I4) (s : Sg) (gv dv : Value) (kind size : Int) (w : World) (hx : x.Ok) (hy : y.Ok) (hs : SgIn w s gv dv) (k0 : 0 ≤ kind) (k1 : kind ≤ 255) (_ : -9223372036854775808 ≤ size) (_ : size ≤ 9223372036854775807) :
    Calls Try.prog 4 #[x.val, y.val, .agg (s.cells gv dv).toArray, .int .u8 kind, .int .i64 size] w fun e w' => e = .returned (.bool true) ∧ Below w.heap.size w w' := by
  obtain ⟨w1, w2, s1, s2, hs1, hw1, hs2, hw2, c1, c2, b2, l1, l2, _⟩ := twoI w x y
  obtain ⟨w3, b, hsb, hwb, c3, f3, b3, l3⟩ := boxS w2 s gv dv
  obtain ⟨X, hX⟩ : ∃ X, X = x.vals := ⟨_, rfl⟩
  obtain ⟨Y, hY⟩ : ∃ Y, Y = y.vals := ⟨_, rfl⟩
  obtain ⟨Z, hZ⟩ : ∃ Z, Z = s.cells gv dv := ⟨_, rfl⟩
  have LX : Hid (X.length = 4) := by rw [hX]; exact rfl
  have LY : Hid (Y.length = 4) := by rw [hY]; exact rfl
  have LZ : Hid (Z.length = 10) := by rw [hZ]; exact rfl
  rw [← hX] at c1
  rw [← hY] at c2
  have XV : Hid (x.val = .agg X.toArray ∧ y.val = .agg Y.toArray ∧ Value.agg (s.cells gv dv).toArray = .agg Z.toArray) := by rw [hX, hY, hZ]; exact ⟨rfl, rfl, rfl⟩
  have XO := hide hx
  have YO := hide hy
  have HS := hide hs
  have B3 := hide (later b2 b3)
  have HYV := hide hY
  have U3 : Hid (Up w3 (fun W => (CellsAt W s1 0 X ∧ CellsAt W s2 0 Y) ∧ CellsAt W b 0 Z)) := (((c1.up l1).and (c2.up l2)).next b3).and (by rw [hZ]; exact c3.up l3)
  have HZV := hide hZ
  rw [show (Value.agg (s.cells gv dv).toArray) = .agg #[.int .i64 s.src, .int .i64 s.dst, .int .u32 s.seq, .int .u32 s.ack, .int .i64 s.flg, .int .i64 s.wnd, .int .i64 s.mss, .bool s.sak, gv, dv] from rfl]
  rw [show x.val = .agg #[.int .u8 x.a, .int .u8 x.b, .int .u8 x.c, .int .u8 x.d] from rfl, show y.val = .agg #[.int .u8 y.a, .int .u8 y.b, .int .u8 y.c, .int .u8 y.d] from rfl]
  have hs1' := hs1.symm
  have hs2' := hs2.symm
  have hw1' := hw1.symm
  have hw2' := hw2.symm
  have hsb' := hsb.symm
  have hwb' := hwb.symm
  clear c1 c2 b2 c3 f3 b3 hs1 hs2 hw1 hw2 hsb hwb hX hY hZ hx hy hs
  go_enter Try.func4, Try.ntmps4
  go_upto_region 1 with fail
  clear hs1' hs2' hw1' hw2' hsb' hwb'
  go_wp2_with fail
  refine (tAwake_any w3).mono ?_
  rintro _ w4 ⟨rfl, b4⟩
  have B4 := hide (later B3.out b4)
  have U4 := hide (U3.out.next b4)
  have EN := tEnc_any (P := fun g => g < w.heap.size) x y XO.out YO.out s HS.out.ok gv dv w4 (HS.out.got.later B4.out) (HS.out.dat.later B4.out)
  rw [XV.out.1, XV.out.2.1, XV.out.2.2] at EN
  obtain ⟨E, hE⟩ : ∃ E, E = teE s := ⟨_, rfl⟩
  rw [← hE] at EN
  have HEN := hide EN
  have HE := hide hE
  have C1 := hide U4.out.now.1.1
  have C2 := hide U4.out.now.1.2
  have C3 := hide U4.out.now.2
  clear b4 U3 EN hE B3
  go_wp2_with (first | refine wpList_loadA rfl 34 4 aggI sizI _ rfl s1 0 rfl X LX.out C1.out ?_ | refine wpList_loadA rfl 34 4 aggI sizI _ rfl s2 0 rfl Y LY.out C2.out ?_ | refine wpList_loadA rfl 26 10 aggSg sizSg _ rfl b 0 rfl Z LZ.out C3.out ?_)
  refine HEN.out.mono ?_
  rintro _ w5 ⟨xv, rfl, g5, b5⟩
  have B5 := hide (later B4.out b5)
  by_cases hE0 : E = 0
  case neg =>
    have qE : (E != 0) = true := by simpa using hE0
    obtain ⟨a3, k3, rfl, _⟩ := g5.isB.shape
    clear g5 hE0 b5 HEN
    go_wp2
    go_ret
    exact ⟨rfl, B5.out⟩
  subst hE0
  have TE : Hid (teE s = 0) := HE.out.symm
  have eB : teB x y s = tsB x y s := by unfold teB; rw [if_pos TE.out]
  rw [eB] at g5
  obtain ⟨dl, mb⟩ := teE_zero TE.out
  obtain ⟨_, _, ⟨fl0, fl1⟩, _, _, h3⟩ := mbS_true mb
  obtain ⟨tb1, tb2⟩ := t_back XO.out YO.out HS.out.ok TE.out
  obtain ⟨l35, l4⟩ := otB_len s h3
  have lB := tsB_len x y s
  have By0 := tsB_bytes (x := x) (y := y) HS.out.ok h3
  obtain ⟨L0, hL0⟩ : ∃ L0, L0 = tsB x y s := ⟨_, rfl⟩
  have HL0 := hide hL0
  rw [← hL0] at g5 tb1 tb2 lB By0
  obtain ⟨N, hN⟩ : ∃ N, N = L0.length := ⟨_, rfl⟩
  have HN := hide hN
  have zN1 : N ≤ 1100 := by omega
  have zN2 : 20 ≤ N := by omega
  obtain ⟨gx, xc, rfl, hgx, lgx, hcx, cells5, fz5⟩ := g5.cells (by omega)
  rw [← hN] at g5 hcx ⊢
  have By := hide By0
  have TD := hide tb1
  have TS := hide tb2
  have H3 := hide h3
  have U5 := hide ((U4.out.next b5).and g5.isB.up)
  have GX : Hid (Gro w4.heap.size w5 (.slice (some ⟨gx, 0, none⟩) N xc) L0) := g5
  obtain ⟨n, hn⟩ : ∃ n, n = (otB s).length := ⟨_, rfl⟩
  have n35 : n ≤ 35 := by rw [hn]; exact l35
  have n4 : n % 4 = 0 := by rw [hn]; exact l4
  have lN : N = 20 + n + s.dat.length := by rw [hN, lB, hn]
  have HNN := hide hn
  have DL := hide dl
  have HXC := hide hcx
  have LN := hide lN
  clear eB hL0 hN lB cells5 fz5 g5 b5 HEN hcx C1 C2 C3 By0 tb1 tb2 dl mb l35 l4 h3 U4 fl0 fl1 hn lN
  by_cases q1 : kind < 9
  · go_wp2
    go_ret
    exact ⟨rfl, B5.out⟩
  by_cases q2 : size < 2
  · go_wp2
    go_ret
    exact ⟨rfl, B5.out⟩
  by_cases q3 : 9 < size
  · go_wp2
    go_ret
    exact ⟨rfl, B5.out⟩
  obtain ⟨z, rfl⟩ := Int.eq_ofNat_of_zero_le (show 0 ≤ size by omega)
  have z2 : 2 ≤ z := by omega
  have z9 : z ≤ 9 := by omega
  -- an option
  obtain ⟨wm, hmk, gm, bm, lm⟩ := mkB w5 z (by omega)
  obtain ⟨go, hgo⟩ : ∃ go, go = w5.heap.size := ⟨_, rfl⟩
  rw [← hgo] at hmk gm
  obtain ⟨go', ego, _, cm, fm⟩ := gm.block (by rw [List.length_replicate]; omega)
  cases ego
  have cm0 : wm.cell? ⟨go, 0, none⟩ = some (.int .u8 0) := by rw [cm 0 (by rw [List.length_replicate]; omega)]; rw [List.getElem?_replicate, if_pos (by omega)]; rfl
  have cm1 : wm.cell? ⟨go, 1, none⟩ = some (.int .u8 0) := by rw [cm 1 (by rw [List.length_replicate]; omega)]; rw [List.getElem?_replicate, if_pos (by omega)]; rfl
  have fm0 := fm 0
  have fm1 := fm 1
  have HMK := hide hmk
  obtain ⟨w6, hw6⟩ : ∃ w6, w6 = wm.setCell ⟨go, 0, none⟩ (.int .u8 kind) := ⟨_, rfl⟩
  have c61 : w6.cell? ⟨go, 1, none⟩ = some (.int .u8 0) := by rw [hw6, setCell_out (by simp)]; exact cm1
  have f61 : w6.frozen? ⟨go, 1, none⟩ = false := by rw [hw6, World.frozen?_setCell]; exact fm1
  obtain ⟨w7, hw7⟩ : ∃ w7, w7 = w6.setCell ⟨go, 1, none⟩ (.int .u8 (z : Int)) := ⟨_, rfl⟩
  have g7 : Gro w5.heap.size w7 (.slice (some ⟨go, 0, none⟩) z z) (unk kind z) := by
    have h := (gm.store (by simp) 0 kind).store (by simp) 1 (z : Int)
    rw [← hw6, ← hw7] at h
    rw [← hgo]
    rw [show unk kind z = ((List.replicate z (0 : Int)).set 0 kind).set 1 (z : Int) by
      obtain ⟨z', rfl⟩ : ∃ z', z = z' + 2 := ⟨z - 2, by omega⟩
      rfl]
    exact h
  have b57 : Below w5.heap.size w5 w7 := by
    rw [hw7, hw6]
    exact bm.trans (((But.refl (Only go) wm).cellb (b := go) rfl 0 _ |>.cellb (b := go) rfl 1 _).below bm.size (fun g hg e => by have e : g = go := e; omega))
  have G7 := hide g7
  have B7 : Hid (Below w5.heap.size w5 w7) := b57
  have hw6' := hw6.symm
  have hw7' := hw7.symm
  have zz1 : (1 : Int) < (z : Int) := by omega
  have Z2 := hide (And.intro z2 z9)
  clear hmk gm bm lm cm fm cm1 fm1 hw6 hw7 g7 b57 hgo z2
  go_upto_region 6 with (refine wpList_runV rfl (exec_mkB _ _ z _ rfl rfl rfl HMK.out) ?_)
  go_upto_region 7 with fail
  clear cm0 fm0 hw6'
  go_wp2_with fail
  clear c61 f61 hw7'
  go_loopw [14] (fun v14 wr => ∃ (L : List Int) (q : Nat) (a : Option Addr) (c : Nat), v14 = .slice a q c ∧ Hid (q = L.length) ∧ q ≤ 12 ∧ Hid (padT L = padT (unk kind z)) ∧ Hid (Gro w5.heap.size wr (.slice a q c) L) ∧ Hid (Below w5.heap.size w5 wr)) (fun v14 _ => match v14 with | .slice _ q _ => (4 - q % 4) % 4 | _ => 0)
  case atStart => exact ⟨unk kind z, z, some ⟨go, 0, none⟩, z, rfl, (unk_len Z2.out.1).symm, by have := Z2.out.2; omega, rfl, G7.out, B7.out⟩
  case round =>
    clear G7 B7
    obtain ⟨L, q, a3, c3, rfl, HQ, q12, EP, G3, B3⟩ := hrel
    have tm : (q : Int).tmod 4 = ((q % 4 : Nat) : Int) := by rw [Int.tmod_eq_emod_of_nonneg (by omega)]; omega
    obtain ⟨r, hr⟩ : ∃ r, r = q % 4 := ⟨_, rfl⟩
    rw [← hr] at tm
    by_cases h0 : r = 0
    · have EL : L = padT (unk kind z) := by rw [← EP.out, padT_end L (by rw [← HQ.out, ← hr]; exact h0)]
      subst h0
      have q4 : q % 4 = 0 := hr.symm
      have EL := hide EL
      have B8 := hide (later B5.out B3.out)
      have U8 := hide (U5.out.next B3.out)
      have GX8 : Hid (Gro w4.heap.size wr (.slice (some ⟨gx, 0, none⟩) N xc) L0) := GX.out.later B3.out
      have x12 : wr.cell? ⟨gx, 12, none⟩ = some (.int .u8 (((20 + n : Nat) : Int) / 4 * 16)) := by
        obtain ⟨g', e', _, hc', _⟩ := GX8.out.block (by rw [← HN.out]; omega)
        cases e'
        rw [hc' 12 (by rw [← HN.out]; omega), HL0.out, tsB_form TE.out, ← HNN.out]
        rfl
      obtain ⟨hq, hhq⟩ : ∃ hq, hq = ((20 + n : Nat) : Int) / 4 := ⟨_, rfl⟩
      rw [← hhq] at x12
      have hq0 : 5 ≤ hq ∧ hq ≤ 13 := by omega
      have hq4 : 4 * hq = 20 + (n : Int) := by omega
      have HHQ := hide hhq
      have Q4 := hide q4
      have R0 := hide hr
      have HQ4 := hide hq4
      have zN : (20 : Int) ≤ (N : Int) := by omega
      have zN2' : (N : Int) ≤ 1100 := by omega
      have e16 : hq * 16 / 16 = hq := by omega
      clear hr hhq EP q4 hq4
      go_upto_region 11 with fail
      by_cases h60 : 60 < hq * 4 + (q : Int)
      · go_wp2
        go_ret
        exact ⟨rfl, B8.out⟩
      -- with the option ahead of its own
      obtain ⟨q5, hq5⟩ : ∃ q5 : Int, q5 = (q : Int) / 4 := ⟨_, rfl⟩
      have e17 : (q : Int) / 4 = q5 := hq5.symm
      have q50 : 0 ≤ q5 ∧ hq + q5 ≤ 15 := by have := Q4.out; omega
      have V12 : Hid ((hq + q5) * 16 = ((20 + (n + q) : Nat) : Int) / 4 * 16) := by unfold Hid; have := Q4.out; have := HQ4.out; omega
      obtain ⟨O, hO⟩ : ∃ O, O = padT (unk kind z) := ⟨_, rfl⟩
      have HO := hide hO
      have LO : Hid (O.length = q) := by rw [hO, ← EL.out, ← HQ.out]; exact rfl
      have OO : Hid (Bytes O) := by rw [hO]; exact unk_bytes k0 k1 Z2.out.2
      have G8 : Hid (Gro w5.heap.size wr (.slice a3 q c3) O) := by rw [hO, ← EL.out]; exact G3.out
      obtain ⟨T, hT⟩ : ∃ T, T = L0.take 20 := ⟨_, rfl⟩
      obtain ⟨R, hR⟩ : ∃ R, R = L0.drop 20 := ⟨_, rfl⟩
      have LT : Hid (T.length = 20) := by rw [hT, List.length_take, ← HN.out]; unfold Hid; omega
      have LR : Hid (R.length = N - 20) := by rw [hR, List.length_drop, ← HN.out]; exact rfl
      have HT := hide hT
      have HR := hide hR
      obtain ⟨AD, hAD⟩ : ∃ AD, AD = (if xc = 20 then some (⟨gx, 0, none⟩ : Addr) else some ⟨gx, 0 + 20, none⟩) := ⟨_, rfl⟩
      have HAD := hide hAD
      have IT : Hid (IsB wr.heap.size wr (.slice (some ⟨gx, 0, none⟩) 20 xc) T) := by rw [hT]; exact GX8.out.isB.take 20 (by rw [← HN.out]; omega)
      have IR : Hid (IsB wr.heap.size wr (.slice AD (N - 20) (xc - 20)) R) := by
        have h := GX8.out.isB.drop 20 (by rw [← HN.out]; omega)
        rw [drop_addrT] at h
        rw [hR, hAD]
        exact h
      have zO : q ≤ 12 := q12
      have GN : Hid (Gro wr.heap.size wr (.slice none 0 0) []) := Gro.nil _ _
      have ET : Hid (([] : List Int) ++ T = T) := rfl
      have LL1 : Hid (([] : List Int).length + T.length ≤ 140737488355328) := by unfold Hid; rw [LT.out]; simp
      have NN : Hid (wr.heap.size ≤ wr.heap.size) := Nat.le_refl _
      have E20 : Hid (20 ≤ xc) := by have := HXC.out; unfold Hid; omega
      have E20N : Hid (20 ≤ N) := zN2
      clear hO hT hR hAD G3 EL x12 e16
      go_upto_region 14 with (first | (refine wpList_runV rfl (exec_slU _ _ (some ⟨gx, 0, none⟩) N xc 20 rfl rfl rfl E20.out) ?_) | (at_builtin; refine wpList_growB rfl _ _ rfl rfl wr.heap.size (.slice none 0 0) _ [] T rfl rfl GN.out IT.out NN.out LL1.out T ET.out ?_; intro a13 c13 w13 _ g13 b13; rw [LT.out] at g13 ⊢; have G13 := hide g13; have B13 := hide b13; clear g13 b13))
      have IO : Hid (IsB w13.heap.size w13 (.slice a3 q c3) O) := (G8.out.later B13.out).isB
      have Z13 : Hid (wr.heap.size ≤ w13.heap.size) := B13.out.size
      have LL2 : Hid (T.length + O.length ≤ 140737488355328) := by unfold Hid; rw [LT.out, LO.out]; omega
      obtain ⟨TO, hTO⟩ : ∃ TO, T ++ O = TO := ⟨_, rfl⟩
      have HTO := hide hTO
      have LTO : Hid (TO.length = 20 + q) := by rw [← hTO, List.length_append, LT.out, LO.out]; exact rfl
      clear hTO
      go_upto_region 15 with (at_builtin; refine wpList_growB rfl _ _ rfl rfl wr.heap.size (.slice a13 20 c13) _ T O rfl rfl G13.out IO.out Z13.out LL2.out TO HTO.out ?_; intro a14 c14 w14 _ g14 b14; rw [LTO.out] at g14 ⊢; have G14 := hide g14; have B14 := hide (B13.out.trans b14); clear g14 b14)
      have IR2 : Hid (IsB w14.heap.size w14 (.slice AD (N - 20) (xc - 20)) R) := IR.out.later B14.out
      have Z14 : Hid (wr.heap.size ≤ w14.heap.size) := B14.out.size
      have LL3 : Hid (TO.length + R.length ≤ 140737488355328) := by unfold Hid; rw [LTO.out, LR.out]; omega
      obtain ⟨Y0, hY0⟩ : ∃ Y0, TO ++ R = Y0 := ⟨_, rfl⟩
      have HY0 := hide hY0
      obtain ⟨M, hM⟩ : ∃ M, M = N + q := ⟨_, rfl⟩
      have LY0 : Hid (Y0.length = M) := by rw [← hY0, List.length_append, LTO.out, LR.out]; unfold Hid; omega
      have HMM := hide hM
      clear hY0 hM
      go_upto_region 16 with (first | (refine wpList_runV rfl (exec_slV _ _ gx 0 N xc 20 AD HAD.out rfl rfl rfl E20N.out) ?_) | (at_builtin; refine wpList_growB rfl _ _ rfl rfl wr.heap.size (.slice a14 (20 + q) c14) _ TO R rfl rfl G14.out IR2.out Z14.out LL3.out Y0 HY0.out ?_; intro a15 c15 w15 _ g15 b15; rw [LY0.out] at g15 ⊢; have G15 := hide g15; have B15 := hide (B14.out.trans b15); clear g15 b15))
      obtain ⟨gy, rfl, hgy, hc15, hf15⟩ := G15.out.block (by rw [LY0.out]; have := HMM.out; omega)
      have zM : (20 : Int) ≤ (M : Int) := by have := HMM.out; omega
      obtain ⟨o12, ho12⟩ : ∃ o12, o12 = nb Y0 12 := ⟨_, rfl⟩
      have c12 : w15.cell? ⟨gy, 12, none⟩ = some (.int .u8 o12) := by rw [ho12]; exact hc15 12 (by rw [LY0.out]; have := HMM.out; omega)
      have f12 := hf15 12
      obtain ⟨wB, hwB⟩ : ∃ wB, wB = w15.setCell ⟨gy, 12, none⟩ (.int .u8 ((hq + q5) * 16)) := ⟨_, rfl⟩
      have gB : Gro wr.heap.size wB (.slice (some ⟨gy, 0, none⟩) M c15) (Y0.set 12 ((hq + q5) * 16)) := by rw [hwB]; exact G15.out.store LY0.out.symm 12 _
      obtain ⟨_, eB, _, hcB, hfB⟩ := gB.block (by rw [List.length_set, LY0.out]; have := HMM.out; omega)
      cases eB
      obtain ⟨o16, ho16⟩ : ∃ o, o = nb (Y0.set 12 ((hq + q5) * 16)) 16 := ⟨_, rfl⟩
      have c16 : wB.cell? ⟨gy, 16, none⟩ = some (.int .u8 o16) := by rw [ho16]; exact hcB 16 (by rw [List.length_set, LY0.out]; have := HMM.out; omega)
      have f16 := hfB 16
      obtain ⟨wC, hwC⟩ : ∃ wC, wC = wB.setCell ⟨gy, 16, none⟩ (.int .u8 0) := ⟨_, rfl⟩
      have gC : Gro wr.heap.size wC (.slice (some ⟨gy, 0, none⟩) M c15) ((Y0.set 12 ((hq + q5) * 16)).set 16 0) := by rw [hwC]; exact gB.store (by rw [List.length_set]; exact LY0.out.symm) 16 _
      obtain ⟨_, eC, _, hcC, hfC⟩ := gC.block (by rw [List.length_set, List.length_set, LY0.out]; have := HMM.out; omega)
      cases eC
      obtain ⟨o17, ho17⟩ : ∃ o, o = nb ((Y0.set 12 ((hq + q5) * 16)).set 16 0) 17 := ⟨_, rfl⟩
      have c17 : wC.cell? ⟨gy, 17, none⟩ = some (.int .u8 o17) := by rw [ho17]; exact hcC 17 (by rw [List.length_set, List.length_set, LY0.out]; have := HMM.out; omega)
      have f17 := hfC 17
      obtain ⟨wD, hwD⟩ : ∃ wD, wD = wC.setCell ⟨gy, 17, none⟩ (.int .u8 0) := ⟨_, rfl⟩
      obtain ⟨YD, hYD⟩ : ∃ YD, YD = ((Y0.set 12 ((hq + q5) * 16)).set 16 0).set 17 0 := ⟨_, rfl⟩
      have gD : Gro wr.heap.size wD (.slice (some ⟨gy, 0, none⟩) M c15) YD := by rw [hwD, hYD]; exact gC.store (by rw [List.length_set, List.length_set]; exact LY0.out.symm) 17 _
      have LYD : Hid (YD.length = M) := by rw [hYD, List.length_set, List.length_set, List.length_set]; exact LY0.out
      have bD : Below wr.heap.size wr wD := B15.out.trans (by
        rw [hwD, hwC, hwB]
        exact ((((But.refl (Only gy) w15).cellb (b := gy) rfl 12 _).cellb (b := gy) rfl 16 _).cellb (b := gy) rfl 17 _).below B15.out.size (fun g hg e => by have e : g = gy := e; omega))
      obtain ⟨rst, hrst⟩ : ∃ rst, rst = O ++ (otB s ++ s.dat) := ⟨_, rfl⟩
      have EB0 := tsB_form (x := x) (y := y) TE.out
      rw [← HL0.out, ← HNN.out] at EB0
      have EY0 : Y0 = hdL s n (tsm x y s / 256 % 256) (tsm x y s % 256) ++ rst := by
        rw [← HY0.out, ← HTO.out, HT.out, HR.out, EB0, hrst]
        rfl
      have EYD : YD = hdL s (n + q) 0 0 ++ rst := by
        rw [hYD, EY0, V12.out]
        rfl
      have BR : Bytes rst := by
        rw [hrst]
        refine OO.out.append ?_
        have h := By.out
        rw [EB0] at h
        exact fun v hv => h v (List.mem_append_right _ hv)
      have BH : ∀ a b : Int, 0 ≤ a → a ≤ 255 → 0 ≤ b → b ≤ 255 → Bytes (hdL s (n + q) a b) := fun a b a0 a1 b0 b1 => by
        have h : Bytes (hdL s n 0 0) := by
          have h := By.out
          rw [EB0] at h
          have h2 : Bytes (hdL s n (tsm x y s / 256 % 256) (tsm x y s % 256)) := fun v hv => h v (List.mem_append_left _ hv)
          have h3 := (h2.set 16 0 (by decide) (by decide)).set 17 0 (by decide) (by decide)
          exact h3
        have h4 := ((h.set 12 ((hq + q5) * 16) (by omega) (by omega)).set 16 a a0 a1).set 17 b b0 b1
        rw [V12.out] at h4
        exact h4
      have BYD : Bytes YD := by rw [EYD]; exact (BH 0 0 (by decide) (by decide) (by decide) (by decide)).append BR
      obtain ⟨cs, hcs⟩ : ∃ cs, cs = csum (psB x y 6 (M : Int) ++ YD) := ⟨_, rfl⟩
      have cb : 0 ≤ cs ∧ cs ≤ 65535 := by rw [hcs]; exact csum_bd _
      have SU := rSumT_any x y XO.out YO.out (.slice (some ⟨gy, 0, none⟩) M c15) YD wD gD.isB BYD (by rw [LYD.out]; have := HMM.out; omega)
      rw [LYD.out, ← hcs, XV.out.1, XV.out.2.1] at SU
      have HSU := hide SU
      have U19 := hide (U8.out.next (bD.mono (Nat.le_refl _)))
      have BD := hide (later B8.out bD)
      have BDR := hide bD
      have C1 := hide U19.out.now.1.1.1
      have C2 := hide U19.out.now.1.1.2
      have GXD : Hid (Gro w4.heap.size wD (.slice (some ⟨gx, 0, none⟩) N xc) L0) := GX8.out.later bD
      have GD := hide gD
      have HCS := hide hcs
      have e18 : (hq * 4 + (q : Int)) / 4 = hq + q5 := by have := Q4.out; omega
      have hwB' : w15.setCell ⟨gy, 12, none⟩ (.int .u8 ((hq * 4 + (q : Int)) / 4 * 16)) = wB := by rw [e18]; exact hwB.symm
      clear e18
      have hwC' := hwC.symm
      have hwD' := hwD.symm
      have EYDH := hide EYD
      have BHH := hide BH
      have BRH := hide BR
      have HRST := hide hrst
      have YDH := hide BYD
      have HGY := hide hgy
      clear hgy hc15 hf15 ho12 hwB gB hcB hfB ho16 hwC gC hcC hfC ho17 hwD gD hYD bD EY0 EB0 EYD BR BH BYD hcs hrst SU
      go_upto_region 17 with fail
      clear c12 f12 hwB'
      go_upto_region 18 with fail
      clear c16 f16 hwC'
      go_upto_region 19 with fail
      clear c17 f17 hwD'
      go_wp2_with (first | refine wpList_loadA rfl 34 4 aggI sizI _ rfl s1 0 rfl X LX.out C1.out ?_ | refine wpList_loadA rfl 34 4 aggI sizI _ rfl s2 0 rfl Y LY.out C2.out ?_)
      refine HSU.out.mono ?_
      rintro _ wE ⟨rfl, bE⟩
      have BE := hide (later BD.out bE)
      have UE := hide (U19.out.next bE)
      have GXE : Hid (Gro w4.heap.size wE (.slice (some ⟨gx, 0, none⟩) N xc) L0) := GXD.out.later bE
      have GE := GD.out.later bE
      obtain ⟨_, eE, _, hcE, hfE⟩ := GE.block (by rw [LYD.out]; have := HMM.out; omega)
      cases eE
      obtain ⟨p16, hp16⟩ : ∃ o, o = nb YD 16 := ⟨_, rfl⟩
      have c16 : wE.cell? ⟨gy, 16, none⟩ = some (.int .u8 p16) := by rw [hp16]; exact hcE 16 (by rw [LYD.out]; have := HMM.out; omega)
      have f16 := hfE 16
      obtain ⟨wF, hwF⟩ : ∃ wF, wF = wE.setCell ⟨gy, 16, none⟩ (.int .u8 (cs / 256)) := ⟨_, rfl⟩
      have gF : Gro wr.heap.size wF (.slice (some ⟨gy, 0, none⟩) M c15) (YD.set 16 (cs / 256)) := by rw [hwF]; exact GE.store LYD.out.symm 16 _
      obtain ⟨_, eF, _, hcF, hfF⟩ := gF.block (by rw [List.length_set, LYD.out]; have := HMM.out; omega)
      cases eF
      obtain ⟨p17, hp17⟩ : ∃ o, o = nb (YD.set 16 (cs / 256)) 17 := ⟨_, rfl⟩
      have c17 : wF.cell? ⟨gy, 17, none⟩ = some (.int .u8 p17) := by rw [hp17]; exact hcF 17 (by rw [List.length_set, LYD.out]; have := HMM.out; omega)
      have f17 := hfF 17
      obtain ⟨wG, hwG⟩ : ∃ wG, wG = wF.setCell ⟨gy, 17, none⟩ (.int .u8 (cs % 256)) := ⟨_, rfl⟩
      obtain ⟨YF, hYF⟩ : ∃ YF, YF = (YD.set 16 (cs / 256)).set 17 (cs % 256) := ⟨_, rfl⟩
      have gG : Gro wr.heap.size wG (.slice (some ⟨gy, 0, none⟩) M c15) YF := by rw [hwG, hYF]; exact gF.store (by rw [List.length_set]; exact LYD.out.symm) 17 _
      have LYF : Hid (YF.length = M) := by rw [hYF, List.length_set, List.length_set]; exact LYD.out
      have bRG : Below wr.heap.size wr wG := (BDR.out.trans (bE.mono BDR.out.size)).trans (by
        rw [hwG, hwF]
        exact (((But.refl (Only gy) wE).cellb (b := gy) rfl 16 _).cellb (b := gy) rfl 17 _).below (Nat.le_trans BDR.out.size bE.size) (fun g hg e => by have e : g = gy := e; have := HGY.out; omega))
      have BG := hide (later B8.out bRG)
      have UG := hide (U8.out.next bRG)
      have GXG : Hid (Gro w4.heap.size wG (.slice (some ⟨gx, 0, none⟩) N xc) L0) := GX8.out.later bRG
      -- what is read of it
      have tF : tdE x y YF = 0 ∧ tdS x y YF = toldS s := by
        obtain ⟨_, _, _, _, hms, h3⟩ := mbS_true (teE_zero TE.out).2
        have EF : YF = hdL s (n + q) (cs / 256) (cs % 256) ++ rst := by rw [hYF, EYDH.out]; rfl
        refine t_form HS.out.ok TE.out (O := O ++ otB s) (n := n + q) (by rw [List.length_append, LO.out, ← HNN.out, Nat.add_comm]) (by have := Q4.out; omega) (by have := HQ4.out; omega) (B := YF) (by rw [EF, HRST.out, List.append_assoc]) ?_ (by rw [HO.out, rdO_unk (by omega) Z2.out.1 Z2.out.2]; exact rdO_back HS.out.ok hms h3)
        have e1 : YF = (hdL s (n + q) 0 0).take 16 ++ (put16 cs ++ ([0, 0] ++ rst)) := by
          have e3 : put16 cs = [cs / 256, cs % 256] := by unfold put16; rw [show cs / 256 % 256 = cs / 256 by omega]
          rw [EF, e3]
          rfl
        have e2 : YD = (hdL s (n + q) 0 0).take 16 ++ ([0, 0] ++ ([0, 0] ++ rst)) := by rw [EYDH.out]; rfl
        have BY1 := YDH.out
        rw [e2] at BY1
        have eM : (M : Int) = 20 + ((n + q : Nat) : Int) + (s.dat.length : Int) := by have := HMM.out; have := LN.out; omega
        rw [← eM, e1]
        refine sum_in (psB_bytes XO.out YO.out 6 _) (fun v hv => BY1 v (List.mem_append_left _ hv)) (fun v hv => BY1 v (List.mem_append_right _ (List.mem_append_right _ hv))) (by rw [psB_len]) (by rw [List.length_take, hdL_len]; decide) ?_
        rw [← e2]
        exact HCS.out
      have BYF : Bytes YF := by rw [hYF]; exact (YDH.out.set 16 _ (by omega) (by omega)).set 17 _ (by omega) (by omega)
      have D5 := tDec_any x y XO.out YO.out _ L0 wG GXG.out.isB By.out (by rw [← HN.out]; omega)
      rw [TD.out, TS.out, XV.out.1, XV.out.2.1] at D5
      have HD5 := hide D5
      have C1 := hide UG.out.now.1.1.1
      have C2 := hide UG.out.now.1.1.2
      have GG := hide gG
      have TF := hide tF
      have BYFH := hide BYF
      have hwF' := hwF.symm
      have hwG' := hwG.symm
      clear hcE hfE hp16 hwF gF hcF hfF hp17 hwG hYF gG tF BYF bRG D5 bE GE HSU GD BDR U19 UE GXE
      go_upto_region 21 with fail
      clear c16 f16 hwF'
      go_upto_region 22 with fail
      clear c17 f17 hwG'
      go_wp2_with (first | refine wpList_loadA rfl 34 4 aggI sizI _ rfl s1 0 rfl X LX.out C1.out ?_ | refine wpList_loadA rfl 34 4 aggI sizI _ rfl s2 0 rfl Y LY.out C2.out ?_)
      refine HD5.out.mono ?_
      rintro _ w16 ⟨ev, fv, rfl, g16, d16, b16⟩
      obtain ⟨D, hD⟩ : ∃ D, D = (toldS s).cells ev fv := ⟨_, rfl⟩
      have LD : Hid (D.length = 10) := by rw [hD]; exact rfl
      have OD : Hid (∀ u ∈ D, u.oneCell' = true) := by
        obtain ⟨ga, gc, eg⟩ := g16.shape
        obtain ⟨da, dc, ed, _⟩ := d16.isB.shape
        rw [hD, eg, ed]
        exact sg_one _ _ _ rfl rfl
      have HDV := hide hD
      rw [← hD]
      obtain ⟨u17, w17, hu17, hw17, cu17, fu17, c17, b17, l17, _⟩ := newS w16 D LD.out
      obtain ⟨s17, hs17⟩ : ∃ s17, s17 = w16.heap.size := ⟨_, rfl⟩
      rw [← hs17] at hw17 cu17 fu17 c17 l17
      have B17 := hide (later (later BG.out b16) b17)
      have bGG := later b16 b17
      have U17 := hide ((UG.out.next bGG).and (c17.up l17))
      have GG17 := hide (GG.out.later bGG)
      have G17 := hide (g16.later b17)
      have D17 := hide (d16.isB.later b17)
      have CU17 := hide cu17
      have FU17 := hide fu17
      have hu17' := hu17.symm
      simp only [zSC, zSg, Sg.cells] at hu17'
      have hw17' := hw17.symm
      have hs17' := hs17.symm
      have DY := tDec_any x y XO.out YO.out _ YF w17 GG17.out.isB BYFH.out (by rw [LYF.out]; have := HMM.out; omega)
      rw [TF.out.1, TF.out.2, XV.out.1, XV.out.2.1] at DY
      have HDY := hide DY
      have C1 := hide U17.out.now.1.1.1.1
      have C2 := hide U17.out.now.1.1.1.2
      clear hu17 hw17 hs17 cu17 fu17 c17 b16 b17 l17 g16 d16 HD5 UG hD bGG DY GG
      go_upto_region 23 with (refine wpList_storeA rfl 26 10 sizSg _ _ rfl s17 0 rfl D zSC rfl LD.out rfl CU17.out FU17.out OD.out ?_; intro _; rw [hw17'])
      clear hu17' hw17' hs17' CU17 FU17
      go_wp2_with (first | refine wpList_loadA rfl 34 4 aggI sizI _ rfl s1 0 rfl X LX.out C1.out ?_ | refine wpList_loadA rfl 34 4 aggI sizI _ rfl s2 0 rfl Y LY.out C2.out ?_)
      refine HDY.out.mono ?_
      rintro _ w18 ⟨ev2, fv2, rfl, g18, d18, b18⟩
      obtain ⟨D2, hD2⟩ : ∃ D, D = (toldS s).cells ev2 fv2 := ⟨_, rfl⟩
      have LD2 : Hid (D2.length = 10) := by rw [hD2]; exact rfl
      have OD2 : Hid (∀ u ∈ D2, u.oneCell' = true) := by
        obtain ⟨ga, gc, eg⟩ := g18.shape
        obtain ⟨da, dc, ed, _⟩ := d18.isB.shape
        rw [hD2, eg, ed]
        exact sg_one _ _ _ rfl rfl
      rw [← hD2]
      obtain ⟨u19, w19, hu19, hw19, cu19, fu19, c19, b19, l19, _⟩ := newS w18 D2 LD2.out
      obtain ⟨s19, hs19⟩ : ∃ s19, s19 = w18.heap.size := ⟨_, rfl⟩
      rw [← hs19] at hw19 cu19 fu19 c19 l19
      have B19 := hide (later (later B17.out b18) b19)
      have b1719 := later b18 b19
      have U19 := hide ((U17.out.next b1719).and (c19.up l19))
      have CU19 := hide cu19
      have FU19 := hide fu19
      have hu19' := hu19.symm
      simp only [zSC, zSg, Sg.cells] at hu19'
      have hw19' := hw19.symm
      have hs19' := hs19.symm
      have SM := SameT_true (P := fun _ => True) (Q := fun _ => True) (toldS s) ev fv ev2 fv2 w19 ((G17.out.later b1719).own (fun _ _ _ => trivial)) ((g18.later b19).own (fun _ _ _ => trivial)) (D17.out.later b1719) (d18.isB.later b19) (by
        obtain ⟨_, _, _, _, _, h3⟩ := mbS_true (teE_zero TE.out).2
        have e : (toldS s).got = s.got := by unfold toldS; split <;> rfl
        rw [e]; omega)
      rw [← HDV.out, ← hD2] at SM
      have HSM := hide SM
      have K17 := hide U19.out.now.1.2
      have K19 := hide U19.out.now.2
      clear hu19 hw19 hs19 cu19 fu19 c19 b18 b19 l19 g18 d18 HDY U17 hD2 b1719 SM G17 D17 GG17 C1 C2
      go_upto_region 24 with (refine wpList_storeA rfl 26 10 sizSg _ _ rfl s19 0 rfl D2 zSC rfl LD2.out rfl CU19.out FU19.out OD2.out ?_; intro _; rw [hw19'])
      clear hu19' hw19' hs19' CU19 FU19
      go_wp2_with (first | refine wpList_loadA rfl 26 10 aggSg sizSg _ rfl s17 0 rfl D LD.out K17.out ?_ | refine wpList_loadA rfl 26 10 aggSg sizSg _ rfl s19 0 rfl D2 LD2.out K19.out ?_)
      refine HSM.out.mono ?_
      rintro _ w20 ⟨rfl, b20⟩
      have B20 := hide (later B19.out b20)
      clear b20
      go_wp2
      go_ret
      exact ⟨rfl, B20.out⟩
    · have q0 : ((r : Int) != 0) = true := by simpa using h0
      obtain ⟨wk, hwk⟩ : ∃ wk, wk = wr := ⟨_, rfl⟩
      rw [← hwk] at G3 B3 ⊢
      obtain ⟨w6, s6, hs6, hw6, i6, b6⟩ := lit1 wk 1
      have I6 := hide i6
      have G4 := hide (G3.out.later b6)
      have B4' := hide (B3.out.trans (b6.mono B3.out.size))
      have Z4 : Hid (w5.heap.size ≤ w6.heap.size) := B4'.out.size
      obtain ⟨M, hM⟩ : ∃ M, L ++ [1] = M := ⟨_, rfl⟩
      have EM : Hid (padT M = padT (unk kind z)) := by unfold Hid; rw [← hM, padT_step L (by rw [← HQ.out, ← hr]; exact h0), EP.out]
      have LM : Hid (M.length = q + 1) := by unfold Hid; rw [← hM, List.length_append, ← HQ.out]; rfl
      have ME : Hid ((4 - (q + 1) % 4) % 4 < (4 - q % 4) % 4) := by unfold Hid; omega
      have HM := hide hM
      have LL : Hid (L.length + [(1 : Int)].length ≤ 140737488355328) := by have := HQ.out; simp [Hid]; omega
      have q42 : Hid (q + 1 ≤ 12) := by unfold Hid; omega
      have hs6' := hs6.symm
      have hw6' := hw6.symm
      clear hs6 hw6 i6 b6 hM h0 hwk
      go_wp2_with (at_builtin; refine wpList_growB rfl _ _ rfl rfl w5.heap.size (.slice a3 q c3) (.slice (some ⟨s6, 0, none⟩) 1 1) L [1] rfl rfl G4.out I6.out Z4.out LL.out M HM.out ?_)
      intro a5 c5 w9 _ g9 b9
      rw [LM.out] at g9 ⊢
      have G9 := hide g9
      have B9 := hide (B4'.out.trans b9)
      clear g9 b9 hs6' hw6'
      go_wp2
      go_roundw
      case rel => exact ⟨M, q + 1, a5, c5, rfl, LM.out.symm, q42.out, EM.out, G9.out, B9.out⟩
      case measure => exact ME.out
end Go.Proofs.Ytifoiodehejenab
