
/-
  The document's tcp: the options. The document's tcp: laid, Encode. The document's tcp: Encode.
-/
import Derived.Test.YtggadchhkenipaaDRow
import Derived.Test.YtggadchhkenipaaD26
namespace Go.Proofs.Ytggadchhkenipaa
open Go.RowKit Go.Shelf

set_option maxRecDepth 100000 in
set_option maxHeartbeats 8000000 in
theorem rOptions_any {P : Nat → Prop} (s : Sg) (gv dv : Value) (w : World) (ok : s.Ok) (hmm : 0 ≤ s.mss ∧ s.mss ≤ 65535) (h3 : s.got.length ≤ 3) (hg : CG P w gv s.got) : Calls Try.prog 53 #[.agg (s.cells gv dv).toArray] w fun e w' => ∃ v, e = .returned v ∧ Gro w.heap.size w' v (otB s) ∧ Below w.heap.size w w' := by
  obtain ⟨w1, b, hs, hw, c1, f1, b1, l1⟩ := boxS w s gv dv
  have hg1 := hg.later b1
  obtain ⟨ga, gc, rfl⟩ := hg.shape
  obtain ⟨n, hn⟩ : ∃ n, n = s.got.length := ⟨_, rfl⟩
  have HN := hide hn
  obtain ⟨O1, hO1⟩ : ∃ O, O = oM s := ⟨_, rfl⟩
  obtain ⟨O2, hO2⟩ : ∃ O, O = oS s := ⟨_, rfl⟩
  obtain ⟨O3, hO3⟩ : ∃ O, O = oG s := ⟨_, rfl⟩
  have E1 : Hid (O1 = if s.mss = 0 then [] else [2, 4] ++ put16 s.mss) := by rw [hO1]; exact rfl
  have E2 : Hid (O2 = if s.sak = true then O1 ++ [4, 2] else O1) := by rw [hO2, hO1]; exact rfl
  have E3 : Hid (O3 = if n = 0 then O2 else O2 ++ [5, ((2 + 8 * n : Nat) : Int)]) := by rw [hO3, hO2, hn]; exact rfl
  have L1 : Hid (O1.length ≤ 4) := by rw [hO1]; exact oM_len s
  have L2 : Hid (O2.length ≤ 6) := by rw [hO2]; exact oS_len s
  have L3 : Hid (O3.length ≤ 8) := by rw [hO3]; exact oG_len s
  have E0 : Hid (O3 = oL s 0) := by rw [hO3]; unfold oL; simp [Hid]
  have C1 : Hid (CellsAt w1 b 0 (s.cells (.slice ga s.got.length gc) dv)) := c1
  have G1 := hide hg1
  have OK := hide ok
  have B1 : Hid (Below w.heap.size w w1) := b1
  have k6 : w1.cell? ⟨b, 6, none⟩ = some (.int .i64 s.mss) := c1 6 _ rfl
  rw [← hn] at h3 C1 G1 hw ⊢
  rw [show (Value.agg (s.cells (.slice ga n gc) dv).toArray) = .agg #[.int .i64 s.src, .int .i64 s.dst, .int .u32 s.seq, .int .u32 s.ack, .int .i64 s.flg, .int .i64 s.wnd, .int .i64 s.mss, .bool s.sak, .slice ga n gc, dv] from rfl]
  have CW : Hid (∀ W, Below w1.heap.size w1 W → CellsAt W b 0 (s.cells (.slice ga n gc) dv)) := fun W hW => C1.out.later l1 hW
  have hs' := hs.symm
  have hw' := hw.symm
  clear hs hw c1 f1 b1 hg1 hg hn ok hO1 hO2 hO3 C1
  obtain ⟨ms, hms⟩ : ∃ ms, ms = s.mss := ⟨_, rfl⟩
  rw [← hms] at k6 E1 hmm
  have HMM := hide hmm
  have HMS := hide hms
  clear hms hmm
  go_enter Try.func53, Try.ntmps53
  go_upto_if 7 with fail
  clear hs' hw'
  go_cut [3] (fun v wc => ∃ a c, v = .slice a O1.length c ∧ Hid (Gro w1.heap.size wc (.slice a O1.length c) O1) ∧ Hid (Below w1.heap.size w1 wc))
  case first =>
    by_cases e0 : ms = 0
    · have z0 : (ms != 0) = false := by rw [e0]; rfl
      have EO : O1 = [] := by rw [E1.out, if_pos e0]
      clear e0 E2
      subst EO
      go_wp2
      go_meet
      exact ⟨_, _, rfl, Gro.nil _ _, Below.refl _ _⟩
    · have z0 : (ms != 0) = true := by simpa using e0
      have EO : Hid (O1 = [2, 4] ++ put16 ms) := by unfold Hid; rw [E1.out, if_neg e0]
      clear e0
      obtain ⟨w3, s3, hs3, hw3, i3, b3⟩ := lit2 w1 2 4
      have B3 := hide b3
      have k63 : w3.cell? ⟨b, 6, none⟩ = some (.int .i64 ms) := by rw [HMS.out]; exact CW.out w3 b3 6 _ rfl
      have PT := hide (rPut2_any (.slice (some ⟨s3, 0, none⟩) 2 2) [2, 4] ms w3 i3 (by decide) HMM.out.1 HMM.out.2)
      have hs3' := hs3.symm
      have hw3' := hw3.symm
      clear hs3 hw3 i3 b3
      go_wp2_with fail
      refine PT.out.mono ?_
      rintro _ w4 ⟨v4, rfl, g4, b4⟩
      rw [← EO.out] at g4
      obtain ⟨a3, c3, rfl, _⟩ := g4.isB.shape
      have G3 := hide (g4.low B3.out.size)
      have BW := hide (B3.out.trans (b4.mono B3.out.size))
      clear g4 b4 hs3' hw3' PT k63
      go_wp2
      go_meet
      exact ⟨_, _, rfl, G3.out, BW.out⟩
  case rest =>
  obtain ⟨a1, c1, rfl, G3, B3⟩ := hcut
  obtain ⟨w2, hw2⟩ : ∃ w2, w2 = wc := ⟨_, rfl⟩
  rw [← hw2] at G3 B3 ⊢
  have k7 : w2.cell? ⟨b, 7, none⟩ = some (.bool s.sak) := CW.out w2 B3.out 7 _ rfl
  obtain ⟨sk, hsk⟩ : ∃ sk, sk = s.sak := ⟨_, rfl⟩
  rw [← hsk] at k7 E2
  clear hw2 k6 hsk
  go_upto_if 13 with fail
  go_cut [3] (fun v wc => ∃ a c, v = .slice a O2.length c ∧ Hid (Gro w1.heap.size wc (.slice a O2.length c) O2) ∧ Hid (Below w1.heap.size w1 wc))
  case first =>
    cases sk with
    | false =>
      have EO : O2 = O1 := by rw [E2.out]; rfl
      subst EO
      go_wp2
      go_meet
      exact ⟨_, _, rfl, G3.out, B3.out⟩
    | true =>
      have EO : Hid (O1 ++ [4, 2] = O2) := by unfold Hid; rw [E2.out]; rfl
      obtain ⟨w3, s3, hs3, hw3, i3, b3⟩ := lit2 w2 4 2
      have I3 := hide i3
      have G4 := hide (G3.out.later b3)
      have B4 := hide (B3.out.trans (b3.mono B3.out.size))
      have Z4 : Hid (w1.heap.size ≤ w3.heap.size) := B4.out.size
      have LL : Hid (O1.length + [(4 : Int), 2].length ≤ 140737488355328) := by have := L1.out; simp [Hid]; omega
      have hs3' := hs3.symm
      have hw3' := hw3.symm
      clear hs3 hw3 i3 b3 k7
      go_wp2_with (at_builtin; refine wpList_growB rfl _ _ rfl rfl w1.heap.size (.slice a1 O1.length c1) (.slice (some ⟨s3, 0, none⟩) 2 2) O1 [4, 2] rfl rfl G4.out I3.out Z4.out LL.out O2 EO.out ?_)
      intro a5 c5 w5 _ g5 b5
      have G5 := hide g5
      have B5 := hide (B4.out.trans b5)
      clear g5 b5 hs3' hw3'
      go_wp2
      go_meet
      exact ⟨_, _, rfl, G5.out, B5.out⟩
  case rest =>
  clear a1 c1 G3 B3
  obtain ⟨a1, c1, rfl, G3, B3⟩ := hcut
  obtain ⟨w2, hw2⟩ : ∃ w2, w2 = wc := ⟨_, rfl⟩
  rw [← hw2] at G3 B3 ⊢
  have k8 : w2.cell? ⟨b, 8, none⟩ = some (.slice ga n gc) := CW.out w2 B3.out 8 _ rfl
  clear hw2 k7
  go_upto_if 20 with fail
  obtain ⟨O4, hO4⟩ : ∃ O, O = oL s n := ⟨_, rfl⟩
  have E4 := hide hO4
  clear hO4
  go_cut [3] (fun v wc => ∃ a c, v = .slice a O4.length c ∧ Hid (Gro w1.heap.size wc (.slice a O4.length c) O4) ∧ Hid (Below w1.heap.size w1 wc))
  case first =>
    by_cases e0 : n = 0
    · have EO : O4 = O2 := by rw [E4.out, e0, ← E0.out, E3.out, if_pos e0]
      subst EO
      have z0 : ¬ (0 : Int) < (n : Int) := by omega
      clear e0
      go_wp2
      go_meet
      exact ⟨_, _, rfl, G3.out, B3.out⟩
    · have z0 : (0 : Int) < (n : Int) := by omega
      have EO : Hid (O2 ++ [5, 2 + 8 * (n : Int)] = O3) := by unfold Hid; rw [E3.out, if_neg e0]; congr 2
      obtain ⟨w3, s3, hs3, hw3, i3, b3⟩ := lit2 w2 5 (2 + 8 * (n : Int))
      have I3 := hide i3
      have G4 := hide (G3.out.later b3)
      have B4 := hide (B3.out.trans (b3.mono B3.out.size))
      have Z4 : Hid (w1.heap.size ≤ w3.heap.size) := B4.out.size
      have LL : Hid (O2.length + [(5 : Int), 2 + 8 * (n : Int)].length ≤ 140737488355328) := by have := L2.out; simp [Hid]; omega
      have zn3 : (n : Int) ≤ 3 := by omega
      have hs3' := hs3.symm
      have hw3' := hw3.symm
      clear hs3 hw3 i3 b3 e0
      go_upto_region 8 with (at_builtin; refine wpList_growB rfl _ _ rfl rfl w1.heap.size (.slice a1 O2.length c1) (.slice (some ⟨s3, 0, none⟩) 2 2) O2 [5, 2 + 8 * (n : Int)] rfl rfl G4.out I3.out Z4.out LL.out O3 EO.out ?_; intro a5 c5 w5 _ g5 b5; have G5 := hide g5; have B5 := hide (B4.out.trans b5); clear g5 b5 hs3' hw3' k8)
      go_wp2
      go_loopw [3, 4] (fun v3 v4 wr => ∃ (k : Nat) (L : List Int) (a : Option Addr) (c : Nat), v4 = .int .i64 (k : Int) ∧ k ≤ n ∧ v3 = .slice a L.length c ∧ Hid (L = oL s k) ∧ Hid (Gro w1.heap.size wr (.slice a L.length c) L) ∧ Hid (Below w1.heap.size w1 wr)) (fun _ v4 _ => n - (intOf v4).toNat)
      case atStart => exact ⟨0, O3, a5, c5, rfl, by omega, rfl, E0.out, G5.out, B5.out⟩
      case round =>
        clear G3 B3 G4 B4 G5 B5
        obtain ⟨k, L, a3, c3, rfl, hk, rfl, HL, G3, B3⟩ := hrel
        have k8 : wr.cell? ⟨b, 8, none⟩ = some (.slice ga n gc) := CW.out wr B3.out 8 _ rfl
        by_cases hlt : k < n
        · have zk : (k : Int) < (n : Int) := by omega
          obtain ⟨x, hx⟩ : ∃ x, s.got[k]? = some x := ⟨_, List.getElem?_eq_getElem (by rw [← HN.out]; exact hlt)⟩
          obtain ⟨X0, X1, X2, X3⟩ := OK.out.got x (List.mem_of_getElem? hx)
          have hgr := G1.out.later B3.out
          obtain ⟨a', cap', e', h1, h2, h3'⟩ := hgr
          simp only [Value.slice.injEq] at e'
          obtain ⟨rfl, e0, rfl⟩ := e'
          clear e0
          obtain ⟨g, off, rfl, _, gl, hcs⟩ := h3' (by have := HN.out; omega)
          have cx := hide (hcs k x hx)
          have x0 : wr.cell? ⟨g, off + k * 2, none⟩ = some (.int .u32 x.f) := by have := cx.out 0 _ rfl; rw [Nat.add_zero] at this; exact this
          have N1 : Hid (L.length ≤ 100000) := by have := oL_len s k; have := HL.out; unfold Hid; rw [HL.out]; omega
          have HN2 : Hid (oL s (k + 1) = L ++ put32 x.f ++ put32 x.t) := by unfold Hid; rw [oL_succ s k x hx, ← HL.out]
          have P1 := hide (rPut4_any (.slice a3 L.length c3) L x.f wr G3.out.isB (by have := N1.out; omega) X0 X1)
          go_wp2_with fail
          refine P1.out.mono ?_
          rintro _ w6 ⟨v6, rfl, g6, b6⟩
          obtain ⟨a6, c6, rfl, _⟩ := g6.isB.shape
          have B6 := hide (B3.out.trans (b6.mono B3.out.size))
          have k86 : w6.cell? ⟨b, 8, none⟩ = some (.slice (some ⟨g, off, none⟩) n gc) := CW.out w6 B6.out 8 _ rfl
          have x1 : w6.cell? ⟨g, off + k * 2 + 1, none⟩ = some (.int .u32 x.t) := (cx.out.later gl b6) 1 _ rfl
          have LX6 : Hid (L.length + 4 = (L ++ put32 x.f).length) := by rw [List.length_append]; rfl
          rw [← LX6.out] at g6 ⊢
          have P2 := hide (rPut4_any (.slice a6 (L.length + 4) c6) (L ++ put32 x.f) x.t w6 g6.isB (by have := N1.out; rw [← LX6.out]; omega) X2 X3)
          clear g6 b6 P1 x0 k8 hx hcs h3' h1 h2
          go_wp2_with fail
          refine P2.out.mono ?_
          rintro _ w7 ⟨v7, rfl, g7, b7⟩
          rw [← HN2.out] at g7
          obtain ⟨a7, c7, rfl, _⟩ := g7.isB.shape
          have G7 := hide (g7.low B6.out.size)
          have B7 := hide (B6.out.trans (b7.mono B6.out.size))
          clear g7 b7 P2 x1 k86
          go_wp2
          go_roundw
          case rel => exact ⟨k + 1, _, _, _, by go_num, hlt, rfl, rfl, G7.out, B7.out⟩
          case measure => simp [intOf]; omega
        · obtain rfl : k = n := by omega
          have zk : ¬ (k : Int) < (k : Int) := by omega
          have e4 : L = O4 := by rw [HL.out, E4.out]
          subst e4
          go_wp2
          go_meet
          exact ⟨_, _, rfl, G3.out, B3.out⟩
  case rest =>
  clear a1 c1 G3 B3
  obtain ⟨a1, c1, rfl, G3, B3⟩ := hcut
  obtain ⟨w2, hw2⟩ : ∃ w2, w2 = wc := ⟨_, rfl⟩
  rw [← hw2] at G3 B3 ⊢
  have EP : Hid (padT O4 = otB s) := by unfold Hid otB; rw [E4.out, HN.out]
  have N1 : Hid (O4.length ≤ 40) := by have := oL_len s n; unfold Hid; rw [E4.out]; omega
  clear hw2 k8
  go_wp2
  go_loopw [3] (fun v3 wr => ∃ (L : List Int) (q : Nat) (a : Option Addr) (c : Nat), v3 = .slice a q c ∧ Hid (q = L.length) ∧ q ≤ 44 ∧ Hid (padT L = otB s) ∧ Hid (Gro w1.heap.size wr (.slice a q c) L) ∧ Hid (Below w1.heap.size w1 wr)) (fun v3 _ => match v3 with | .slice _ q _ => (4 - q % 4) % 4 | _ => 0)
  case atStart => exact ⟨O4, O4.length, a1, c1, rfl, rfl, by have := N1.out; omega, EP.out, G3.out, B3.out⟩
  case round =>
    clear G3 B3 EP N1
    obtain ⟨L, q, a3, c3, rfl, HQ, q43, EP, G3, B3⟩ := hrel
    have tm : (q : Int).tmod 4 = ((q % 4 : Nat) : Int) := by rw [Int.tmod_eq_emod_of_nonneg (by omega)]; omega
    obtain ⟨r, hr⟩ : ∃ r, r = q % 4 := ⟨_, rfl⟩
    rw [← hr] at tm
    by_cases h0 : r = 0
    · have EL : L = otB s := by rw [← EP.out, padT_end L (by rw [← HQ.out, ← hr]; exact h0)]
      subst EL
      have BF : Hid (Below w.heap.size w wr) := B1.out.trans (B3.out.mono B1.out.size)
      have GF : Hid (Gro w.heap.size wr (.slice a3 q c3) (otB s)) := G3.out.low B1.out.size
      subst h0
      clear hr
      go_wp2
      go_ret
      exact ⟨_, rfl, GF.out, BF.out⟩
    · have q0 : ((r : Int) != 0) = true := by simpa using h0
      obtain ⟨wk, hwk⟩ : ∃ wk, wk = wr := ⟨_, rfl⟩
      rw [← hwk] at G3 B3 ⊢
      obtain ⟨w3, s3, hs3, hw3, i3, b3⟩ := lit1 wk 1
      have I3 := hide i3
      have G4 := hide (G3.out.later b3)
      have B4 := hide (B3.out.trans (b3.mono B3.out.size))
      have Z4 : Hid (w1.heap.size ≤ w3.heap.size) := B4.out.size
      obtain ⟨M, hM⟩ : ∃ M, L ++ [1] = M := ⟨_, rfl⟩
      have EM : Hid (padT M = otB s) := by unfold Hid; rw [← hM, padT_step L (by rw [← HQ.out, ← hr]; exact h0), EP.out]
      have LM : Hid (M.length = q + 1) := by unfold Hid; rw [← hM, List.length_append, ← HQ.out]; rfl
      have ME : Hid ((4 - (q + 1) % 4) % 4 < (4 - q % 4) % 4) := by unfold Hid; omega
      have HM := hide hM
      have LL : Hid (L.length + [(1 : Int)].length ≤ 140737488355328) := by have := HQ.out; simp [Hid]; omega
      have q42 : Hid (q + 1 ≤ 44) := by unfold Hid; omega
      have hs3' := hs3.symm
      have hw3' := hw3.symm
      clear hs3 hw3 i3 b3 hM h0 hwk
      go_wp2_with (at_builtin; refine wpList_growB rfl _ _ rfl rfl w1.heap.size (.slice a3 q c3) (.slice (some ⟨s3, 0, none⟩) 1 1) L [1] rfl rfl G4.out I3.out Z4.out LL.out M HM.out ?_)
      intro a5 c5 w5 _ g5 b5
      rw [LM.out] at g5 ⊢
      have G5 := hide g5
      have B5 := hide (B4.out.trans b5)
      clear g5 b5 hs3' hw3'
      go_wp2
      go_roundw
      case rel => exact ⟨M, q + 1, a5, c5, rfl, LM.out.symm, q42.out, EM.out, G5.out, B5.out⟩
      case measure => exact ME.out

/-- a segment with a sum -/
def ldT (s : Sg) (m : Int) : List Int := hdL s (otB s).length (m / 256 % 256) (m % 256) ++ (otB s ++ s.dat)
set_option maxRecDepth 100000 in
set_option maxHeartbeats 8000000 in
theorem rLaidT_any {P : Nat → Prop} (s : Sg) (gv dv : Value) (m : Int) (w : World) (ok : s.Ok) (hmb : mbS s = true) (hdl : s.dat.length ≤ 1024) (m0 : 0 ≤ m) (m1 : m ≤ 65535) (hg : CG P w gv s.got) (hd : IsB w.heap.size w dv s.dat) : Calls Try.prog 35 #[.agg (s.cells gv dv).toArray, .int .i64 m] w fun e w' => ∃ v, e = .returned v ∧ Gro w.heap.size w' v (ldT s m) ∧ Below w.heap.size w w' := by
  obtain ⟨⟨p0, p1⟩, ⟨p2, p3⟩, ⟨fl0, fl1⟩, ⟨wn0, wn1⟩, hms, h3⟩ := mbS_true hmb
  obtain ⟨l35, l4⟩ := otB_len s h3
  obtain ⟨w1, b, hs, hw, c1, f1, b1, l1⟩ := boxS w s gv dv
  obtain ⟨ga, gc, rfl⟩ := hg.shape
  obtain ⟨da, dc, rfl, _⟩ := hd.shape
  have OP := hide (rOptions_any (P := P) s (.slice ga s.got.length gc) (.slice da s.dat.length dc) w1 ok hms h3 (hg.later b1))
  have HD := hide (hd.later b1)
  obtain ⟨X, hX⟩ : ∃ X, X = s.cells (.slice ga s.got.length gc) (.slice da s.dat.length dc) := ⟨_, rfl⟩
  have LX : Hid (X.length = 10) := by rw [hX]; exact rfl
  rw [← hX] at OP c1
  have CW : Hid (∀ W, Below w1.heap.size w1 W → CellsAt W b 0 X) := fun W hW => c1.later l1 hW
  have X0 : Hid (X[0]? = some (.int .i64 s.src)) := by rw [hX]; exact rfl
  have X1 : Hid (X[1]? = some (.int .i64 s.dst)) := by rw [hX]; exact rfl
  have X2 : Hid (X[2]? = some (.int .u32 s.seq)) := by rw [hX]; exact rfl
  have X3 : Hid (X[3]? = some (.int .u32 s.ack)) := by rw [hX]; exact rfl
  have X4 : Hid (X[4]? = some (.int .i64 s.flg)) := by rw [hX]; exact rfl
  have X5 : Hid (X[5]? = some (.int .i64 s.wnd)) := by rw [hX]; exact rfl
  obtain ⟨d, hdn⟩ : ∃ d, d = s.dat.length := ⟨_, rfl⟩
  have X9 : Hid (X[9]? = some (.slice da d dc)) := by rw [hX, hdn]; exact rfl
  have CX := hide c1
  obtain ⟨O, hO⟩ : ∃ O, O = otB s := ⟨_, rfl⟩
  obtain ⟨n, hn⟩ : ∃ n, n = O.length := ⟨_, rfl⟩
  have FIN : Hid (ldT s m = hdL s n (m / 256 % 256) (m % 256) ++ (O ++ s.dat)) := by rw [hn, hO]; exact rfl
  rw [FIN.out]
  rw [← hO] at OP l35 l4
  rw [← hn] at l35 l4
  have zn : (n : Int) ≤ 35 := by omega
  have HN := hide hn
  have B1 : Hid (Below w.heap.size w w1) := b1
  have EX : X.toArray = #[.int .i64 s.src, .int .i64 s.dst, .int .u32 s.seq, .int .u32 s.ack, .int .i64 s.flg, .int .i64 s.wnd, .int .i64 s.mss, .bool s.sak, .slice ga s.got.length gc, .slice da s.dat.length dc] := by rw [hX]; rfl
  rw [← hX]
  rw [← EX] at hw
  rw [← hdn] at HD hdl
  have N4 := hide l4
  have HDN := hide hdn
  obtain ⟨q0, q1⟩ := ok.seq
  obtain ⟨a0, a1⟩ := ok.ack
  have NB := hide (And.intro (And.intro p0 p1) (And.intro p2 p3))
  have NC := hide (And.intro (And.intro q0 q1) (And.intro a0 a1))
  have ND := hide (And.intro (And.intro wn0 wn1) (And.intro m0 m1))
  have hs' := hs.symm
  have hw' := hw.symm
  clear hs hw c1 f1 b1 hd hX hdn hn hO hg EX p0 p1 p2 p3 q0 q1 a0 a1 wn0 wn1 m0 m1 l4 hms h3 ok hmb
  obtain ⟨sq, hsq⟩ : ∃ q, q = s.seq := ⟨_, rfl⟩
  obtain ⟨ak, hak⟩ : ∃ q, q = s.ack := ⟨_, rfl⟩
  rw [← hsq] at X2 NC
  rw [← hak] at X3 NC
  have HSQ := hide hsq
  have HAK := hide hak
  clear hsq hak
  have sq0 := NC.out.1.1
  have ak0 := NC.out.2.1
  have sq1 := NC.out.1.2
  have ak1 := NC.out.2.2
  go_enter Try.func35, Try.ntmps35
  go_upto_region 1 with fail
  clear hs' hw'
  go_wp2_with (refine wpList_loadA rfl 26 10 aggSg sizSg _ rfl b 0 rfl X LX.out CX.out ?_)
  refine OP.out.mono ?_
  rintro _ w2 ⟨ov, rfl, go, bo⟩
  obtain ⟨oa, oc, eo, _⟩ := go.isB.shape
  rw [← HN.out] at eo
  subst eo
  have GO := hide go.isB
  have CW2 : Hid (∀ W, Below w2.heap.size w2 W → CellsAt W b 0 X) := fun W hW => CW.out W (bo.trans (hW.mono bo.size))
  have HD2 := hide (HD.out.later bo)
  have BO := hide (later B1.out bo)
  clear go bo OP CX CW HD B1
  have BB2 : Hid (Below w2.heap.size w2 w2) := Below.refl _ _
  have G2 : Hid (Gro w2.heap.size w2 (.slice none 0 0) []) := Gro.nil _ _
  have LA2 : Hid (([] : List Int).length = 0) := rfl

  have k3 : w2.cell? ⟨b, 0, none⟩ = some (.int .i64 s.src) := CW2.out w2 BB2.out 0 _ X0.out
  have P3 := hide (rPut2_any (.slice none 0 0) ([] : List Int) s.src w2 G2.out.isB (by rw [LA2.out]; decide) (by have := NB.out.1.1; omega) (by have := NB.out.1.2; omega))
  go_wp2_with fail
  refine P3.out.mono ?_
  rintro _ w3 ⟨v, rfl, g, bb⟩
  obtain ⟨A3, hA⟩ : ∃ A, A = ([] : List Int) ++ put16 s.src := ⟨_, rfl⟩
  rw [← hA] at g
  have LA3 : Hid (A3.length = 2) := by rw [hA, List.length_append, LA2.out]; exact rfl
  obtain ⟨a3, c3, e, _⟩ := g.isB.shape
  rw [LA3.out] at e
  subst e
  have G3 := hide (g.low BB2.out.size)
  have BB3 := hide (BB2.out.trans (bb.mono BB2.out.size))
  have HA3 := hide hA
  clear g bb P3 hA k3 G2
  have k4 : w3.cell? ⟨b, 1, none⟩ = some (.int .i64 s.dst) := CW2.out w3 BB3.out 1 _ X1.out
  have P4 := hide (rPut2_any (.slice a3 2 c3) A3 s.dst w3 G3.out.isB (by rw [LA3.out]; decide) (by have := NB.out.2.1; omega) (by have := NB.out.2.2; omega))
  go_wp2_with fail
  refine P4.out.mono ?_
  rintro _ w4 ⟨v, rfl, g, bb⟩
  obtain ⟨A4, hA⟩ : ∃ A, A = A3 ++ put16 s.dst := ⟨_, rfl⟩
  rw [← hA] at g
  have LA4 : Hid (A4.length = 4) := by rw [hA, List.length_append, LA3.out]; exact rfl
  obtain ⟨a4, c4, e, _⟩ := g.isB.shape
  rw [LA4.out] at e
  subst e
  have G4 := hide (g.low BB3.out.size)
  have BB4 := hide (BB3.out.trans (bb.mono BB3.out.size))
  have HA4 := hide hA
  clear g bb P4 hA k4 G3
  have k5 : w4.cell? ⟨b, 2, none⟩ = some (.int .u32 sq) := CW2.out w4 BB4.out 2 _ X2.out
  have P5 := hide (rPut4_any (.slice a4 4 c4) A4 sq w4 G4.out.isB (by rw [LA4.out]; decide) (by have := NC.out.1.1; omega) (by have := NC.out.1.2; omega))
  go_wp2_with fail
  refine P5.out.mono ?_
  rintro _ w5 ⟨v, rfl, g, bb⟩
  obtain ⟨A5, hA⟩ : ∃ A, A = A4 ++ put32 sq := ⟨_, rfl⟩
  rw [← hA] at g
  have LA5 : Hid (A5.length = 8) := by rw [hA, List.length_append, LA4.out]; exact rfl
  obtain ⟨a5, c5, e, _⟩ := g.isB.shape
  rw [LA5.out] at e
  subst e
  have G5 := hide (g.low BB4.out.size)
  have BB5 := hide (BB4.out.trans (bb.mono BB4.out.size))
  have HA5 := hide hA
  clear g bb P5 hA k5 G4
  have k6 : w5.cell? ⟨b, 3, none⟩ = some (.int .u32 ak) := CW2.out w5 BB5.out 3 _ X3.out
  have P6 := hide (rPut4_any (.slice a5 8 c5) A5 ak w5 G5.out.isB (by rw [LA5.out]; decide) (by have := NC.out.2.1; omega) (by have := NC.out.2.2; omega))
  go_wp2_with fail
  refine P6.out.mono ?_
  rintro _ w6 ⟨v, rfl, g, bb⟩
  obtain ⟨A6, hA⟩ : ∃ A, A = A5 ++ put32 ak := ⟨_, rfl⟩
  rw [← hA] at g
  have LA6 : Hid (A6.length = 12) := by rw [hA, List.length_append, LA5.out]; exact rfl
  obtain ⟨a6, c6, e, _⟩ := g.isB.shape
  rw [LA6.out] at e
  subst e
  have G6 := hide (g.low BB5.out.size)
  have BB6 := hide (BB5.out.trans (bb.mono BB5.out.size))
  have HA6 := hide hA
  clear g bb P6 hA k6 G5
  have k4 : w6.cell? ⟨b, 4, none⟩ = some (.int .i64 s.flg) := CW2.out w6 BB6.out 4 _ X4.out
  have n0 : (0 : Int) ≤ (n : Int) := by omega
  obtain ⟨w7, s7, hs7, hw7, i7, b7⟩ := lit2 w6 ((20 + (n : Int)) / 4 * 16) (s.flg)
  have I7 := hide i7
  have G7x := hide (G6.out.later b7)
  have BB7 := hide (BB6.out.trans (b7.mono BB6.out.size))
  have Z7 : Hid (w2.heap.size ≤ w7.heap.size) := BB7.out.size
  obtain ⟨A7, hA⟩ : ∃ A, A6 ++ [(20 + (n : Int)) / 4 * 16, s.flg] = A := ⟨_, rfl⟩
  have HA7 := hide hA
  have LA7 : Hid (A7.length = 14) := by rw [← hA, List.length_append, LA6.out]; exact rfl
  have LL7 : Hid (A6.length + [((20 + (n : Int)) / 4 * 16 : Int), s.flg].length ≤ 140737488355328) := by unfold Hid; rw [LA6.out]; simp
  have hs7' := hs7.symm
  have hw7' := hw7.symm
  clear hs7 hw7 i7 b7 hA G6
  go_wp2_with (at_builtin; refine wpList_growB rfl _ _ rfl rfl w2.heap.size (.slice a6 12 c6) (.slice (some ⟨s7, 0, none⟩) 2 2) A6 [(20 + (n : Int)) / 4 * 16, s.flg] rfl rfl G7x.out I7.out Z7.out LL7.out A7 HA7.out ?_)
  intro a8 c8 w8 _ g bb
  rw [LA7.out] at g ⊢
  have G8 := hide g
  have BB8 := hide (BB7.out.trans bb)
  have LA8 := hide LA7.out
  clear g bb hs7' hw7' G7x
  clear k4
  have k9 : w8.cell? ⟨b, 5, none⟩ = some (.int .i64 s.wnd) := CW2.out w8 BB8.out 5 _ X5.out
  have P9 := hide (rPut2_any (.slice a8 14 c8) A7 s.wnd w8 G8.out.isB (by rw [LA8.out]; decide) (by have := ND.out.1.1; omega) (by have := ND.out.1.2; omega))
  go_wp2_with fail
  refine P9.out.mono ?_
  rintro _ w9 ⟨v, rfl, g, bb⟩
  obtain ⟨A9, hA⟩ : ∃ A, A = A7 ++ put16 s.wnd := ⟨_, rfl⟩
  rw [← hA] at g
  have LA9 : Hid (A9.length = 16) := by rw [hA, List.length_append, LA8.out]; exact rfl
  obtain ⟨a9, c9, e, _⟩ := g.isB.shape
  rw [LA9.out] at e
  subst e
  have G9 := hide (g.low BB8.out.size)
  have BB9 := hide (BB8.out.trans (bb.mono BB8.out.size))
  have HA9 := hide hA
  clear g bb P9 hA k9 G8
  have P10 := hide (rPut2_any (.slice a9 16 c9) A9 m w9 G9.out.isB (by rw [LA9.out]; decide) (by have := ND.out.2.1; omega) (by have := ND.out.2.2; omega))
  go_wp2_with fail
  refine P10.out.mono ?_
  rintro _ w10 ⟨v, rfl, g, bb⟩
  obtain ⟨A10, hA⟩ : ∃ A, A = A9 ++ put16 m := ⟨_, rfl⟩
  rw [← hA] at g
  have LA10 : Hid (A10.length = 18) := by rw [hA, List.length_append, LA9.out]; exact rfl
  obtain ⟨a10, c10, e, _⟩ := g.isB.shape
  rw [LA10.out] at e
  subst e
  have G10 := hide (g.low BB9.out.size)
  have BB10 := hide (BB9.out.trans (bb.mono BB9.out.size))
  have HA10 := hide hA
  clear g bb P10 hA G9
  obtain ⟨w11, s11, hs11, hw11, i11, b11⟩ := lit2 w10 (0) (0)
  have I11 := hide i11
  have G11x := hide (G10.out.later b11)
  have BB11 := hide (BB10.out.trans (b11.mono BB10.out.size))
  have Z11 : Hid (w2.heap.size ≤ w11.heap.size) := BB11.out.size
  obtain ⟨A11, hA⟩ : ∃ A, A10 ++ [0, 0] = A := ⟨_, rfl⟩
  have HA11 := hide hA
  have LA11 : Hid (A11.length = 20) := by rw [← hA, List.length_append, LA10.out]; exact rfl
  have LL11 : Hid (A10.length + [(0 : Int), 0].length ≤ 140737488355328) := by unfold Hid; rw [LA10.out]; simp
  have hs11' := hs11.symm
  have hw11' := hw11.symm
  clear hs11 hw11 i11 b11 hA G10
  go_wp2_with (at_builtin; refine wpList_growB rfl _ _ rfl rfl w2.heap.size (.slice a10 18 c10) (.slice (some ⟨s11, 0, none⟩) 2 2) A10 [0, 0] rfl rfl G11x.out I11.out Z11.out LL11.out A11 HA11.out ?_)
  intro a12 c12 w12 _ g bb
  rw [LA11.out] at g ⊢
  have G12 := hide g
  have BB12 := hide (BB11.out.trans bb)
  have LA12 := hide LA11.out
  clear g bb hs11' hw11' G11x
  have IO : Hid (IsB w12.heap.size w12 (.slice oa n oc) O) := GO.out.later BB12.out
  have ZA : Hid (w2.heap.size ≤ w12.heap.size) := BB12.out.size
  have LLA : Hid (A11.length + O.length ≤ 140737488355328) := by unfold Hid; rw [LA12.out, ← HN.out]; omega
  obtain ⟨AO, hAO⟩ : ∃ A, A11 ++ O = A := ⟨_, rfl⟩
  have HAO := hide hAO
  obtain ⟨k, hk⟩ : ∃ k, k = 20 + n := ⟨_, rfl⟩
  have LAO : Hid (AO.length = k) := by rw [← hAO, List.length_append, LA12.out, ← HN.out, hk]; exact rfl
  have HK := hide hk
  clear hAO hk
  go_upto_region 11 with (at_builtin; refine wpList_growB rfl _ _ rfl rfl w2.heap.size (.slice a12 20 c12) (.slice oa n oc) A11 O rfl rfl G12.out IO.out ZA.out LLA.out AO HAO.out ?_; intro aO cO wO _ g bb; rw [LAO.out] at g ⊢; have GAO := hide g; have BBO := hide (BB12.out.trans bb); clear g bb)
  have ID : Hid (IsB wO.heap.size wO (.slice da d dc) s.dat) := HD2.out.later BBO.out
  have ZB : Hid (w2.heap.size ≤ wO.heap.size) := BBO.out.size
  have LLB : Hid (AO.length + s.dat.length ≤ 140737488355328) := by unfold Hid; rw [LAO.out, HK.out, ← HDN.out]; omega
  obtain ⟨F, hF⟩ : ∃ A, AO ++ s.dat = A := ⟨_, rfl⟩
  have HF := hide hF
  have k9 : wO.cell? ⟨b, 9, none⟩ = some (.slice da d dc) := CW2.out wO BBO.out 9 _ X9.out
  clear hF
  go_wp2_with (at_builtin; refine wpList_growB rfl _ _ rfl rfl w2.heap.size (.slice aO k cO) (.slice da d dc) AO s.dat rfl rfl GAO.out ID.out ZB.out LLB.out F HF.out ?_)
  intro aF cF wF _ gF bF
  have e : F = hdL s n (m / 256 % 256) (m % 256) ++ (O ++ s.dat) := by
    rw [← HF.out, ← HAO.out, ← HA11.out, HA10.out, HA9.out, ← HA7.out, HA6.out, HA5.out, HA4.out, HA3.out, List.append_assoc, HSQ.out, HAK.out]
    have e2 : (20 + (n : Int)) = ((20 + n : Nat) : Int) := by omega
    rw [e2]
    rfl
  have HFE := hide e
  have GF := hide (gF.low BO.out.size)
  have BF := hide (BO.out.trans ((BBO.out.trans bF).mono BO.out.size))
  clear gF bF k9 e
  go_wp2
  go_ret
  exact ⟨_, rfl, by rw [← HFE.out]; exact GF.out, BF.out⟩

theorem tah_eq {s : Sg} (h : teE s = 0) : tah s (20 + (otB s).length) = (hdL s (otB s).length 0 0).take 16 := by
  have e := congrArg (List.take 16) (tsB_form (x := ⟨0, 0, 0, 0⟩) (y := ⟨0, 0, 0, 0⟩) h)
  unfold tsB at e
  rw [List.append_assoc, List.take_append_of_le_length (by rw [tah_len]; decide), List.take_of_length_le (by rw [tah_len]; decide)] at e
  rw [e]
  rfl
theorem ldT_len (s : Sg) (m : Int) : (ldT s m).length = 20 + (otB s).length + s.dat.length := by
  unfold ldT
  rw [List.length_append, List.length_append, hdL_len]
  omega
theorem ldT_parts {s : Sg} (h : teE s = 0) (m : Int) : ldT s m = tah s (20 + (otB s).length) ++ (put16 m ++ tbh s) := by
  rw [tah_eq h]
  rfl
theorem ldT_bytes {s : Sg} (ok : s.Ok) (h : teE s = 0) (m : Int) : Bytes (ldT s m) := by
  obtain ⟨_, _, _, _, _, h3⟩ := mbS_true (teE_zero h).2
  rw [ldT_parts h]
  exact (tah_bytes ok _).append ((put16_bytes _).append (tbh_bytes ok h3))
theorem ldT_tsB {x y : I4} {s : Sg} (h : teE s = 0) : ldT s (tsm x y s) = tsB x y s := by
  rw [ldT_parts h]
  unfold tsB
  rw [List.append_assoc]
/-- the sum stands at an even place: with 0 there it is as without it -/
theorem tsm_zero (x y : I4) {s : Sg} (h : teE s = 0) : csum (psB x y 6 (20 + ((otB s).length : Int) + (s.dat.length : Int)) ++ ldT s 0) = tsm x y s := by
  have e : put16 0 = [0, 0] := rfl
  rw [ldT_parts h, e]
  unfold tsm csum
  rw [wsum_append_even _ _ (by rw [psB_len]), wsum_append_even _ _ (by rw [tah_len]), wsum_append_even _ _ (by rfl), wsum_append_even _ (tbh s) (by rw [List.length_append, psB_len, tah_len]), wsum_append_even _ _ (by rw [psB_len]), wsum_pair]
  congr 2
  omega
theorem tsm_bd (x y : I4) (s : Sg) : 0 ≤ tsm x y s ∧ tsm x y s ≤ 65535 := csum_bd _
theorem rIn_any (n m : Int) (w : World) : Calls Try.prog 34 #[.int .i64 n, .int .i64 m] w fun e w' => e = .returned (.bool (upT m n)) ∧ w' = w := by
  go_enter Try.func34, Try.ntmps34
  by_cases h1 : 0 ≤ n
  · go_wp2
    go_ret
    exact ⟨by unfold upT; rw [decide_eq_true h1]; rfl, rfl⟩
  · go_wp2
    go_ret
    exact ⟨by unfold upT; rw [decide_eq_false (show ¬ 0 ≤ n by omega)]; rfl, rfl⟩
theorem upT_prt {n : Int} (h : i64In n) : upT 65534 (wrap64 (n - 1)) = prt n := by
  obtain ⟨h0, h1⟩ := h
  unfold upT prt wrap64
  rw [Bool.eq_iff_iff]
  simp only [Bool.and_eq_true, decide_eq_true_eq]
  omega
set_option maxRecDepth 100000 in
set_option maxHeartbeats 16000000 in
theorem rEncT_any {P : Nat → Prop} (x y : I4) (hx : x.Ok) (hy : y.Ok) (s : Sg) (ok : s.Ok) (gv dv : Value) (w : World) (hg : CG P w gv s.got) (hd : IsB w.heap.size w dv s.dat) (hdl : s.dat.length ≤ 1125899906842624) :
    Calls Try.prog 19 #[x.val, y.val, .agg (s.cells gv dv).toArray] w fun e w' => ∃ v, e = .returned (.tuple #[v, .int .i64 (teE s)]) ∧ Gro w.heap.size w' v (teB x y s) ∧ Below w.heap.size w w' := by
  obtain ⟨w1, w2, s1, s2, hs1, hw1, hs2, hw2, c1, c2, b2, l1, l2, _⟩ := twoI w x y
  obtain ⟨w3, b, hs, hw, c3, f3, b3, l3⟩ := boxS w2 s gv dv
  obtain ⟨ga, gc, rfl⟩ := hg.shape
  obtain ⟨da, dc, rfl, _⟩ := hd.shape
  obtain ⟨X, hX⟩ : ∃ X, X = x.vals := ⟨_, rfl⟩
  obtain ⟨Y, hY⟩ : ∃ Y, Y = y.vals := ⟨_, rfl⟩
  obtain ⟨Z, hZ⟩ : ∃ Z, Z = s.cells (.slice ga s.got.length gc) (.slice da s.dat.length dc) := ⟨_, rfl⟩
  have LX : Hid (X.length = 4) := by rw [hX]; exact rfl
  have LY : Hid (Y.length = 4) := by rw [hY]; exact rfl
  have LZ : Hid (Z.length = 10) := by rw [hZ]; exact rfl
  have C1 : Hid (CellsAt w3 s1 0 X) := by rw [hX]; exact c1.later l1 b3
  have C2 : Hid (CellsAt w3 s2 0 Y) := by rw [hY]; exact c2.later l2 b3
  have C3 : Hid (CellsAt w3 b 0 Z) := by rw [hZ]; exact c3
  have B3 := hide (later b2 b3)
  have l13 : s1 < w3.heap.size := Nat.lt_of_lt_of_le l1 b3.size
  have l23 : s2 < w3.heap.size := Nat.lt_of_lt_of_le l2 b3.size
  have HD := hide (hd.later B3.out)
  have HG := hide (hg.later B3.out)
  have OK := hide ok
  have XO := hide hx
  have YO := hide hy
  have XV : Hid (x.val = .agg X.toArray ∧ y.val = .agg Y.toArray) := by rw [hX, hY]; exact ⟨rfl, rfl⟩
  obtain ⟨n, hn⟩ : ∃ n, n = s.dat.length := ⟨_, rfl⟩
  obtain ⟨m, hm⟩ : ∃ m, m = s.got.length := ⟨_, rfl⟩
  have k0 : w3.cell? ⟨b, 0, none⟩ = some (.int .i64 s.src) := c3 0 _ rfl
  have k1 : w3.cell? ⟨b, 1, none⟩ = some (.int .i64 s.dst) := c3 1 _ rfl
  have k4 : w3.cell? ⟨b, 4, none⟩ = some (.int .i64 s.flg) := c3 4 _ rfl
  have k5 : w3.cell? ⟨b, 5, none⟩ = some (.int .i64 s.wnd) := c3 5 _ rfl
  have k6 : w3.cell? ⟨b, 6, none⟩ = some (.int .i64 s.mss) := c3 6 _ rfl
  have k8 : w3.cell? ⟨b, 8, none⟩ = some (.slice ga s.got.length gc) := c3 8 _ rfl
  have k9 : w3.cell? ⟨b, 9, none⟩ = some (.slice da s.dat.length dc) := c3 9 _ rfl
  have CC : Hid (∀ W, Below w3.heap.size w3 W → CellsAt W s1 0 X ∧ CellsAt W s2 0 Y ∧ CellsAt W b 0 Z) := fun W hW => ⟨C1.out.later l13 hW, C2.out.later l23 hW, C3.out.later l3 hW⟩
  have I1 := hide (rIn_any (wrap64 (s.src - 1)) 65534 w3)
  have I2 := hide (rIn_any (wrap64 (s.dst - 1)) 65534 w3)
  have I3 := hide (rIn_any s.flg 31 w3)
  have I4 := hide (rIn_any s.wnd 65535 w3)
  have I5 := hide (rIn_any s.mss 65535 w3)
  rw [upT_prt ok.src] at I1
  rw [upT_prt ok.dst] at I2
  obtain ⟨q1, hq1⟩ : ∃ q, q = prt s.src := ⟨_, rfl⟩
  obtain ⟨q2, hq2⟩ : ∃ q, q = prt s.dst := ⟨_, rfl⟩
  obtain ⟨q3, hq3⟩ : ∃ q, q = upT 31 s.flg := ⟨_, rfl⟩
  obtain ⟨q4, hq4⟩ : ∃ q, q = upT 65535 s.wnd := ⟨_, rfl⟩
  obtain ⟨q5, hq5⟩ : ∃ q, q = upT 65535 s.mss := ⟨_, rfl⟩
  rw [← hq1] at I1
  rw [← hq2] at I2
  rw [← hq3] at I3
  rw [← hq4] at I4
  rw [← hq5] at I5
  obtain ⟨R, hR⟩ : ∃ R, R = teB x y s := ⟨_, rfl⟩
  obtain ⟨E, hE⟩ : ∃ E, E = teE s := ⟨_, rfl⟩
  have HR : Hid (R = if E = 0 then tsB x y s else []) := by rw [hR, hE]; exact rfl
  have HES := hide hE
  have HE : Hid (E = if 1024 < n then 2 else if (q1 && (q2 && (q3 && (q4 && (q5 && decide (m ≤ 3)))))) = false then 1 else 0) := by rw [hE, hn, hm, hq1, hq2, hq3, hq4, hq5]; exact rfl
  rw [← hR, ← hE]
  have LD : Hid (s.dat.length = n ∧ s.got.length = m) := ⟨hn.symm, hm.symm⟩
  have LAI : Hid (teE s = 0 → ∀ a (W : World), 0 ≤ a → a ≤ 65535 → Below w3.heap.size w3 W → Calls Try.prog 35 #[.agg Z.toArray, .int .i64 a] W fun e w' => ∃ v, e = .returned v ∧ Gro W.heap.size w' v (ldT s a) ∧ Below W.heap.size W w') := fun h a W a0 a1 hW => by
    obtain ⟨h1, h2⟩ := teE_zero h
    rw [hZ]
    exact rLaidT_any s _ _ a W OK.out h2 h1 a0 a1 (HG.out.later hW) (HD.out.later hW)
  rw [← hn] at k9 hw hdl ⊢
  rw [← hm] at k8 hw ⊢
  rw [show x.val = .agg #[.int .u8 x.a, .int .u8 x.b, .int .u8 x.c, .int .u8 x.d] from rfl, show y.val = .agg #[.int .u8 y.a, .int .u8 y.b, .int .u8 y.c, .int .u8 y.d] from rfl, show (Value.agg (s.cells (.slice ga m gc) (.slice da n dc)).toArray) = .agg #[.int .i64 s.src, .int .i64 s.dst, .int .u32 s.seq, .int .u32 s.ack, .int .i64 s.flg, .int .i64 s.wnd, .int .i64 s.mss, .bool s.sak, .slice ga m gc, .slice da n dc] from rfl]
  have hs1' := hs1.symm
  have hs2' := hs2.symm
  have hw1' := hw1.symm
  have hw2' := hw2.symm
  have hs' := hs.symm
  have hw' := hw.symm
  clear c1 c2 b2 hs1 hs2 hw1 hw2 hX hY hd hg hn hm hR hE hx hy hs hw c3 f3 b3 hZ ok hq1 hq2 hq3 hq4 hq5
  go_enter Try.func19, Try.ntmps19
  go_upto_region 1 with fail
  clear hs1' hs2' hw1' hw2' hs' hw'
  have zn : (n : Int) ≤ 1125899906842624 := by omega
  by_cases h1 : 1024 < n
  · have z : (1024 : Int) < (n : Int) := by omega
    have e : E = 2 := by rw [HE.out, if_pos h1]
    have eR : R = [] := by rw [HR.out, if_neg (by rw [e]; decide)]
    subst e eR
    go_wp2
    refine bodyPost_ret (v := .tuple #[.slice none 0 0, .int .i64 2]) (by simp [results, go_sem]) rfl ?_
    exact ⟨_, rfl, Gro.nil _ _, B3.out⟩
  have z : ¬ (1024 : Int) < (n : Int) := by omega
  rw [if_neg h1] at HE
  clear h1
  go_upto_region 3 with fail
  clear k9

  go_wp2_with fail
  refine I1.out.mono ?_
  rintro _ wx ⟨rfl, hw⟩
  rw [hw]
  clear hw wx
  cases q1 with
  | false =>
    go_wp2_with fail
    refine I3.out.mono ?_
    rintro _ wx ⟨rfl, hw⟩
    rw [hw]
    clear hw wx
    cases q3 with
    | false =>
      have e : E = 1 := by rw [HE.out]; simp
      have eR : R = [] := by rw [HR.out, if_neg (by rw [e]; decide)]
      subst e eR
      go_wp2
      refine bodyPost_ret (v := .tuple #[.slice none 0 0, .int .i64 1]) (by simp [results, go_sem]) rfl ?_
      exact ⟨_, rfl, Gro.nil _ _, B3.out⟩
    | true =>
      go_wp2_with fail
      refine I4.out.mono ?_
      rintro _ wx ⟨rfl, hw⟩
      rw [hw]
      clear hw wx
      cases q4 with
      | false =>
        have e : E = 1 := by rw [HE.out]; simp
        have eR : R = [] := by rw [HR.out, if_neg (by rw [e]; decide)]
        subst e eR
        go_wp2
        refine bodyPost_ret (v := .tuple #[.slice none 0 0, .int .i64 1]) (by simp [results, go_sem]) rfl ?_
        exact ⟨_, rfl, Gro.nil _ _, B3.out⟩
      | true =>
        go_wp2_with fail
        refine I5.out.mono ?_
        rintro _ wx ⟨rfl, hw⟩
        rw [hw]
        clear hw wx
        have e : E = 1 := by rw [HE.out]; simp
        have eR : R = [] := by rw [HR.out, if_neg (by rw [e]; decide)]
        subst e eR
        go_wp2
        refine bodyPost_ret (v := .tuple #[.slice none 0 0, .int .i64 1]) (by simp [results, go_sem]) rfl ?_
        exact ⟨_, rfl, Gro.nil _ _, B3.out⟩
  | true =>
  go_wp2_with fail
  refine I2.out.mono ?_
  rintro _ wx ⟨rfl, hw⟩
  rw [hw]
  clear hw wx
  cases q2 with
  | false =>
    go_wp2_with fail
    refine I3.out.mono ?_
    rintro _ wx ⟨rfl, hw⟩
    rw [hw]
    clear hw wx
    cases q3 with
    | false =>
      have e : E = 1 := by rw [HE.out]; simp
      have eR : R = [] := by rw [HR.out, if_neg (by rw [e]; decide)]
      subst e eR
      go_wp2
      refine bodyPost_ret (v := .tuple #[.slice none 0 0, .int .i64 1]) (by simp [results, go_sem]) rfl ?_
      exact ⟨_, rfl, Gro.nil _ _, B3.out⟩
    | true =>
      go_wp2_with fail
      refine I4.out.mono ?_
      rintro _ wx ⟨rfl, hw⟩
      rw [hw]
      clear hw wx
      cases q4 with
      | false =>
        have e : E = 1 := by rw [HE.out]; simp
        have eR : R = [] := by rw [HR.out, if_neg (by rw [e]; decide)]
        subst e eR
        go_wp2
        refine bodyPost_ret (v := .tuple #[.slice none 0 0, .int .i64 1]) (by simp [results, go_sem]) rfl ?_
        exact ⟨_, rfl, Gro.nil _ _, B3.out⟩
      | true =>
        go_wp2_with fail
        refine I5.out.mono ?_
        rintro _ wx ⟨rfl, hw⟩
        rw [hw]
        clear hw wx
        have e : E = 1 := by rw [HE.out]; simp
        have eR : R = [] := by rw [HR.out, if_neg (by rw [e]; decide)]
        subst e eR
        go_wp2
        refine bodyPost_ret (v := .tuple #[.slice none 0 0, .int .i64 1]) (by simp [results, go_sem]) rfl ?_
        exact ⟨_, rfl, Gro.nil _ _, B3.out⟩
  | true =>
  go_wp2_with fail
  refine I3.out.mono ?_
  rintro _ wx ⟨rfl, hw⟩
  rw [hw]
  clear hw wx
  cases q3 with
  | false =>
    have e : E = 1 := by rw [HE.out]; simp
    have eR : R = [] := by rw [HR.out, if_neg (by rw [e]; decide)]
    subst e eR
    go_wp2
    refine bodyPost_ret (v := .tuple #[.slice none 0 0, .int .i64 1]) (by simp [results, go_sem]) rfl ?_
    exact ⟨_, rfl, Gro.nil _ _, B3.out⟩
  | true =>
  go_wp2_with fail
  refine I4.out.mono ?_
  rintro _ wx ⟨rfl, hw⟩
  rw [hw]
  clear hw wx
  cases q4 with
  | false =>
    have e : E = 1 := by rw [HE.out]; simp
    have eR : R = [] := by rw [HR.out, if_neg (by rw [e]; decide)]
    subst e eR
    go_wp2
    refine bodyPost_ret (v := .tuple #[.slice none 0 0, .int .i64 1]) (by simp [results, go_sem]) rfl ?_
    exact ⟨_, rfl, Gro.nil _ _, B3.out⟩
  | true =>
  go_wp2_with fail
  refine I5.out.mono ?_
  rintro _ wx ⟨rfl, hw⟩
  rw [hw]
  clear hw wx
  cases q5 with
  | false =>
    have e : E = 1 := by rw [HE.out]; simp
    have eR : R = [] := by rw [HR.out, if_neg (by rw [e]; decide)]
    subst e eR
    go_wp2
    refine bodyPost_ret (v := .tuple #[.slice none 0 0, .int .i64 1]) (by simp [results, go_sem]) rfl ?_
    exact ⟨_, rfl, Gro.nil _ _, B3.out⟩
  | true =>
  by_cases hm3 : 3 < m
  · have zm : (3 : Int) < (m : Int) := by omega
    have e : E = 1 := by rw [HE.out]; simp; omega
    have eR : R = [] := by rw [HR.out, if_neg (by rw [e]; decide)]
    subst e eR
    go_wp2
    refine bodyPost_ret (v := .tuple #[.slice none 0 0, .int .i64 1]) (by simp [results, go_sem]) rfl ?_
    exact ⟨_, rfl, Gro.nil _ _, B3.out⟩
  have zm : ¬ (3 : Int) < (m : Int) := by omega
  have e : E = 0 := by rw [HE.out]; simp; omega
  rw [if_pos e] at HR
  subst e
  have TE : Hid (teE s = 0) := HES.out.symm
  obtain ⟨kk, hkk⟩ : ∃ kk, kk = 20 + (otB s).length + n := ⟨_, rfl⟩
  have l35 : (otB s).length ≤ 35 := (otB_len s (by rw [LD.out.2]; omega)).1
  have zk : kk ≤ 1100 := by omega
  obtain ⟨cs, hcs⟩ : ∃ cs, cs = tsm x y s := ⟨_, rfl⟩
  have cb := tsm_bd x y s
  rw [← hcs] at cb
  obtain ⟨ZL, hZL⟩ : ∃ ZL, ZL = ldT s 0 := ⟨_, rfl⟩
  have LZL : Hid (ZL.length = kk) := by rw [hZL, ldT_len, LD.out.1, hkk]; exact rfl
  have EZ : Hid (csum (psB x y 6 (kk : Int) ++ ZL) = cs) := by
    have h := tsm_zero x y TE.out
    rw [LD.out.1] at h
    rw [hZL, hcs, ← h, hkk]
    unfold Hid
    congr 3
  have BZ : Hid (Bytes ZL) := by rw [hZL]; exact ldT_bytes OK.out TE.out 0
  have RL : Hid (R = ldT s cs) := by rw [HR.out, hcs]; exact (ldT_tsB TE.out).symm
  have K1 : Hid (∀ W, Below w3.heap.size w3 W → Calls Try.prog 35 #[.agg Z.toArray, .int .i64 0] W fun e W' => ∃ v, e = .returned v ∧ (∃ a c, v = .slice a kk c ∧ IsB W'.heap.size W' (.slice a kk c) ZL) ∧ Below W.heap.size W W') := fun W hW => by
    refine (LAI.out TE.out 0 W (by decide) (by decide) hW).mono ?_
    rintro _ W' ⟨v, rfl, g, hb⟩
    rw [← hZL] at g
    obtain ⟨a', c', e', _⟩ := g.isB.shape
    rw [LZL.out] at e'
    subst e'
    exact ⟨_, rfl, ⟨a', c', rfl, g.isB⟩, hb⟩
  have K2 : Hid (∀ W (a' : Option Addr) (c' : Nat), IsB W.heap.size W (.slice a' kk c') ZL → Calls Try.prog 36 #[x.val, y.val, .slice a' kk c'] W fun e W' => ∃ v, e = .returned v ∧ v = .int .i64 cs ∧ Below W.heap.size W W') := fun W a' c' hi => by
    have h := rSumT_any x y XO.out YO.out (.slice a' kk c') ZL W hi BZ.out (by rw [LZL.out]; omega)
    rw [LZL.out, EZ.out] at h
    refine h.mono ?_
    rintro _ W' ⟨rfl, hb⟩
    exact ⟨_, rfl, rfl, hb⟩
  have K3 : Hid (∀ W, Below w3.heap.size w3 W → Calls Try.prog 35 #[.agg Z.toArray, .int .i64 cs] W fun e W' => ∃ v, e = .returned v ∧ Gro w3.heap.size W' v R ∧ Below W.heap.size W W') := fun W hW => by
    refine (LAI.out TE.out cs W cb.1 cb.2 hW).mono ?_
    rintro _ W' ⟨v, rfl, g, hb⟩
    rw [← RL.out] at g
    exact ⟨_, rfl, g.low hW.size, hb⟩
  clear hkk hZL hcs k0 k1 k4 k5 k6
  go_upto_region 7 with fail
  clear k8
  have BW : ∀ W, Below w3.heap.size w3.drew W → Below w3.heap.size w3 W := fun W hb => later (later_drew _) hb
  rw [XV.out.1, XV.out.2] at K2
  refine region_grow (w := w3) (fun i v W => match i with | 0 => v = .agg Z.toArray | 1 => v = .agg X.toArray | 2 => v = .agg Y.toArray | 3 => v = .agg Z.toArray | 4 => ∃ a c, v = .slice a kk c ∧ IsB W.heap.size W (.slice a kk c) ZL | 5 => v = .int .i64 cs | 6 => Gro w3.heap.size W v R | 7 => Gro w3.heap.size W v R | 8 => v = .int .i64 0 | _ => True) (by kernel_rfl) (by kernel_rfl) (by kernel_rfl) (no_guard (by kernel_rfl)) (fun i v W W' h hb => match i, h with | 0, h => h | 1, h => h | 2, h => h | 3, h => h | 4, h => (by obtain ⟨a, c, e, h⟩ := h; exact ⟨a, c, e, h.later hb⟩) | 5, h => h | 6, h => Gro.later h hb | 7, h => Gro.later h hb | 8, h => h | _ + 9, h => h) ?_ ?_
  · intro listed a W hM hn i o ho hr
    have B := hM.bel
    match i, ho, hr with
    | 0, ho, hr =>
      have u5 : a.eval (.tmp 5) = .pointer (some ⟨b, 0, none⟩) := hM.keep (t := 5) (by kernel_rfl)
      exact Step.of rfl (.inl ⟨.agg Z.toArray, W, exec_loadA 26 10 aggSg sizSg _ rfl b 0 u5 Z LZ.out (CC.out W (BW W B)).2.2, Below.refl _ _, rfl⟩) ho
    | 1, ho, hr =>
      have u3 : a.eval (.tmp 3) = .pointer (some ⟨s1, 0, none⟩) := hM.keep (t := 3) (by kernel_rfl)
      exact Step.of rfl (.inl ⟨.agg X.toArray, W, exec_loadA 35 4 aggI sizI _ rfl s1 0 u3 X LX.out (CC.out W (BW W B)).1, Below.refl _ _, rfl⟩) ho
    | 2, ho, hr =>
      have u4 : a.eval (.tmp 4) = .pointer (some ⟨s2, 0, none⟩) := hM.keep (t := 4) (by kernel_rfl)
      exact Step.of rfl (.inl ⟨.agg Y.toArray, W, exec_loadA 35 4 aggI sizI _ rfl s2 0 u4 Y LY.out (CC.out W (BW W B)).2.1, Below.refl _ _, rfl⟩) ho
    | 3, ho, hr =>
      have u5 : a.eval (.tmp 5) = .pointer (some ⟨b, 0, none⟩) := hM.keep (t := 5) (by kernel_rfl)
      exact Step.of rfl (.inl ⟨.agg Z.toArray, W, exec_loadA 26 10 aggSg sizSg _ rfl b 0 u5 Z LZ.out (CC.out W (BW W B)).2.2, Below.refl _ _, rfl⟩) ho
    | 4, ho, hr =>
      have u52 := hM.use hr rfl (j := 3) (by kernel_rfl) rfl rfl
      have u52 : a.eval (.tmp 52) = .agg Z.toArray := u52
      refine Step.of rfl (.inr ⟨35, #[.agg Z.toArray, .int .i64 0], exec_callF _ _ _ _ rfl (map2 u52 rfl) (enters_of Try.func35 (by kernel_rfl) rfl), ?_⟩) ho
      exact K1.out W (BW W B)
    | 5, ho, hr =>
      have u50 := hM.use hr rfl (j := 1) (by kernel_rfl) rfl rfl
      have u50 : a.eval (.tmp 50) = .agg X.toArray := u50
      have u51 := hM.use hr rfl (j := 2) (by kernel_rfl) rfl rfl
      have u51 : a.eval (.tmp 51) = .agg Y.toArray := u51
      have u53 := hM.use hr rfl (j := 4) (by kernel_rfl) rfl rfl
      have u53 : (fun v W => ∃ a c, v = .slice a kk c ∧ IsB W.heap.size W (.slice a kk c) ZL) (a.eval (.tmp 53)) W := u53
      refine Step.of rfl (.inr ⟨36, #[.agg X.toArray, .agg Y.toArray, a.eval (.tmp 53)], exec_callF _ _ _ _ rfl (map3 u50 u51 rfl) (enters_of Try.func36 (by kernel_rfl) rfl), ?_⟩) ho
      exact by obtain ⟨a', c', e', h'⟩ := u53; rw [e']; exact K2.out W a' c' h'
    | 6, ho, hr =>
      have u49 := hM.use hr rfl (j := 0) (by kernel_rfl) rfl rfl
      have u49 : a.eval (.tmp 49) = .agg Z.toArray := u49
      have u54 := hM.use hr rfl (j := 5) (by kernel_rfl) rfl rfl
      have u54 : (fun v W => v = .int .i64 cs) (a.eval (.tmp 54)) W := u54
      refine Step.of rfl (.inr ⟨35, #[.agg Z.toArray, .int .i64 cs], exec_callF _ _ _ _ rfl (map2 u49 u54) (enters_of Try.func35 (by kernel_rfl) rfl), ?_⟩) ho
      exact K3.out W (BW W B)
    | 7, ho, hr =>
      have u55 := hM.use hr rfl (j := 6) (by kernel_rfl) rfl rfl
      have u55 : (fun v W => Gro w3.heap.size W v R) (a.eval (.tmp 55)) W := u55
      exact Step.of rfl (.inl ⟨_, W, exec_assign _ _ rfl rfl, Below.refl _ _, u55⟩) ho
    | 8, ho, hr =>
      exact Step.of rfl (.inl ⟨.int .i64 0, W, exec_assign _ _ rfl rfl, Below.refl _ _, rfl⟩) ho
    | n + 9, ho, _ => exact absurd (Array.getElem?_eq_some_iff.1 ho).1 (by simp)
  intro listed a W hM hl
  have B := hM.bel
  have p49 : a.tmps.getD 49 undef = .agg Z.toArray := hM.got 0 _ _ rfl (hl 0 (by decide)) rfl
  have p50 : a.tmps.getD 50 undef = .agg X.toArray := hM.got 1 _ _ rfl (hl 1 (by decide)) rfl
  have p51 : a.tmps.getD 51 undef = .agg Y.toArray := hM.got 2 _ _ rfl (hl 2 (by decide)) rfl
  have p52 : a.tmps.getD 52 undef = .agg Z.toArray := hM.got 3 _ _ rfl (hl 3 (by decide)) rfl
  have p53 : (fun v W => ∃ a c, v = .slice a kk c ∧ IsB W.heap.size W (.slice a kk c) ZL) (a.tmps.getD 53 undef) W := hM.got 4 _ _ rfl (hl 4 (by decide)) rfl
  have p54 : (fun v W => v = .int .i64 cs) (a.tmps.getD 54 undef) W := hM.got 5 _ _ rfl (hl 5 (by decide)) rfl
  have p55 : (fun v W => Gro w3.heap.size W v R) (a.tmps.getD 55 undef) W := hM.got 6 _ _ rfl (hl 6 (by decide)) rfl
  have p6 : (fun v W => Gro w3.heap.size W v R) (a.tmps.getD 6 undef) W := hM.got 7 _ _ rfl (hl 7 (by decide)) rfl
  have p7 : a.tmps.getD 7 undef = .int .i64 0 := hM.got 8 _ _ rfl (hl 8 (by decide)) rfl
  rw [hM.lit [49, 50, 51, 52, 53, 54, 55, 6, 7] (by kernel_rfl)]
  clear hM hl
  simp only [fill, List.foldl_cons, List.foldl_nil, Act.put, List.setIfInBounds_toArray, List.set_cons_zero, List.set_cons_succ]
  clear p49
  generalize a.tmps.getD 49 undef = x49 at *
  clear p50
  generalize a.tmps.getD 50 undef = x50 at *
  clear p51
  generalize a.tmps.getD 51 undef = x51 at *
  clear p52
  generalize a.tmps.getD 52 undef = x52 at *
  generalize a.tmps.getD 53 undef = x53 at *
  generalize a.tmps.getD 54 undef = x54 at *
  generalize a.tmps.getD 55 undef = x55 at *
  generalize a.tmps.getD 6 undef = x6 at *
  rw [p7]
  clear p7
  have BF := hide (later B3.out (BW W B))
  obtain ⟨a6, c6, e6, _⟩ := p6.isB.shape
  subst e6
  have GF : Hid (Gro w.heap.size W (.slice a6 R.length c6) R) := p6.low B3.out.size
  clear BW B p53 p54 p55 p6
  go_wp2
  refine bodyPost_ret (v := .tuple #[.slice a6 R.length c6, .int .i64 0]) (by simp [results, go_sem]) rfl ?_
  exact ⟨_, rfl, GF.out, BF.out⟩
end Go.Proofs.Ytggadchhkenipaa
