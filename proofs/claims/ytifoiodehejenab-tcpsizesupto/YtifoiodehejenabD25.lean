
/-
  TcpSizes: the walk.
-/
import Derived.Test.YtifoiodehejenabDRow
namespace Go.Proofs.Ytifoiodehejenab
open Go.RowKit Go.Shelf

theorem dif_size (a n : Int) (n0 : 0 ≤ n) (n1 : n < 2147483648) : dif ((a + n) % 4294967296) a = n := by
  have : (((a + n) % 4294967296) - a) % 4294967296 = n := by omega
  unfold dif
  rw [this, if_pos n1]
section
variable {ops : Array Oper} {rest : List Oper} {o : Oper} {a : Act} {w : World} {Q : Exit → Act → World → Prop}
theorem wpList_loadAg (T : TypeId) (n : Nat) (hag : ∀ W, (isAgg T).run Try.prog W = .ok true W) (hsz : ∀ W, (Go.sizeOf T).run Try.prog W = .ok n W) (x : Operand) (ho : o.op = .load T x)
    (s k : Nat) (hx : a.eval x = .pointer (some ⟨s, k, none⟩)) (vs : List Value) (hl : vs.length = n) (hg : CellsAt w s k vs) (hw : Region.wanted o (yielded ops a.tmps) = true)
    (h : wpList Try.prog ops Q rest (a.put o.dst (.agg vs.toArray)) w) : wpList Try.prog ops Q (o :: rest) a w := by
  refine wpList_step fun K hK => ?_
  rw [if_pos hw]
  unfold Oper.wp execOp
  have hg' := hg.loads
  rw [hl] at hg'
  simp only [ho, hx, Instr.loadAt, Instr.sureAddr, loadVar, Sem.run_bind, Sem.run_pure, Result.andThen_ok, hag, hsz, if_true, hg']
  exact hK _ _ h
end
set_option maxRecDepth 100000 in
set_option maxHeartbeats 8000000 in
theorem sizes_walk (s : Sg) (gv dv : Value) (w : World) (ok : s.Ok) (hd : IsB w.heap.size w dv s.dat) (hl : s.dat.length ≤ 1048576) :
    Calls Try.prog 3 #[.agg (s.cells gv dv).toArray] w fun e w' => e = .returned (.bool true) ∧ Below w.heap.size w w' := by
  obtain ⟨da, dc, rfl, _⟩ := hd
  obtain ⟨X, hX⟩ : ∃ X, X = s.cells gv (.slice da s.dat.length dc) := ⟨_, rfl⟩
  obtain ⟨E, hE⟩ : ∃ E, E = (rsS s).cells (.slice none 0 0) (.slice none 0 0) := ⟨_, rfl⟩
  obtain ⟨rb, hrb⟩ : ∃ rb, rb = rsB s := ⟨_, rfl⟩
  obtain ⟨z, hz⟩ : ∃ z, z = s.size := ⟨_, rfl⟩
  obtain ⟨sq, hsq⟩ : ∃ q, q = (rsS s).seq := ⟨_, rfl⟩
  obtain ⟨ak, hak⟩ : ∃ q, q = (rsS s).ack := ⟨_, rfl⟩
  obtain ⟨fl, hfl⟩ : ∃ f, f = s.flg := ⟨_, rfl⟩
  obtain ⟨n, hn⟩ : ∃ n, n = s.dat.length := ⟨_, rfl⟩
  obtain ⟨q, hq⟩ : ∃ q, q = s.seq := ⟨_, rfl⟩
  obtain ⟨p, hp⟩ : ∃ p, p = s.ack := ⟨_, rfl⟩
  have C1 : Hid (∀ W, Calls Try.prog 6 #[.agg X.toArray] W fun e w' => e = .returned (.tuple #[.agg E.toArray, .bool rb]) ∧ Below W.heap.size W w') := fun W => by rw [hrb, hE, hX]; exact Reset_any s ok gv da dc W (by omega)
  have C2 : Hid (∀ W, Calls Try.prog 8 #[.agg X.toArray] W fun e w' => e = .returned (.int .i64 z) ∧ Below W.heap.size W w') := fun W => by rw [hz, hX]; exact Size_any s gv da dc W (by omega)
  have HZ : Hid (z = (n : Int) + (if fl / 2 % 2 = 1 then 1 else 0) + (if fl % 2 = 1 then 1 else 0)) := by
    rw [hz, hn, hfl]
    unfold Hid Sg.size hasB
    simp
  have RA : Hid (rb = true → fl / 16 % 2 = 0 → sq = 0 ∧ dif ak q = z) := fun h1 h2 => by
    rw [hrb] at h1
    have r4 : ¬ hasB s.flg 4 = true := by unfold rsB at h1; intro e; rw [e] at h1; cases h1
    have r16 : ¬ hasB s.flg 16 = true := by unfold hasB; rw [← hfl, decide_eq_true_eq]; omega
    have er : rsS s = ⟨s.dst, s.src, 0, (s.seq + s.size) % 4294967296, 20, 0, 0, false, [], []⟩ := by unfold rsS; rw [if_neg r4, if_neg r16]
    rw [hsq, hak, er, hq, hz]
    refine ⟨rfl, dif_size _ _ ?_ ?_⟩
    · rw [← hz, HZ.out]; split <;> split <;> omega
    · rw [← hz, HZ.out]; split <;> split <;> omega
  have RB : Hid (rb = true → fl / 16 % 2 = 1 → sq = p) := fun h1 h2 => by
    rw [hrb] at h1
    have r4 : ¬ hasB s.flg 4 = true := by unfold rsB at h1; intro e; rw [e] at h1; cases h1
    have r16 : hasB s.flg 16 = true := by unfold hasB; rw [← hfl, decide_eq_true_eq]; exact h2
    rw [hsq, hp]
    unfold rsS
    rw [if_neg r4, if_pos r16]
  have E2 : Hid (E[2]? = some (.int .u32 sq) ∧ E[3]? = some (.int .u32 ak)) := by rw [hE, hsq, hak]; exact ⟨rfl, rfl⟩
  have LX : Hid (X.length = 10) := by rw [hX]; exact rfl
  have LE : Hid (E.length = 10) := by rw [hE]; exact rfl
  have OE : Hid (∀ u ∈ E, u.oneCell' = true) := by rw [hE]; exact sg_one _ _ _ rfl rfl
  have AW := hide (fun W => tAwake_any W)
  obtain ⟨w1, bx, hs1, hw1, c1, f1, B1, l1⟩ := boxS w s gv (.slice da s.dat.length dc)
  have x2 : X[2]? = some (.int .u32 q) := by rw [hX, hq]; rfl
  have x3 : X[3]? = some (.int .u32 p) := by rw [hX, hp]; rfl
  have x4 : X[4]? = some (.int .i64 fl) := by rw [hX, hfl]; rfl
  have x9 : X[9]? = some (.slice da n dc) := by rw [hX, hn]; rfl
  have HX := hide (And.intro (And.intro x2 x3) (And.intro x4 x9))
  rw [← hX] at c1 ⊢
  have CX := hide c1
  have EX : X.toArray = #[.int .i64 s.src, .int .i64 s.dst, .int .u32 s.seq, .int .u32 s.ack, .int .i64 s.flg, .int .i64 s.wnd, .int .i64 s.mss, .bool s.sak, gv, .slice da s.dat.length dc] := by rw [hX]; rfl
  rw [← EX] at hw1
  rw [← hn] at hl
  have zn : (n : Int) ≤ 1048576 := by omega
  have hs' := hs1.symm
  have hw' := hw1.symm
  have HB1 := hide B1
  clear hs1 hw1 c1 f1 B1 hX EX x2 x3 x4 x9 hE hrb hz hsq hak hfl hn hq hp
  go_enter Try.func3, Try.ntmps3
  go_upto_region 1 with fail
  clear hs' hw'
  go_wp2_with fail
  refine (AW.out w1).mono ?_
  rintro _ w2 ⟨rfl, b2⟩
  have B2 := hide (later HB1.out b2)
  have U2 := hide (((CX.out.up l1)).next b2)
  have CX := hide U2.out.now
  have k4 : w2.cell? ⟨bx, 4, none⟩ = some (.int .i64 fl) := CX.out 4 _ HX.out.2.1
  have k9 : w2.cell? ⟨bx, 9, none⟩ = some (.slice da n dc) := CX.out 9 _ HX.out.2.2
  clear b2 HB1 AW
  by_cases h1 : fl < 0
  · go_wp2
    go_ret
    exact ⟨rfl, B2.out⟩
  by_cases h2 : 31 < fl
  · go_wp2
    go_ret
    exact ⟨rfl, B2.out⟩
  go_upto_if 23 with fail
  obtain ⟨m, hm⟩ : ∃ m, m = (n : Int) + (if fl % 2 = 1 then 1 else 0) := ⟨_, rfl⟩
  have m0 : 0 ≤ m ∧ m ≤ 1048577 := by rw [hm]; split <;> omega
  have HM := hide hm
  clear hm
  go_cut [4] (fun v wc => v = .int .i64 m ∧ w2 = wc)
  case first =>
    by_cases h0 : fl % 2 = 1
    · have q0 : (fl % 2 == 1) = true := by simpa using h0
      have e1 : (n : Int) + 1 = m := by rw [HM.out, if_pos h0]
      have HE1 := hide e1
      clear h0 e1 m0
      go_wp2
      go_meet
      case rel => exact ⟨by rw [← HE1.out], rfl⟩
    · have q0 : (fl % 2 == 1) = false := by simpa using h0
      have e1 : (n : Int) = m := by rw [HM.out, if_neg h0]; omega
      have HE1 := hide e1
      clear h0 e1 m0
      go_wp2
      go_meet
      case rel => exact ⟨by rw [← HE1.out], rfl⟩
  case rest =>
    obtain ⟨rfl, hcw⟩ := hcut
    subst hcw
    go_upto_if 30 with fail
    go_cut [4] (fun v wc => v = .int .i64 z ∧ w2 = wc)
    case first =>
      by_cases h0 : fl / 2 % 2 = 1
      · have q0 : (fl / 2 % 2 == 1) = true := by simpa using h0
        have e1 : m + 1 = z := by rw [HZ.out, HM.out, if_pos h0]; omega
        have HE1 := hide e1
        clear h0 e1
        go_wp2
        go_meet
        case rel => exact ⟨by rw [← HE1.out], rfl⟩
      · have q0 : (fl / 2 % 2 == 1) = false := by simpa using h0
        have e1 : m = z := by rw [HZ.out, HM.out, if_neg h0]; omega
        have HE1 := hide e1
        clear h0 e1
        go_wp2
        go_meet
        case rel => exact ⟨by rw [← HE1.out], rfl⟩
    case rest =>
      obtain ⟨rfl, hcw⟩ := hcut
      subst hcw
      clear k9
      go_wp2_with (refine wpList_loadA rfl 26 10 aggSg sizSg _ rfl bx 0 rfl X LX.out CX.out ?_)
      refine (C1.out w2).mono ?_
      rintro _ w3 ⟨rfl, b3⟩
      obtain ⟨u4, w4, hu4, hw4, cu4, fu4, c4, b4, l4, _⟩ := newS w3 E LE.out
      obtain ⟨s4, hs4⟩ : ∃ s4, s4 = w3.heap.size := ⟨_, rfl⟩
      rw [← hs4] at hw4 cu4 fu4 c4 l4
      have B4 := hide (later (later B2.out b3) b4)
      have U4 := hide (((U2.out.next b3).next b4).and (c4.up l4))
      have CU4 := hide cu4
      have FU4 := hide fu4
      have j2 : w4.cell? ⟨bx, 2, none⟩ = some (.int .u32 q) := U4.out.now.1 2 _ HX.out.1.1
      have j3 : w4.cell? ⟨bx, 3, none⟩ = some (.int .u32 p) := U4.out.now.1 3 _ HX.out.1.2
      have j4 : w4.cell? ⟨bx, 4, none⟩ = some (.int .i64 fl) := U4.out.now.1 4 _ HX.out.2.1
      have i2 : w4.cell? ⟨s4, 2, none⟩ = some (.int .u32 sq) := c4 2 _ E2.out.1
      have i3 : w4.cell? ⟨s4, 3, none⟩ = some (.int .u32 ak) := c4 3 _ E2.out.2
      have CX := hide U4.out.now.1
      have hu4' := hu4.symm
      simp only [zSC, zSg, Sg.cells] at hu4'
      have hw4' := hw4.symm
      have hs4' := hs4.symm
      clear hu4 hw4 hs4 cu4 fu4 c4 b3 b4 l4 U2 C1 B2 k4
      go_upto_region 10 with (refine wpList_storeA rfl 26 10 sizSg _ _ rfl s4 0 rfl E zSC rfl LE.out rfl CU4.out FU4.out OE.out ?_; intro _; rw [hw4'])
      clear hu4' hw4' hs4' CU4 FU4
      cases rb with
      | false =>
        go_upto_region 12 with fail
        go_wp2_with (refine wpList_loadAg 26 10 aggSg sizSg _ rfl bx 0 rfl X LX.out CX.out (by kernel_rfl) ?_)
        refine (C2.out w4).mono ?_
        rintro _ w5 ⟨rfl, b5⟩
        have B5 := hide (later B4.out b5)
        clear j2 j3 j4 i2 i3 b5
        go_wp2
        go_ret
        exact ⟨rfl, B5.out⟩
      | true =>
        by_cases h16 : fl / 16 % 2 = 0
        · have q0 : (fl / 16 % 2 == 0) = true := by simpa using h16
          have q1 : (fl / 16 % 2 == 1) = false := by simp; omega
          obtain ⟨rfl, dz⟩ := RA.out rfl h16
          have DF := Diff_any ak q w4
          rw [dz] at DF
          have HDF := hide DF
          clear h16 dz DF RA RB
          go_wp2_with fail
          refine HDF.out.mono ?_
          rintro _ wx ⟨rfl, hw⟩
          rw [hw]
          clear hw wx HDF
          go_upto_region 12 with fail
          clear j2 j3 j4 i2 i3
          go_wp2_with (refine wpList_loadAg 26 10 aggSg sizSg _ rfl bx 0 rfl X LX.out CX.out (by kernel_rfl) ?_)
          refine (C2.out w4).mono ?_
          rintro _ w5 ⟨rfl, b5⟩
          have B5 := hide (later B4.out b5)
          clear b5
          go_wp2
          go_ret
          exact ⟨rfl, B5.out⟩
        · have q0 : (fl / 16 % 2 == 0) = false := by simpa using h16
          have q1 : (fl / 16 % 2 == 1) = true := by simp; omega
          have e := RB.out rfl (by omega)
          subst e
          clear h16 RA RB
          go_upto_region 12 with fail
          clear j2 j3 j4 i2 i3
          go_wp2_with (refine wpList_loadAg 26 10 aggSg sizSg _ rfl bx 0 rfl X LX.out CX.out (by kernel_rfl) ?_)
          refine (C2.out w4).mono ?_
          rintro _ w5 ⟨rfl, b5⟩
          have B5 := hide (later B4.out b5)
          clear b5
          go_wp2
          go_ret
          exact ⟨rfl, B5.out⟩
end Go.Proofs.Ytifoiodehejenab
