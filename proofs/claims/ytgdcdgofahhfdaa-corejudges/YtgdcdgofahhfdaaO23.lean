
/-
  The document's answer for package core: window, acceptable, sent.
-/
import Derived.Test.YtgdcdgofahhfdaaO14
import Derived.Test.YtgdcdgofahhfdaaO20
namespace Go.Proofs.Ytgdcdgofahhfdaa
open Go.RowKit Go.Shelf

def rwin (c : Ct) : Int := if win c < 0 then 0 else win c
theorem wit_rwin (c : Ct) (n : Int) : wit n c.rcv (rwin c) = wanted c n := by
  unfold rwin wanted
  split
  · unfold wit
    rw [decide_eq_false (by omega), decide_eq_false (by omega)]
  · rfl
theorem rwindow_any (c : Ct) (hc : c.Ok) (w : World) : Calls Try.prog 29 #[.agg c.cells.toArray] w fun e w' => e = .returned (.int .i64 (rwin c)) ∧ Below w.heap.size w w' := by
  obtain ⟨w1, b, hs, hw, c1, f1, b1, l1⟩ := boxC w c
  rw [show (Value.agg c.cells.toArray) = .agg #[.int .i64 c.st, .int .u32 c.iss, .int .u32 c.una, .int .u32 c.nxt, .bool c.fs, .int .i64 c.wnd, .int .u32 c.wl1, .int .u32 c.wl2, .int .u32 c.irs, .int .u32 c.rcv, .int .u32 c.adv] from rfl]
  have x9 : w1.cell? ⟨b, 9, none⟩ = some (.int .u32 c.rcv) := c1 9 _ rfl
  have x10 : w1.cell? ⟨b, 10, none⟩ = some (.int .u32 c.adv) := c1 10 _ rfl
  have D := rDiff_any c.adv c.rcv hc.adv hc.rcv w1
  obtain ⟨d, hd⟩ : ∃ d, d = dif c.adv c.rcv := ⟨_, rfl⟩
  rw [← hd] at D
  have HD := hide D
  have RW : Hid (rwin c = if d < 0 then 0 else d) := by rw [hd]; exact rfl
  have B1 := hide b1
  have hs' := hs.symm
  have hw' := hw.symm
  clear hs hw c1 f1 b1 l1 D hd
  go_enter Try.func29, Try.ntmps29
  go_wp2_with fail
  clear hs' hw'
  refine HD.out.mono ?_
  rintro _ wx ⟨rfl, hwx⟩
  rw [hwx]
  clear hwx wx HD
  by_cases h : d < 0
  · go_wp2
    go_ret
    exact ⟨by rw [RW.out, if_pos h]; rfl, B1.out⟩
  · go_wp2
    go_ret
    exact ⟨by rw [RW.out, if_neg (by omega)]; rfl, B1.out⟩
/-- a block with an empty verdict -/
theorem boxZV (w : World) : ∃ w1 b, b = w.heap.size ∧ w1 = w.alloc (.cells zVd.cells.toArray 32) ∧ Box w1 b zVd.cells ∧ Below w.heap.size w w1 :=
  ⟨_, _, rfl, rfl, ⟨CellsAt.new w _ _, fun _ => frozen_new w _ _ _, by simp⟩, later_alloc _ _⟩
section
variable {c : Ct} {s : Sg} {gv : Value} {da : Option Addr} {dc : Nat}
set_option maxHeartbeats 8000000 in
theorem racceptable_any (hc : c.Ok) (hs : s.Ok) (_ : gv.oneCell' = true) (hl : s.dat.length ≤ 140737488351232) (w : World) : Calls Try.prog 26 #[.agg c.cells.toArray, .agg (s.cells gv (.slice da s.dat.length dc)).toArray] w fun e w' => e = .returned (.bool (accB c s)) ∧ Below w.heap.size w w' := by
  obtain ⟨w1, w2, bcc, bss, hs1, hw1, hs2, hw2, u1, u2, n12, z1, b2⟩ := boxCS w c s gv (.slice da s.dat.length dc)
  rw [show (Value.agg c.cells.toArray) = .agg #[.int .i64 c.st, .int .u32 c.iss, .int .u32 c.una, .int .u32 c.nxt, .bool c.fs, .int .i64 c.wnd, .int .u32 c.wl1, .int .u32 c.wl2, .int .u32 c.irs, .int .u32 c.rcv, .int .u32 c.adv] from rfl]
  rw [show (Value.agg (s.cells gv (.slice da s.dat.length dc)).toArray) = .agg #[.int .i64 s.src, .int .i64 s.dst, .int .u32 s.seq, .int .u32 s.ack, .int .i64 s.flg, .int .i64 s.wnd, .int .i64 s.mss, .bool s.sak, gv, .slice da s.dat.length dc] from rfl]
  have BB := hide b2
  have HC := hide hc
  have HS := hide hs
  have ZBcc : Hid (w.heap.size ≤ bcc) := z1
  have ZBss : Hid (w.heap.size ≤ bss) := by unfold Hid; omega
  have D_cc_ss : Hid (bcc < bss) := n12
  obtain ⟨Xcc, hXcc⟩ : ∃ X, X = c.cells := ⟨_, rfl⟩
  have LXcc : Hid (Xcc.length = 11) := by rw [hXcc]; exact rfl
  have Ucc : Hid (Box w2 bcc Xcc) := by rw [hXcc]; exact u1
  have EXcc := hide hXcc
  clear hXcc
  obtain ⟨Xss, hXss⟩ : ∃ X, X = s.cells gv (.slice da s.dat.length dc) := ⟨_, rfl⟩
  have LXss : Hid (Xss.length = 10) := by rw [hXss]; exact rfl
  have Uss : Hid (Box w2 bss Xss) := by rw [hXss]; exact u2
  have EXss := hide hXss
  clear hXss
  have hs1' := hs1.symm
  have hw1' := hw1.symm
  have hs2' := hs2.symm
  have hw2' := hw2.symm
  clear hs1 hw1 hs2 hw2 u1 u2 n12 z1 b2 hc hs
  obtain ⟨R, hR⟩ : ∃ R, R = accB c s := ⟨_, rfl⟩
  rw [← hR]
  obtain ⟨n, hn⟩ : ∃ n, n = s.size := ⟨_, rfl⟩
  have SZ : Hid (∀ W, Calls Try.prog 21 #[.agg Xss.toArray] W fun e w' => e = .returned (.int .i64 n) ∧ Below W.heap.size W w') := fun W => by rw [hn, EXss.out]; exact rSize_any s gv da dc W (by omega)
  obtain ⟨m, hm⟩ : ∃ m, m = rwin c := ⟨_, rfl⟩
  have WD : Hid (∀ W, Calls Try.prog 29 #[.agg Xcc.toArray] W fun e w' => e = .returned (.int .i64 m) ∧ Below W.heap.size W w') := fun W => by rw [hm, EXcc.out]; exact rwindow_any c HC.out W
  obtain ⟨a1, ha1⟩ : ∃ a, a = wanted c s.seq := ⟨_, rfl⟩
  obtain ⟨sq, hsq⟩ : ∃ sq, sq = (s.seq + (n - 1)) % 4294967296 := ⟨_, rfl⟩
  obtain ⟨a2, ha2⟩ : ∃ a, a = wanted c sq := ⟨_, rfl⟩
  have I1 : Hid (∀ W, Calls Try.prog 22 #[.int .u32 s.seq, .int .u32 c.rcv, .int .i64 m] W fun e w' => e = .returned (.bool a1) ∧ w' = W) := fun W => by rw [ha1, ← wit_rwin, hm]; exact rWithin_any s.seq c.rcv (rwin c) HS.out.seq HC.out.rcv W
  have I2 : Hid (∀ W, Calls Try.prog 22 #[.int .u32 sq, .int .u32 c.rcv, .int .i64 m] W fun e w' => e = .returned (.bool a2) ∧ w' = W) := fun W => by rw [ha2, ← wit_rwin, hm]; exact rWithin_any sq c.rcv (rwin c) (by omega) HC.out.rcv W
  have nn := size_nn s
  rw [← hn] at nn
  obtain ⟨n0, n1⟩ := nn
  have m0 : 0 ≤ m ∧ (0 < win c ↔ 0 < m) := by rw [hm]; unfold rwin; split <;> omega
  have AC : Hid (R = if 0 < n then a1 || a2 else if 0 < win c then a1 else decide (s.seq = c.rcv)) := by rw [hR, ha1, ha2, hsq, hn]; exact rfl
  obtain ⟨mm0, mm1⟩ := m0
  have MM := hide mm1
  clear hR hn hm ha1 ha2 mm1
  go_enter Try.func26, Try.ntmps26
  go_upto_region 1 with fail
  clear hs1' hw1' hs2' hw2'
  go_wp2_with (refine wpList_loadA rfl 28 10 aggSg sizSg _ rfl bss 0 rfl Xss LXss.out Uss.out.1 ?_)
  refine (SZ.out _).mono ?_
  rintro _ wv1 ⟨rfl, bz⟩
  replace Ucc := hide (Ucc.out.later bz)
  replace Uss := hide (Uss.out.later bz)
  replace BB := hide (later BB.out bz)
  clear bz
  clear SZ
  go_wp2_with (refine wpList_loadA rfl 24 11 aggCt sizCt _ rfl bcc 0 rfl Xcc LXcc.out Ucc.out.1 ?_)
  refine (WD.out _).mono ?_
  rintro _ wv2 ⟨rfl, bz⟩
  replace Ucc := hide (Ucc.out.later bz)
  replace Uss := hide (Uss.out.later bz)
  replace BB := hide (later BB.out bz)
  clear bz
  clear WD
  have k1 : wv2.cell? ⟨bss, 2, none⟩ = some (.int .u32 s.seq) := by have h := Uss.out.1 2 (.int .u32 s.seq) (by rw [EXss.out]; rfl); rw [Nat.zero_add] at h; exact h
  have k2 : wv2.cell? ⟨bcc, 9, none⟩ = some (.int .u32 c.rcv) := by have h := Ucc.out.1 9 (.int .u32 c.rcv) (by rw [EXcc.out]; rfl); rw [Nat.zero_add] at h; exact h
  by_cases hn0 : n = 0
  · have q1 : (n == 0) = true := by simpa using hn0
    have p1 : ¬ 0 < n := by omega
    clear hn0 hsq
    by_cases hm0 : m = 0
    · have q2 : (m == 0) = true := by simpa using hm0
      have p2 : ¬ 0 < win c := by rw [MM.out]; omega
      clear hm0 p1 n0 n1 mm0
      go_wp2
      go_ret
      have AC2 : Hid (R = decide (s.seq = c.rcv)) := by unfold Hid; rw [AC.out, if_neg (by simp at q1; omega), if_neg (by omega)]
      go_wp2
      exact ⟨by rw [AC2.out]; rfl, BB.out⟩
    · have q2 : (m == 0) = false := by simpa using hm0
      have AC2 : Hid (R = a1) := by unfold Hid; rw [AC.out, if_neg p1, if_pos (by rw [MM.out]; omega)]
      clear hm0 p1
      go_wp2_with fail
      refine (I1.out _).mono ?_
      rintro _ wx ⟨rfl, hwx⟩
      rw [hwx]
      clear hwx wx
      go_wp2
      go_ret
      exact ⟨by rw [AC2.out]; rfl, BB.out⟩
  · have q1 : (n == 0) = false := by simpa using hn0
    have AC2 : Hid (R = (a1 || a2)) := by unfold Hid; rw [AC.out, if_pos (by omega)]
    clear hn0
    go_wp2_with fail
    refine (I1.out _).mono ?_
    rintro _ wx ⟨rfl, hwx⟩
    rw [hwx]
    clear hwx wx
    go_wp2_with fail
    rw [show (s.seq + n - 1) % 4294967296 = sq from by rw [hsq]; omega]
    refine (I2.out _).mono ?_
    rintro _ wx ⟨rfl, hwx⟩
    rw [hwx]
    clear hwx wx
    cases a1 with
    | true =>
      go_wp2
      go_ret
      exact ⟨by rw [AC2.out]; rfl, BB.out⟩
    | false =>
      go_wp2
      go_ret
      exact ⟨by rw [AC2.out]; rfl, BB.out⟩
theorem judge_sent (h : c.st = 1) : judge c s = if hasB s.flg 16 = true ∧ s.ack ≠ c.nxt then ⟨c, if hasB s.flg 4 = true then 0 else 2, 0, false, false, 0, 0, false⟩
    else if hasB s.flg 4 = true then ⟨c, 0, if hasB s.flg 16 = true then 215 else 0, false, false, 0, 0, false⟩
    else if hasB s.flg 2 = true then (if hasB s.flg 16 = true then ⟨{ synC c s with st := 3, wl2 := s.ack, una := s.ack }, 1, 0, true, false, 0, 0, false⟩ else ⟨{ synC c s with st := 2, wl2 := c.iss }, 3, 0, false, false, 0, 0, false⟩)
    else ⟨c, 0, 0, false, false, 0, 0, false⟩ := by
  have e : judgeR c s = runS s FS3 c zVd := by unfold judgeR; rw [if_pos h]
  unfold judge
  rw [e]
  unfold FS3
  by_cases h1 : hasB s.flg 16 = true ∧ s.ack ≠ c.nxt
  · rw [runS_stop (c' := c) (v' := if hasB s.flg 4 = true then zVd else { zVd with rep := 2 }) (by unfold fStray; rw [if_pos h1]), if_pos h1]
    by_cases h4 : hasB s.flg 4 = true
    · rw [if_pos h4, if_pos h4]; rfl
    · rw [if_neg h4, if_neg h4]; rfl
  · rw [runS_go (c' := c) (v' := zVd) (by unfold fStray; rw [if_neg h1]), if_neg h1]
    by_cases h4 : hasB s.flg 4 = true
    · rw [runS_stop (c' := c) (v' := if hasB s.flg 16 = true then { zVd with en := 215 } else zVd) (by unfold fRefuse; rw [if_pos h4]), if_pos h4]
      split <;> rfl
    · rw [runS_go (c' := c) (v' := zVd) (by unfold fRefuse; rw [if_neg h4]), if_neg h4]
      by_cases h2 : hasB s.flg 2 = true
      · by_cases h6 : hasB s.flg 16 = true
        · rw [runS_stop (by unfold fMeets; rw [if_pos h2, if_pos h6]), if_pos h2, if_pos h6]
          rfl
        · rw [runS_stop (by unfold fMeets; rw [if_pos h2, if_neg h6]), if_pos h2, if_neg h6]
          rfl
      · rw [runS_stop (by unfold fMeets; rw [if_neg h2]), if_neg h2]
        rfl
theorem exec_bldV {o : Oper} {w : World} {ev : Operand → Value} (x0 : Operand) (c : Ct) (ho : o.op = .build 32 #[(0, x0)]) (h0 : ev x0 = .agg c.cells.toArray) : (execOp ev o).run Try.prog w = .ok (.value (.agg (⟨c, 0, 0, false, false, 0, 0, false⟩ : Vd).cells.toArray)) w := by
  unfold execOp
  rw [ho]
  simp only [List.map_toArray, List.map_cons, List.map_nil, h0]
  kernel_rfl
set_option maxRecDepth 100000 in
set_option maxHeartbeats 32000000 in
theorem rsent_any (hc : c.Ok) (hs : s.Ok) (_ : gv.oneCell' = true) (h1 : c.st = 1) (w : World) : Calls Try.prog 25 #[.agg c.cells.toArray, .agg (s.cells gv (.slice da s.dat.length dc)).toArray] w fun e w' => e = .returned (.agg (judge c s).cells.toArray) ∧ Below w.heap.size w w' := by
  obtain ⟨w1, w2, bcc, bss, hs1, hw1, hs2, hw2, u1, u2, n12, z1, b2⟩ := boxCS w c s gv (.slice da s.dat.length dc)
  rw [show (Value.agg c.cells.toArray) = .agg #[.int .i64 c.st, .int .u32 c.iss, .int .u32 c.una, .int .u32 c.nxt, .bool c.fs, .int .i64 c.wnd, .int .u32 c.wl1, .int .u32 c.wl2, .int .u32 c.irs, .int .u32 c.rcv, .int .u32 c.adv] from rfl]
  rw [show (Value.agg (s.cells gv (.slice da s.dat.length dc)).toArray) = .agg #[.int .i64 s.src, .int .i64 s.dst, .int .u32 s.seq, .int .u32 s.ack, .int .i64 s.flg, .int .i64 s.wnd, .int .i64 s.mss, .bool s.sak, gv, .slice da s.dat.length dc] from rfl]
  have BB := hide b2
  have HC := hide hc
  have HS := hide hs
  have ZBcc : Hid (w.heap.size ≤ bcc) := z1
  have ZBss : Hid (w.heap.size ≤ bss) := by unfold Hid; omega
  have D_cc_ss : Hid (bcc < bss) := n12
  obtain ⟨Xcc, hXcc⟩ : ∃ X, X = c.cells := ⟨_, rfl⟩
  have LXcc : Hid (Xcc.length = 11) := by rw [hXcc]; exact rfl
  have Ucc : Hid (Box w2 bcc Xcc) := by rw [hXcc]; exact u1
  have EXcc := hide hXcc
  clear hXcc
  obtain ⟨Xss, hXss⟩ : ∃ X, X = s.cells gv (.slice da s.dat.length dc) := ⟨_, rfl⟩
  have LXss : Hid (Xss.length = 10) := by rw [hXss]; exact rfl
  have Uss : Hid (Box w2 bss Xss) := by rw [hXss]; exact u2
  have EXss := hide hXss
  clear hXss
  have hs1' := hs1.symm
  have hw1' := hw1.symm
  have hs2' := hs2.symm
  have hw2' := hw2.symm
  clear hs1 hw1 hs2 hw2 u1 u2 n12 z1 b2 hc hs
  obtain ⟨w3, brr, hs3, hw3, u3, b3⟩ := boxZV w2
  have D_cc_rr : Hid (bcc < brr) := by have h := Ucc.out.2.2; unfold Hid; omega
  have D_ss_rr : Hid (bss < brr) := by have h := Uss.out.2.2; unfold Hid; omega
  have ZBrr : Hid (w.heap.size ≤ brr) := by have h := BB.out.size; unfold Hid; omega
  replace Ucc := hide (Ucc.out.later b3)
  replace Uss := hide (Uss.out.later b3)
  replace BB := hide (later BB.out b3)
  obtain ⟨Xrr, hXrr⟩ : ∃ X, X = zVd.cells := ⟨_, rfl⟩
  have LXrr : Hid (Xrr.length = 18) := by rw [hXrr]; exact rfl
  have Urr : Hid (Box w3 brr Xrr) := by rw [hXrr]; exact u3
  have EXrr := hide hXrr
  clear hXrr
  have hs3' := hs3.symm
  have hw3' := hw3.symm
  simp only [zVd, zCt, Vd.cells] at hw3'
  clear hs3 hw3 u3 b3
  have JS := judge_sent (s := s) h1
  obtain ⟨R, hR⟩ : ∃ R, R = judge c s := ⟨_, rfl⟩
  rw [← hR] at JS ⊢
  obtain ⟨h2, e2⟩ : ∃ h, h = hasB s.flg 2 := ⟨_, rfl⟩
  have H2 : Hid (∀ W, Calls Try.prog 27 #[.agg Xss.toArray, .int .i64 2] W fun e w' => e = .returned (.bool h2) ∧ Below W.heap.size W w') := fun W => by rw [e2, EXss.out]; exact rHas15_any s gv (.slice da s.dat.length dc) 2 (by decide) W
  obtain ⟨h16, e16⟩ : ∃ h, h = hasB s.flg 16 := ⟨_, rfl⟩
  have H16 : Hid (∀ W, Calls Try.prog 27 #[.agg Xss.toArray, .int .i64 16] W fun e w' => e = .returned (.bool h16) ∧ Below W.heap.size W w') := fun W => by rw [e16, EXss.out]; exact rHas15_any s gv (.slice da s.dat.length dc) 16 (by decide) W
  obtain ⟨h4, e4⟩ : ∃ h, h = hasB s.flg 4 := ⟨_, rfl⟩
  have H4 : Hid (∀ W, Calls Try.prog 27 #[.agg Xss.toArray, .int .i64 4] W fun e w' => e = .returned (.bool h4) ∧ Below W.heap.size W w') := fun W => by rw [e4, EXss.out]; exact rHas15_any s gv (.slice da s.dat.length dc) 4 (by decide) W
  rw [← e2, ← e16, ← e4] at JS
  have HJ := hide JS
  clear JS hR e2 e16 e4 h1
  go_enter Try.func25, Try.ntmps25
  go_upto_region 1 with fail
  clear hs1' hw1' hs2' hw2' hs3' hw3'
  have BV : Hid (∀ (o : Oper) (ev : Operand → Value) (W : World) (x0 : Operand), o.op = .build 32 #[(0, x0)] → ev x0 = .agg Xcc.toArray → (execOp ev o).run Try.prog W = .ok (.value (.agg (⟨c, 0, 0, false, false, 0, 0, false⟩ : Vd).cells.toArray)) W) := fun o ev W x0 ho h0 => by rw [EXcc.out] at h0; exact exec_bldV x0 c ho h0
  have UcO := hide Ucc.out.1
  obtain ⟨Xvv, hXvv⟩ : ∃ X, X = (⟨c, 0, 0, false, false, 0, 0, false⟩ : Vd).cells := ⟨_, rfl⟩
  have LXvv : Hid (Xvv.length = 18) := by rw [hXvv]; exact rfl
  have OXvv : Hid (∀ u ∈ Xvv, u.oneCell' = true) := by rw [hXvv]; exact vd_one _
  try rw [← hXvv]
  obtain ⟨uv2, wv1, huvv, hwvv, cuvv, fuvv, ccvv, bzvv, lzvv, ffvv⟩ := newVd w3 Xvv LXvv.out
  obtain ⟨bvv, hbvv⟩ : ∃ b, b = w3.heap.size := ⟨_, rfl⟩
  rw [← hbvv] at hwvv cuvv fuvv ccvv lzvv ffvv
  have EXvv := hide hXvv
  have D_cc_vv : Hid (bcc < bvv) := by have h := Ucc.out.2.2; unfold Hid; omega
  have D_ss_vv : Hid (bss < bvv) := by have h := Uss.out.2.2; unfold Hid; omega
  have D_rr_vv : Hid (brr < bvv) := by have h := Urr.out.2.2; unfold Hid; omega
  have ZBvv : Hid (w.heap.size ≤ bvv) := by have h := BB.out.size; unfold Hid; omega
  replace Ucc := hide (Ucc.out.later bzvv)
  replace Uss := hide (Uss.out.later bzvv)
  replace Urr := hide (Urr.out.later bzvv)
  replace BB := hide (later BB.out bzvv)
  have Uvv : Hid (Box wv1 bvv Xvv) := ⟨ccvv, ffvv, lzvv⟩
  have CUvv := hide cuvv
  have FUvv := hide fuvv
  have huvv' := huvv.symm
  simp only [zVdL, zVd, zCt, Vd.cells] at huvv'
  have hwvv' := hwvv.symm
  have hbvv' := hbvv.symm
  clear hXvv huvv hwvv cuvv fuvv ccvv bzvv lzvv hbvv ffvv
  rw [← EXvv.out] at BV
  go_upto_region 2 with (first | refine wpList_loadA rfl 24 11 aggCt sizCt _ rfl bcc 0 rfl Xcc LXcc.out UcO.out ?_ | refine wpList_val rfl (BV.out _ _ _ _ rfl rfl) ?_ | (refine wpList_storeA rfl 32 18 sizVd _ _ rfl bvv 0 rfl Xvv zVdL rfl LXvv.out rfl CUvv.out FUvv.out OXvv.out ?_; intro hcs; clear hcs; rw [hwvv']))
  clear huvv' hwvv' hbvv' CUvv FUvv OXvv
  clear BV UcO
  go_wp2_with (refine wpList_loadA rfl 28 10 aggSg sizSg _ rfl bss 0 rfl Xss LXss.out Uss.out.1 ?_)
  refine (H2.out _).mono ?_
  rintro _ wv3 ⟨rfl, bz⟩
  replace Ucc := hide (Ucc.out.later bz)
  replace Uss := hide (Uss.out.later bz)
  replace Urr := hide (Urr.out.later bz)
  replace Uvv := hide (Uvv.out.later bz)
  replace BB := hide (later BB.out bz)
  clear bz
  clear H2
  go_wp2_with (refine wpList_loadA rfl 28 10 aggSg sizSg _ rfl bss 0 rfl Xss LXss.out Uss.out.1 ?_)
  refine (H16.out _).mono ?_
  rintro _ wv4 ⟨rfl, bz⟩
  replace Ucc := hide (Ucc.out.later bz)
  replace Uss := hide (Uss.out.later bz)
  replace Urr := hide (Urr.out.later bz)
  replace Uvv := hide (Uvv.out.later bz)
  replace BB := hide (later BB.out bz)
  clear bz
  clear H16
  go_wp2_with (refine wpList_loadA rfl 28 10 aggSg sizSg _ rfl bss 0 rfl Xss LXss.out Uss.out.1 ?_)
  refine (H4.out _).mono ?_
  rintro _ wv5 ⟨rfl, bz⟩
  replace Ucc := hide (Ucc.out.later bz)
  replace Uss := hide (Uss.out.later bz)
  replace Urr := hide (Urr.out.later bz)
  replace Uvv := hide (Uvv.out.later bz)
  replace BB := hide (later BB.out bz)
  clear bz
  clear H4
  have k1 : wv5.cell? ⟨bss, 3, none⟩ = some (.int .u32 s.ack) := by have h := Uss.out.1 3 (.int .u32 s.ack) (by rw [EXss.out]; rfl); rw [Nat.zero_add] at h; exact h
  have k2 : wv5.cell? ⟨bcc, 3, none⟩ = some (.int .u32 c.nxt) := by have h := Ucc.out.1 3 (.int .u32 c.nxt) (by rw [EXcc.out]; rfl); rw [Nat.zero_add] at h; exact h
  cases h16 with
  | true =>
    by_cases hk : s.ack = c.nxt
    · have q1 : (s.ack != c.nxt) = false := by simpa using hk
      have hk2 : ¬ (true = true ∧ s.ack ≠ c.nxt) := fun k => k.2 hk
      clear hk
      have JJ := HJ.out
      rw [if_neg (hk2)] at JJ
      have HJ2 := hide JJ
      clear JJ HJ
      go_upto_region 9 with fail
      clear k1 k2 q1
      cases h4 with
      | true =>
        obtain ⟨vo, so⟩ : ∃ v, wv5.cell? ⟨bvv, 12, none⟩ = some v := by have h := Uvv.out.1 12 _ (List.getElem?_eq_getElem (by rw [LXvv.out]; decide)); rw [Nat.zero_add] at h; exact ⟨_, h⟩
        have fo := Uvv.out.2.1 12
        obtain ⟨wv6, hwo⟩ : ∃ w1, w1 = wv5.setCell ⟨bvv, 12, none⟩ (.int .i64 215) := ⟨_, rfl⟩
        have bo : But (Only bvv) wv5 wv6 := by rw [hwo]; exact (But.refl (Only bvv) wv5).setOf (b := bvv) rfl 12 _
        obtain ⟨Y7, hY⟩ : ∃ X, X = ((⟨c, 0, 215, false, false, 0, 0, false⟩ : Vd) : Vd).cells := ⟨_, rfl⟩
        have LY : Hid (Y7.length = 18) := by rw [hY]; exact rfl
        have U1 : Hid (Box wv6 bvv Y7) := by rw [hwo, hY]; have h := Uvv.out.one (k := 12) (by rw [LXvv.out]; decide) (.int .i64 215); rw [EXvv.out] at h; exact h
        replace Ucc := hide (Ucc.out.but bo (fun e => by have e : bcc = bvv := e; have := D_cc_vv.out; omega))
        replace Uss := hide (Uss.out.but bo (fun e => by have e : bss = bvv := e; have := D_ss_vv.out; omega))
        replace Urr := hide (Urr.out.but bo (fun e => by have e : brr = bvv := e; have := D_rr_vv.out; omega))
        replace BB : Hid (Below w.heap.size w wv6) := BB.out.trans (bo.below BB.out.size (fun g hg e => by have e : g = bvv := e; have := ZBvv.out; omega))
        have EY := hide hY
        have hwo' := hwo.symm
        clear hwo bo hY Uvv LXvv EXvv
        go_upto_region 12 with fail
        clear hwo' so fo
        try clear vo
        try clear Xvv
        obtain ⟨Xvv, hXX⟩ : ∃ X, X = Y7 := ⟨_, rfl⟩
        subst hXX
        have Uvv := U1
        have LXvv := LY
        have EXvv := EY
        clear U1 LY EY
        have UVo := hide Uvv.out.1
        have RE : R = (⟨c, 0, 215, false, false, 0, 0, false⟩ : Vd) := by rw [HJ2.out]; rfl
        have HRE := hide RE
        clear RE
        obtain ⟨Y9, hY⟩ : ∃ X, X = ((⟨c, 0, 215, false, false, 0, 0, false⟩ : Vd) : Vd).cells := ⟨_, rfl⟩
        have LY : Hid (Y9.length = 18) := by rw [hY]; exact rfl
        have OY : Hid (∀ u ∈ Y9, u.oneCell' = true) := by rw [hY]; exact vd_one _
        obtain ⟨wv8, hwo⟩ : ∃ w1, w1 = wv6.setCells brr 0 Y9 := ⟨_, rfl⟩
        have bo : But (Only brr) wv6 wv8 := by rw [hwo]; exact But.cells brr Y9 0 wv6
        have CO := hide Urr.out.1
        have FO := hide Urr.out.2.1
        have LO := LXrr
        have U1 : Hid (Box wv8 brr Y9) := by rw [hwo]; exact Urr.out.all (by rw [LY.out, LXrr.out])
        replace Ucc := hide (Ucc.out.but bo (fun e => by have e : bcc = brr := e; have := D_cc_rr.out; omega))
        replace Uss := hide (Uss.out.but bo (fun e => by have e : bss = brr := e; have := D_ss_rr.out; omega))
        replace Uvv := hide (Uvv.out.but bo (fun e => by have e : bvv = brr := e; have := D_rr_vv.out; omega))
        replace BB : Hid (Below w.heap.size w wv8) := BB.out.trans (bo.below BB.out.size (fun g hg e => by have e : g = brr := e; have := ZBrr.out; omega))
        have EY := hide hY
        have hwo' := hwo.symm
        clear hwo bo hY Urr LXrr EXrr
        have UV0 : Hid (CellsAt wv6 bvv 0 Y9) := by rw [show Y9 = Xvv from by rw [EY.out, EXvv.out]]; exact UVo.out
        go_wp2_with (first | refine wpList_loadA rfl 32 18 aggVd sizVd _ rfl bvv 0 rfl Y9 LY.out UV0.out ?_ | (refine wpList_storeA rfl 32 18 sizVd _ _ rfl brr 0 rfl Y9 Xrr rfl LY.out LO.out CO.out FO.out OY.out ?_; intro hcs; clear hcs; rw [hwo']))
        refine bodyPost_ret (v := .agg Y9.toArray) (results_A rfl _ _ brr _ rfl (run_loadVarA 32 18 aggVd sizVd brr 0 _ LY.out U1.out.1)) rfl ?_
        exact ⟨by rw [EY.out, HRE.out], BB.out⟩
      | false =>
        cases h2 with
        | false =>
          have UVo := hide Uvv.out.1
          have RE : R = (⟨c, 0, 0, false, false, 0, 0, false⟩ : Vd) := by rw [HJ2.out]; rfl
          have HRE := hide RE
          clear RE
          obtain ⟨Y7, hY⟩ : ∃ X, X = ((⟨c, 0, 0, false, false, 0, 0, false⟩ : Vd) : Vd).cells := ⟨_, rfl⟩
          have LY : Hid (Y7.length = 18) := by rw [hY]; exact rfl
          have OY : Hid (∀ u ∈ Y7, u.oneCell' = true) := by rw [hY]; exact vd_one _
          obtain ⟨wv6, hwo⟩ : ∃ w1, w1 = wv5.setCells brr 0 Y7 := ⟨_, rfl⟩
          have bo : But (Only brr) wv5 wv6 := by rw [hwo]; exact But.cells brr Y7 0 wv5
          have CO := hide Urr.out.1
          have FO := hide Urr.out.2.1
          have LO := LXrr
          have U1 : Hid (Box wv6 brr Y7) := by rw [hwo]; exact Urr.out.all (by rw [LY.out, LXrr.out])
          replace Ucc := hide (Ucc.out.but bo (fun e => by have e : bcc = brr := e; have := D_cc_rr.out; omega))
          replace Uss := hide (Uss.out.but bo (fun e => by have e : bss = brr := e; have := D_ss_rr.out; omega))
          replace Uvv := hide (Uvv.out.but bo (fun e => by have e : bvv = brr := e; have := D_rr_vv.out; omega))
          replace BB : Hid (Below w.heap.size w wv6) := BB.out.trans (bo.below BB.out.size (fun g hg e => by have e : g = brr := e; have := ZBrr.out; omega))
          have EY := hide hY
          have hwo' := hwo.symm
          clear hwo bo hY Urr LXrr EXrr
          have UV0 : Hid (CellsAt wv5 bvv 0 Y7) := by rw [show Y7 = Xvv from by rw [EY.out, EXvv.out]]; exact UVo.out
          go_wp2_with (first | refine wpList_loadA rfl 32 18 aggVd sizVd _ rfl bvv 0 rfl Y7 LY.out UV0.out ?_ | (refine wpList_storeA rfl 32 18 sizVd _ _ rfl brr 0 rfl Y7 Xrr rfl LY.out LO.out CO.out FO.out OY.out ?_; intro hcs; clear hcs; rw [hwo']))
          refine bodyPost_ret (v := .agg Y7.toArray) (results_A rfl _ _ brr _ rfl (run_loadVarA 32 18 aggVd sizVd brr 0 _ LY.out U1.out.1)) rfl ?_
          exact ⟨by rw [EY.out, HRE.out], BB.out⟩
        | true =>
          have j1 : wv5.cell? ⟨bss, 2, none⟩ = some (.int .u32 s.seq) := by have h := Uss.out.1 2 (.int .u32 s.seq) (by rw [EXss.out]; rfl); rw [Nat.zero_add] at h; exact h
          have j2 : wv5.cell? ⟨bss, 5, none⟩ = some (.int .i64 s.wnd) := by have h := Uss.out.1 5 (.int .i64 s.wnd) (by rw [EXss.out]; rfl); rw [Nat.zero_add] at h; exact h
          have j3 : wv5.cell? ⟨bss, 3, none⟩ = some (.int .u32 s.ack) := by have h := Uss.out.1 3 (.int .u32 s.ack) (by rw [EXss.out]; rfl); rw [Nat.zero_add] at h; exact h
          have j4 : wv5.cell? ⟨bcc, 1, none⟩ = some (.int .u32 c.iss) := by have h := Ucc.out.1 1 (.int .u32 c.iss) (by rw [EXcc.out]; rfl); rw [Nat.zero_add] at h; exact h
          obtain ⟨vo, so⟩ : ∃ v, wv5.cell? ⟨bvv, 8, none⟩ = some v := by have h := Uvv.out.1 8 _ (List.getElem?_eq_getElem (by rw [LXvv.out]; decide)); rw [Nat.zero_add] at h; exact ⟨_, h⟩
          have fo := Uvv.out.2.1 8
          obtain ⟨wv6, hwo⟩ : ∃ w1, w1 = wv5.setCell ⟨bvv, 8, none⟩ (.int .u32 s.seq) := ⟨_, rfl⟩
          have bo : But (Only bvv) wv5 wv6 := by rw [hwo]; exact (But.refl (Only bvv) wv5).setOf (b := bvv) rfl 8 _
          obtain ⟨Y7, hY⟩ : ∃ X, X = (⟨{ c with irs := s.seq }, 0, 0, false, false, 0, 0, false⟩ : Vd).cells := ⟨_, rfl⟩
          have LY : Hid (Y7.length = 18) := by rw [hY]; exact rfl
          have U1 : Hid (Box wv6 bvv Y7) := by rw [hwo, hY]; have h := Uvv.out.one (k := 8) (by rw [LXvv.out]; decide) (.int .u32 s.seq); rw [EXvv.out] at h; exact h
          replace Ucc := hide (Ucc.out.but bo (fun e => by have e : bcc = bvv := e; have := D_cc_vv.out; omega))
          replace Uss := hide (Uss.out.but bo (fun e => by have e : bss = bvv := e; have := D_ss_vv.out; omega))
          replace Urr := hide (Urr.out.but bo (fun e => by have e : brr = bvv := e; have := D_rr_vv.out; omega))
          replace BB : Hid (Below w.heap.size w wv6) := BB.out.trans (bo.below BB.out.size (fun g hg e => by have e : g = bvv := e; have := ZBvv.out; omega))
          have EY := hide hY
          have hwo' := hwo.symm
          clear hwo bo hY Uvv LXvv EXvv
          go_upto_region 16 with fail
          clear hwo' so fo
          try clear vo
          try clear Xvv
          obtain ⟨Xvv, hXX⟩ : ∃ X, X = Y7 := ⟨_, rfl⟩
          subst hXX
          have Uvv := U1
          have LXvv := LY
          have EXvv := EY
          clear U1 LY EY
          clear j1 j2 j3 j4
          have j1 : wv6.cell? ⟨bss, 2, none⟩ = some (.int .u32 s.seq) := by have h := Uss.out.1 2 (.int .u32 s.seq) (by rw [EXss.out]; rfl); rw [Nat.zero_add] at h; exact h
          have j2 : wv6.cell? ⟨bss, 5, none⟩ = some (.int .i64 s.wnd) := by have h := Uss.out.1 5 (.int .i64 s.wnd) (by rw [EXss.out]; rfl); rw [Nat.zero_add] at h; exact h
          have j3 : wv6.cell? ⟨bss, 3, none⟩ = some (.int .u32 s.ack) := by have h := Uss.out.1 3 (.int .u32 s.ack) (by rw [EXss.out]; rfl); rw [Nat.zero_add] at h; exact h
          have j4 : wv6.cell? ⟨bcc, 1, none⟩ = some (.int .u32 c.iss) := by have h := Ucc.out.1 1 (.int .u32 c.iss) (by rw [EXcc.out]; rfl); rw [Nat.zero_add] at h; exact h
          obtain ⟨vo, so⟩ : ∃ v, wv6.cell? ⟨bvv, 9, none⟩ = some v := by have h := Uvv.out.1 9 _ (List.getElem?_eq_getElem (by rw [LXvv.out]; decide)); rw [Nat.zero_add] at h; exact ⟨_, h⟩
          have fo := Uvv.out.2.1 9
          obtain ⟨wv8, hwo⟩ : ∃ w1, w1 = wv6.setCell ⟨bvv, 9, none⟩ (.int .u32 ((s.seq + 1) % 4294967296)) := ⟨_, rfl⟩
          have bo : But (Only bvv) wv6 wv8 := by rw [hwo]; exact (But.refl (Only bvv) wv6).setOf (b := bvv) rfl 9 _
          obtain ⟨Y9, hY⟩ : ∃ X, X = (⟨{ c with irs := s.seq, rcv := ((s.seq + 1) % 4294967296) }, 0, 0, false, false, 0, 0, false⟩ : Vd).cells := ⟨_, rfl⟩
          have LY : Hid (Y9.length = 18) := by rw [hY]; exact rfl
          have U1 : Hid (Box wv8 bvv Y9) := by rw [hwo, hY]; have h := Uvv.out.one (k := 9) (by rw [LXvv.out]; decide) (.int .u32 ((s.seq + 1) % 4294967296)); rw [EXvv.out] at h; exact h
          replace Ucc := hide (Ucc.out.but bo (fun e => by have e : bcc = bvv := e; have := D_cc_vv.out; omega))
          replace Uss := hide (Uss.out.but bo (fun e => by have e : bss = bvv := e; have := D_ss_vv.out; omega))
          replace Urr := hide (Urr.out.but bo (fun e => by have e : brr = bvv := e; have := D_rr_vv.out; omega))
          replace BB : Hid (Below w.heap.size w wv8) := BB.out.trans (bo.below BB.out.size (fun g hg e => by have e : g = bvv := e; have := ZBvv.out; omega))
          have EY := hide hY
          have hwo' := hwo.symm
          clear hwo bo hY Uvv LXvv EXvv
          go_upto_region 17 with fail
          clear hwo' so fo
          try clear vo
          try clear Xvv
          obtain ⟨Xvv, hXX⟩ : ∃ X, X = Y9 := ⟨_, rfl⟩
          subst hXX
          have Uvv := U1
          have LXvv := LY
          have EXvv := EY
          clear U1 LY EY
          clear j1 j2 j3 j4
          have j1 : wv8.cell? ⟨bss, 2, none⟩ = some (.int .u32 s.seq) := by have h := Uss.out.1 2 (.int .u32 s.seq) (by rw [EXss.out]; rfl); rw [Nat.zero_add] at h; exact h
          have j2 : wv8.cell? ⟨bss, 5, none⟩ = some (.int .i64 s.wnd) := by have h := Uss.out.1 5 (.int .i64 s.wnd) (by rw [EXss.out]; rfl); rw [Nat.zero_add] at h; exact h
          have j3 : wv8.cell? ⟨bss, 3, none⟩ = some (.int .u32 s.ack) := by have h := Uss.out.1 3 (.int .u32 s.ack) (by rw [EXss.out]; rfl); rw [Nat.zero_add] at h; exact h
          have j4 : wv8.cell? ⟨bcc, 1, none⟩ = some (.int .u32 c.iss) := by have h := Ucc.out.1 1 (.int .u32 c.iss) (by rw [EXcc.out]; rfl); rw [Nat.zero_add] at h; exact h
          obtain ⟨vo, so⟩ : ∃ v, wv8.cell? ⟨bvv, 10, none⟩ = some v := by have h := Uvv.out.1 10 _ (List.getElem?_eq_getElem (by rw [LXvv.out]; decide)); rw [Nat.zero_add] at h; exact ⟨_, h⟩
          have fo := Uvv.out.2.1 10
          obtain ⟨wv10, hwo⟩ : ∃ w1, w1 = wv8.setCell ⟨bvv, 10, none⟩ (.int .u32 ((s.seq + 1) % 4294967296)) := ⟨_, rfl⟩
          have bo : But (Only bvv) wv8 wv10 := by rw [hwo]; exact (But.refl (Only bvv) wv8).setOf (b := bvv) rfl 10 _
          obtain ⟨Y11, hY⟩ : ∃ X, X = (⟨{ c with irs := s.seq, rcv := ((s.seq + 1) % 4294967296), adv := ((s.seq + 1) % 4294967296) }, 0, 0, false, false, 0, 0, false⟩ : Vd).cells := ⟨_, rfl⟩
          have LY : Hid (Y11.length = 18) := by rw [hY]; exact rfl
          have U1 : Hid (Box wv10 bvv Y11) := by rw [hwo, hY]; have h := Uvv.out.one (k := 10) (by rw [LXvv.out]; decide) (.int .u32 ((s.seq + 1) % 4294967296)); rw [EXvv.out] at h; exact h
          replace Ucc := hide (Ucc.out.but bo (fun e => by have e : bcc = bvv := e; have := D_cc_vv.out; omega))
          replace Uss := hide (Uss.out.but bo (fun e => by have e : bss = bvv := e; have := D_ss_vv.out; omega))
          replace Urr := hide (Urr.out.but bo (fun e => by have e : brr = bvv := e; have := D_rr_vv.out; omega))
          replace BB : Hid (Below w.heap.size w wv10) := BB.out.trans (bo.below BB.out.size (fun g hg e => by have e : g = bvv := e; have := ZBvv.out; omega))
          have EY := hide hY
          have hwo' := hwo.symm
          clear hwo bo hY Uvv LXvv EXvv
          go_upto_region 18 with fail
          clear hwo' so fo
          try clear vo
          try clear Xvv
          obtain ⟨Xvv, hXX⟩ : ∃ X, X = Y11 := ⟨_, rfl⟩
          subst hXX
          have Uvv := U1
          have LXvv := LY
          have EXvv := EY
          clear U1 LY EY
          clear j1 j2 j3 j4
          have j1 : wv10.cell? ⟨bss, 2, none⟩ = some (.int .u32 s.seq) := by have h := Uss.out.1 2 (.int .u32 s.seq) (by rw [EXss.out]; rfl); rw [Nat.zero_add] at h; exact h
          have j2 : wv10.cell? ⟨bss, 5, none⟩ = some (.int .i64 s.wnd) := by have h := Uss.out.1 5 (.int .i64 s.wnd) (by rw [EXss.out]; rfl); rw [Nat.zero_add] at h; exact h
          have j3 : wv10.cell? ⟨bss, 3, none⟩ = some (.int .u32 s.ack) := by have h := Uss.out.1 3 (.int .u32 s.ack) (by rw [EXss.out]; rfl); rw [Nat.zero_add] at h; exact h
          have j4 : wv10.cell? ⟨bcc, 1, none⟩ = some (.int .u32 c.iss) := by have h := Ucc.out.1 1 (.int .u32 c.iss) (by rw [EXcc.out]; rfl); rw [Nat.zero_add] at h; exact h
          obtain ⟨vo, so⟩ : ∃ v, wv10.cell? ⟨bvv, 5, none⟩ = some v := by have h := Uvv.out.1 5 _ (List.getElem?_eq_getElem (by rw [LXvv.out]; decide)); rw [Nat.zero_add] at h; exact ⟨_, h⟩
          have fo := Uvv.out.2.1 5
          obtain ⟨wv12, hwo⟩ : ∃ w1, w1 = wv10.setCell ⟨bvv, 5, none⟩ (.int .i64 s.wnd) := ⟨_, rfl⟩
          have bo : But (Only bvv) wv10 wv12 := by rw [hwo]; exact (But.refl (Only bvv) wv10).setOf (b := bvv) rfl 5 _
          obtain ⟨Y13, hY⟩ : ∃ X, X = (⟨{ c with irs := s.seq, rcv := ((s.seq + 1) % 4294967296), adv := ((s.seq + 1) % 4294967296), wnd := s.wnd }, 0, 0, false, false, 0, 0, false⟩ : Vd).cells := ⟨_, rfl⟩
          have LY : Hid (Y13.length = 18) := by rw [hY]; exact rfl
          have U1 : Hid (Box wv12 bvv Y13) := by rw [hwo, hY]; have h := Uvv.out.one (k := 5) (by rw [LXvv.out]; decide) (.int .i64 s.wnd); rw [EXvv.out] at h; exact h
          replace Ucc := hide (Ucc.out.but bo (fun e => by have e : bcc = bvv := e; have := D_cc_vv.out; omega))
          replace Uss := hide (Uss.out.but bo (fun e => by have e : bss = bvv := e; have := D_ss_vv.out; omega))
          replace Urr := hide (Urr.out.but bo (fun e => by have e : brr = bvv := e; have := D_rr_vv.out; omega))
          replace BB : Hid (Below w.heap.size w wv12) := BB.out.trans (bo.below BB.out.size (fun g hg e => by have e : g = bvv := e; have := ZBvv.out; omega))
          have EY := hide hY
          have hwo' := hwo.symm
          clear hwo bo hY Uvv LXvv EXvv
          go_upto_region 19 with fail
          clear hwo' so fo
          try clear vo
          try clear Xvv
          obtain ⟨Xvv, hXX⟩ : ∃ X, X = Y13 := ⟨_, rfl⟩
          subst hXX
          have Uvv := U1
          have LXvv := LY
          have EXvv := EY
          clear U1 LY EY
          clear j1 j2 j3 j4
          have j1 : wv12.cell? ⟨bss, 2, none⟩ = some (.int .u32 s.seq) := by have h := Uss.out.1 2 (.int .u32 s.seq) (by rw [EXss.out]; rfl); rw [Nat.zero_add] at h; exact h
          have j2 : wv12.cell? ⟨bss, 5, none⟩ = some (.int .i64 s.wnd) := by have h := Uss.out.1 5 (.int .i64 s.wnd) (by rw [EXss.out]; rfl); rw [Nat.zero_add] at h; exact h
          have j3 : wv12.cell? ⟨bss, 3, none⟩ = some (.int .u32 s.ack) := by have h := Uss.out.1 3 (.int .u32 s.ack) (by rw [EXss.out]; rfl); rw [Nat.zero_add] at h; exact h
          have j4 : wv12.cell? ⟨bcc, 1, none⟩ = some (.int .u32 c.iss) := by have h := Ucc.out.1 1 (.int .u32 c.iss) (by rw [EXcc.out]; rfl); rw [Nat.zero_add] at h; exact h
          obtain ⟨vo, so⟩ : ∃ v, wv12.cell? ⟨bvv, 6, none⟩ = some v := by have h := Uvv.out.1 6 _ (List.getElem?_eq_getElem (by rw [LXvv.out]; decide)); rw [Nat.zero_add] at h; exact ⟨_, h⟩
          have fo := Uvv.out.2.1 6
          obtain ⟨wv14, hwo⟩ : ∃ w1, w1 = wv12.setCell ⟨bvv, 6, none⟩ (.int .u32 s.seq) := ⟨_, rfl⟩
          have bo : But (Only bvv) wv12 wv14 := by rw [hwo]; exact (But.refl (Only bvv) wv12).setOf (b := bvv) rfl 6 _
          obtain ⟨Y15, hY⟩ : ∃ X, X = (⟨{ c with irs := s.seq, rcv := ((s.seq + 1) % 4294967296), adv := ((s.seq + 1) % 4294967296), wnd := s.wnd, wl1 := s.seq }, 0, 0, false, false, 0, 0, false⟩ : Vd).cells := ⟨_, rfl⟩
          have LY : Hid (Y15.length = 18) := by rw [hY]; exact rfl
          have U1 : Hid (Box wv14 bvv Y15) := by rw [hwo, hY]; have h := Uvv.out.one (k := 6) (by rw [LXvv.out]; decide) (.int .u32 s.seq); rw [EXvv.out] at h; exact h
          replace Ucc := hide (Ucc.out.but bo (fun e => by have e : bcc = bvv := e; have := D_cc_vv.out; omega))
          replace Uss := hide (Uss.out.but bo (fun e => by have e : bss = bvv := e; have := D_ss_vv.out; omega))
          replace Urr := hide (Urr.out.but bo (fun e => by have e : brr = bvv := e; have := D_rr_vv.out; omega))
          replace BB : Hid (Below w.heap.size w wv14) := BB.out.trans (bo.below BB.out.size (fun g hg e => by have e : g = bvv := e; have := ZBvv.out; omega))
          have EY := hide hY
          have hwo' := hwo.symm
          clear hwo bo hY Uvv LXvv EXvv
          go_upto_region 20 with fail
          clear hwo' so fo
          try clear vo
          try clear Xvv
          obtain ⟨Xvv, hXX⟩ : ∃ X, X = Y15 := ⟨_, rfl⟩
          subst hXX
          have Uvv := U1
          have LXvv := LY
          have EXvv := EY
          clear U1 LY EY
          clear j1 j2 j3 j4
          have j1 : wv14.cell? ⟨bss, 2, none⟩ = some (.int .u32 s.seq) := by have h := Uss.out.1 2 (.int .u32 s.seq) (by rw [EXss.out]; rfl); rw [Nat.zero_add] at h; exact h
          have j2 : wv14.cell? ⟨bss, 5, none⟩ = some (.int .i64 s.wnd) := by have h := Uss.out.1 5 (.int .i64 s.wnd) (by rw [EXss.out]; rfl); rw [Nat.zero_add] at h; exact h
          have j3 : wv14.cell? ⟨bss, 3, none⟩ = some (.int .u32 s.ack) := by have h := Uss.out.1 3 (.int .u32 s.ack) (by rw [EXss.out]; rfl); rw [Nat.zero_add] at h; exact h
          have j4 : wv14.cell? ⟨bcc, 1, none⟩ = some (.int .u32 c.iss) := by have h := Ucc.out.1 1 (.int .u32 c.iss) (by rw [EXcc.out]; rfl); rw [Nat.zero_add] at h; exact h
          obtain ⟨vo, so⟩ : ∃ v, wv14.cell? ⟨bvv, 7, none⟩ = some v := by have h := Uvv.out.1 7 _ (List.getElem?_eq_getElem (by rw [LXvv.out]; decide)); rw [Nat.zero_add] at h; exact ⟨_, h⟩
          have fo := Uvv.out.2.1 7
          obtain ⟨wv16, hwo⟩ : ∃ w1, w1 = wv14.setCell ⟨bvv, 7, none⟩ (.int .u32 c.iss) := ⟨_, rfl⟩
          have bo : But (Only bvv) wv14 wv16 := by rw [hwo]; exact (But.refl (Only bvv) wv14).setOf (b := bvv) rfl 7 _
          obtain ⟨Y17, hY⟩ : ∃ X, X = (⟨{ c with irs := s.seq, rcv := ((s.seq + 1) % 4294967296), adv := ((s.seq + 1) % 4294967296), wnd := s.wnd, wl1 := s.seq, wl2 := c.iss }, 0, 0, false, false, 0, 0, false⟩ : Vd).cells := ⟨_, rfl⟩
          have LY : Hid (Y17.length = 18) := by rw [hY]; exact rfl
          have U1 : Hid (Box wv16 bvv Y17) := by rw [hwo, hY]; have h := Uvv.out.one (k := 7) (by rw [LXvv.out]; decide) (.int .u32 c.iss); rw [EXvv.out] at h; exact h
          replace Ucc := hide (Ucc.out.but bo (fun e => by have e : bcc = bvv := e; have := D_cc_vv.out; omega))
          replace Uss := hide (Uss.out.but bo (fun e => by have e : bss = bvv := e; have := D_ss_vv.out; omega))
          replace Urr := hide (Urr.out.but bo (fun e => by have e : brr = bvv := e; have := D_rr_vv.out; omega))
          replace BB : Hid (Below w.heap.size w wv16) := BB.out.trans (bo.below BB.out.size (fun g hg e => by have e : g = bvv := e; have := ZBvv.out; omega))
          have EY := hide hY
          have hwo' := hwo.symm
          clear hwo bo hY Uvv LXvv EXvv
          go_upto_region 21 with fail
          clear hwo' so fo
          try clear vo
          try clear Xvv
          obtain ⟨Xvv, hXX⟩ : ∃ X, X = Y17 := ⟨_, rfl⟩
          subst hXX
          have Uvv := U1
          have LXvv := LY
          have EXvv := EY
          clear U1 LY EY
          clear j1 j2 j3 j4
          have j1 : wv16.cell? ⟨bss, 2, none⟩ = some (.int .u32 s.seq) := by have h := Uss.out.1 2 (.int .u32 s.seq) (by rw [EXss.out]; rfl); rw [Nat.zero_add] at h; exact h
          have j2 : wv16.cell? ⟨bss, 5, none⟩ = some (.int .i64 s.wnd) := by have h := Uss.out.1 5 (.int .i64 s.wnd) (by rw [EXss.out]; rfl); rw [Nat.zero_add] at h; exact h
          have j3 : wv16.cell? ⟨bss, 3, none⟩ = some (.int .u32 s.ack) := by have h := Uss.out.1 3 (.int .u32 s.ack) (by rw [EXss.out]; rfl); rw [Nat.zero_add] at h; exact h
          have j4 : wv16.cell? ⟨bcc, 1, none⟩ = some (.int .u32 c.iss) := by have h := Ucc.out.1 1 (.int .u32 c.iss) (by rw [EXcc.out]; rfl); rw [Nat.zero_add] at h; exact h
          obtain ⟨vo, so⟩ : ∃ v, wv16.cell? ⟨bvv, 0, none⟩ = some v := by have h := Uvv.out.1 0 _ (List.getElem?_eq_getElem (by rw [LXvv.out]; decide)); rw [Nat.zero_add] at h; exact ⟨_, h⟩
          have fo := Uvv.out.2.1 0
          obtain ⟨wv18, hwo⟩ : ∃ w1, w1 = wv16.setCell ⟨bvv, 0, none⟩ (.int .i64 2) := ⟨_, rfl⟩
          have bo : But (Only bvv) wv16 wv18 := by rw [hwo]; exact (But.refl (Only bvv) wv16).setOf (b := bvv) rfl 0 _
          obtain ⟨Y19, hY⟩ : ∃ X, X = (⟨{ c with irs := s.seq, rcv := ((s.seq + 1) % 4294967296), adv := ((s.seq + 1) % 4294967296), wnd := s.wnd, wl1 := s.seq, wl2 := c.iss, st := 2 }, 0, 0, false, false, 0, 0, false⟩ : Vd).cells := ⟨_, rfl⟩
          have LY : Hid (Y19.length = 18) := by rw [hY]; exact rfl
          have U1 : Hid (Box wv18 bvv Y19) := by rw [hwo, hY]; have h := Uvv.out.one (k := 0) (by rw [LXvv.out]; decide) (.int .i64 2); rw [EXvv.out] at h; exact h
          replace Ucc := hide (Ucc.out.but bo (fun e => by have e : bcc = bvv := e; have := D_cc_vv.out; omega))
          replace Uss := hide (Uss.out.but bo (fun e => by have e : bss = bvv := e; have := D_ss_vv.out; omega))
          replace Urr := hide (Urr.out.but bo (fun e => by have e : brr = bvv := e; have := D_rr_vv.out; omega))
          replace BB : Hid (Below w.heap.size w wv18) := BB.out.trans (bo.below BB.out.size (fun g hg e => by have e : g = bvv := e; have := ZBvv.out; omega))
          have EY := hide hY
          have hwo' := hwo.symm
          clear hwo bo hY Uvv LXvv EXvv
          go_upto_region 22 with fail
          clear hwo' so fo
          try clear vo
          try clear Xvv
          obtain ⟨Xvv, hXX⟩ : ∃ X, X = Y19 := ⟨_, rfl⟩
          subst hXX
          have Uvv := U1
          have LXvv := LY
          have EXvv := EY
          clear U1 LY EY
          clear j1 j2 j3 j4
          have j1 : wv18.cell? ⟨bss, 2, none⟩ = some (.int .u32 s.seq) := by have h := Uss.out.1 2 (.int .u32 s.seq) (by rw [EXss.out]; rfl); rw [Nat.zero_add] at h; exact h
          have j2 : wv18.cell? ⟨bss, 5, none⟩ = some (.int .i64 s.wnd) := by have h := Uss.out.1 5 (.int .i64 s.wnd) (by rw [EXss.out]; rfl); rw [Nat.zero_add] at h; exact h
          have j3 : wv18.cell? ⟨bss, 3, none⟩ = some (.int .u32 s.ack) := by have h := Uss.out.1 3 (.int .u32 s.ack) (by rw [EXss.out]; rfl); rw [Nat.zero_add] at h; exact h
          have j4 : wv18.cell? ⟨bcc, 1, none⟩ = some (.int .u32 c.iss) := by have h := Ucc.out.1 1 (.int .u32 c.iss) (by rw [EXcc.out]; rfl); rw [Nat.zero_add] at h; exact h
          obtain ⟨vo, so⟩ : ∃ v, wv18.cell? ⟨bvv, 11, none⟩ = some v := by have h := Uvv.out.1 11 _ (List.getElem?_eq_getElem (by rw [LXvv.out]; decide)); rw [Nat.zero_add] at h; exact ⟨_, h⟩
          have fo := Uvv.out.2.1 11
          obtain ⟨wv20, hwo⟩ : ∃ w1, w1 = wv18.setCell ⟨bvv, 11, none⟩ (.int .i64 3) := ⟨_, rfl⟩
          have bo : But (Only bvv) wv18 wv20 := by rw [hwo]; exact (But.refl (Only bvv) wv18).setOf (b := bvv) rfl 11 _
          obtain ⟨Y21, hY⟩ : ∃ X, X = (⟨{ c with irs := s.seq, rcv := ((s.seq + 1) % 4294967296), adv := ((s.seq + 1) % 4294967296), wnd := s.wnd, wl1 := s.seq, wl2 := c.iss, st := 2 }, 3, 0, false, false, 0, 0, false⟩ : Vd).cells := ⟨_, rfl⟩
          have LY : Hid (Y21.length = 18) := by rw [hY]; exact rfl
          have U1 : Hid (Box wv20 bvv Y21) := by rw [hwo, hY]; have h := Uvv.out.one (k := 11) (by rw [LXvv.out]; decide) (.int .i64 3); rw [EXvv.out] at h; exact h
          replace Ucc := hide (Ucc.out.but bo (fun e => by have e : bcc = bvv := e; have := D_cc_vv.out; omega))
          replace Uss := hide (Uss.out.but bo (fun e => by have e : bss = bvv := e; have := D_ss_vv.out; omega))
          replace Urr := hide (Urr.out.but bo (fun e => by have e : brr = bvv := e; have := D_rr_vv.out; omega))
          replace BB : Hid (Below w.heap.size w wv20) := BB.out.trans (bo.below BB.out.size (fun g hg e => by have e : g = bvv := e; have := ZBvv.out; omega))
          have EY := hide hY
          have hwo' := hwo.symm
          clear hwo bo hY Uvv LXvv EXvv
          go_upto_region 24 with fail
          clear hwo' so fo
          try clear vo
          try clear Xvv
          obtain ⟨Xvv, hXX⟩ : ∃ X, X = Y21 := ⟨_, rfl⟩
          subst hXX
          have Uvv := U1
          have LXvv := LY
          have EXvv := EY
          clear U1 LY EY
          clear j1 j2 j3 j4
          have j1 : wv20.cell? ⟨bss, 2, none⟩ = some (.int .u32 s.seq) := by have h := Uss.out.1 2 (.int .u32 s.seq) (by rw [EXss.out]; rfl); rw [Nat.zero_add] at h; exact h
          have j2 : wv20.cell? ⟨bss, 5, none⟩ = some (.int .i64 s.wnd) := by have h := Uss.out.1 5 (.int .i64 s.wnd) (by rw [EXss.out]; rfl); rw [Nat.zero_add] at h; exact h
          have j3 : wv20.cell? ⟨bss, 3, none⟩ = some (.int .u32 s.ack) := by have h := Uss.out.1 3 (.int .u32 s.ack) (by rw [EXss.out]; rfl); rw [Nat.zero_add] at h; exact h
          have j4 : wv20.cell? ⟨bcc, 1, none⟩ = some (.int .u32 c.iss) := by have h := Ucc.out.1 1 (.int .u32 c.iss) (by rw [EXcc.out]; rfl); rw [Nat.zero_add] at h; exact h
          obtain ⟨vo, so⟩ : ∃ v, wv20.cell? ⟨bvv, 2, none⟩ = some v := by have h := Uvv.out.1 2 _ (List.getElem?_eq_getElem (by rw [LXvv.out]; decide)); rw [Nat.zero_add] at h; exact ⟨_, h⟩
          have fo := Uvv.out.2.1 2
          obtain ⟨wv22, hwo⟩ : ∃ w1, w1 = wv20.setCell ⟨bvv, 2, none⟩ (.int .u32 s.ack) := ⟨_, rfl⟩
          have bo : But (Only bvv) wv20 wv22 := by rw [hwo]; exact (But.refl (Only bvv) wv20).setOf (b := bvv) rfl 2 _
          obtain ⟨Y23, hY⟩ : ∃ X, X = (⟨{ c with irs := s.seq, rcv := ((s.seq + 1) % 4294967296), adv := ((s.seq + 1) % 4294967296), wnd := s.wnd, wl1 := s.seq, wl2 := c.iss, st := 2, una := s.ack }, 3, 0, false, false, 0, 0, false⟩ : Vd).cells := ⟨_, rfl⟩
          have LY : Hid (Y23.length = 18) := by rw [hY]; exact rfl
          have U1 : Hid (Box wv22 bvv Y23) := by rw [hwo, hY]; have h := Uvv.out.one (k := 2) (by rw [LXvv.out]; decide) (.int .u32 s.ack); rw [EXvv.out] at h; exact h
          replace Ucc := hide (Ucc.out.but bo (fun e => by have e : bcc = bvv := e; have := D_cc_vv.out; omega))
          replace Uss := hide (Uss.out.but bo (fun e => by have e : bss = bvv := e; have := D_ss_vv.out; omega))
          replace Urr := hide (Urr.out.but bo (fun e => by have e : brr = bvv := e; have := D_rr_vv.out; omega))
          replace BB : Hid (Below w.heap.size w wv22) := BB.out.trans (bo.below BB.out.size (fun g hg e => by have e : g = bvv := e; have := ZBvv.out; omega))
          have EY := hide hY
          have hwo' := hwo.symm
          clear hwo bo hY Uvv LXvv EXvv
          go_upto_region 25 with fail
          clear hwo' so fo
          try clear vo
          try clear Xvv
          obtain ⟨Xvv, hXX⟩ : ∃ X, X = Y23 := ⟨_, rfl⟩
          subst hXX
          have Uvv := U1
          have LXvv := LY
          have EXvv := EY
          clear U1 LY EY
          clear j1 j2 j3 j4
          have j1 : wv22.cell? ⟨bss, 2, none⟩ = some (.int .u32 s.seq) := by have h := Uss.out.1 2 (.int .u32 s.seq) (by rw [EXss.out]; rfl); rw [Nat.zero_add] at h; exact h
          have j2 : wv22.cell? ⟨bss, 5, none⟩ = some (.int .i64 s.wnd) := by have h := Uss.out.1 5 (.int .i64 s.wnd) (by rw [EXss.out]; rfl); rw [Nat.zero_add] at h; exact h
          have j3 : wv22.cell? ⟨bss, 3, none⟩ = some (.int .u32 s.ack) := by have h := Uss.out.1 3 (.int .u32 s.ack) (by rw [EXss.out]; rfl); rw [Nat.zero_add] at h; exact h
          have j4 : wv22.cell? ⟨bcc, 1, none⟩ = some (.int .u32 c.iss) := by have h := Ucc.out.1 1 (.int .u32 c.iss) (by rw [EXcc.out]; rfl); rw [Nat.zero_add] at h; exact h
          obtain ⟨vo, so⟩ : ∃ v, wv22.cell? ⟨bvv, 7, none⟩ = some v := by have h := Uvv.out.1 7 _ (List.getElem?_eq_getElem (by rw [LXvv.out]; decide)); rw [Nat.zero_add] at h; exact ⟨_, h⟩
          have fo := Uvv.out.2.1 7
          obtain ⟨wv24, hwo⟩ : ∃ w1, w1 = wv22.setCell ⟨bvv, 7, none⟩ (.int .u32 s.ack) := ⟨_, rfl⟩
          have bo : But (Only bvv) wv22 wv24 := by rw [hwo]; exact (But.refl (Only bvv) wv22).setOf (b := bvv) rfl 7 _
          obtain ⟨Y25, hY⟩ : ∃ X, X = (⟨{ c with irs := s.seq, rcv := ((s.seq + 1) % 4294967296), adv := ((s.seq + 1) % 4294967296), wnd := s.wnd, wl1 := s.seq, st := 2, una := s.ack, wl2 := s.ack }, 3, 0, false, false, 0, 0, false⟩ : Vd).cells := ⟨_, rfl⟩
          have LY : Hid (Y25.length = 18) := by rw [hY]; exact rfl
          have U1 : Hid (Box wv24 bvv Y25) := by rw [hwo, hY]; have h := Uvv.out.one (k := 7) (by rw [LXvv.out]; decide) (.int .u32 s.ack); rw [EXvv.out] at h; exact h
          replace Ucc := hide (Ucc.out.but bo (fun e => by have e : bcc = bvv := e; have := D_cc_vv.out; omega))
          replace Uss := hide (Uss.out.but bo (fun e => by have e : bss = bvv := e; have := D_ss_vv.out; omega))
          replace Urr := hide (Urr.out.but bo (fun e => by have e : brr = bvv := e; have := D_rr_vv.out; omega))
          replace BB : Hid (Below w.heap.size w wv24) := BB.out.trans (bo.below BB.out.size (fun g hg e => by have e : g = bvv := e; have := ZBvv.out; omega))
          have EY := hide hY
          have hwo' := hwo.symm
          clear hwo bo hY Uvv LXvv EXvv
          go_upto_region 26 with fail
          clear hwo' so fo
          try clear vo
          try clear Xvv
          obtain ⟨Xvv, hXX⟩ : ∃ X, X = Y25 := ⟨_, rfl⟩
          subst hXX
          have Uvv := U1
          have LXvv := LY
          have EXvv := EY
          clear U1 LY EY
          clear j1 j2 j3 j4
          have j1 : wv24.cell? ⟨bss, 2, none⟩ = some (.int .u32 s.seq) := by have h := Uss.out.1 2 (.int .u32 s.seq) (by rw [EXss.out]; rfl); rw [Nat.zero_add] at h; exact h
          have j2 : wv24.cell? ⟨bss, 5, none⟩ = some (.int .i64 s.wnd) := by have h := Uss.out.1 5 (.int .i64 s.wnd) (by rw [EXss.out]; rfl); rw [Nat.zero_add] at h; exact h
          have j3 : wv24.cell? ⟨bss, 3, none⟩ = some (.int .u32 s.ack) := by have h := Uss.out.1 3 (.int .u32 s.ack) (by rw [EXss.out]; rfl); rw [Nat.zero_add] at h; exact h
          have j4 : wv24.cell? ⟨bcc, 1, none⟩ = some (.int .u32 c.iss) := by have h := Ucc.out.1 1 (.int .u32 c.iss) (by rw [EXcc.out]; rfl); rw [Nat.zero_add] at h; exact h
          obtain ⟨vo, so⟩ : ∃ v, wv24.cell? ⟨bvv, 0, none⟩ = some v := by have h := Uvv.out.1 0 _ (List.getElem?_eq_getElem (by rw [LXvv.out]; decide)); rw [Nat.zero_add] at h; exact ⟨_, h⟩
          have fo := Uvv.out.2.1 0
          obtain ⟨wv26, hwo⟩ : ∃ w1, w1 = wv24.setCell ⟨bvv, 0, none⟩ (.int .i64 3) := ⟨_, rfl⟩
          have bo : But (Only bvv) wv24 wv26 := by rw [hwo]; exact (But.refl (Only bvv) wv24).setOf (b := bvv) rfl 0 _
          obtain ⟨Y27, hY⟩ : ∃ X, X = (⟨{ c with irs := s.seq, rcv := ((s.seq + 1) % 4294967296), adv := ((s.seq + 1) % 4294967296), wnd := s.wnd, wl1 := s.seq, una := s.ack, wl2 := s.ack, st := 3 }, 3, 0, false, false, 0, 0, false⟩ : Vd).cells := ⟨_, rfl⟩
          have LY : Hid (Y27.length = 18) := by rw [hY]; exact rfl
          have U1 : Hid (Box wv26 bvv Y27) := by rw [hwo, hY]; have h := Uvv.out.one (k := 0) (by rw [LXvv.out]; decide) (.int .i64 3); rw [EXvv.out] at h; exact h
          replace Ucc := hide (Ucc.out.but bo (fun e => by have e : bcc = bvv := e; have := D_cc_vv.out; omega))
          replace Uss := hide (Uss.out.but bo (fun e => by have e : bss = bvv := e; have := D_ss_vv.out; omega))
          replace Urr := hide (Urr.out.but bo (fun e => by have e : brr = bvv := e; have := D_rr_vv.out; omega))
          replace BB : Hid (Below w.heap.size w wv26) := BB.out.trans (bo.below BB.out.size (fun g hg e => by have e : g = bvv := e; have := ZBvv.out; omega))
          have EY := hide hY
          have hwo' := hwo.symm
          clear hwo bo hY Uvv LXvv EXvv
          go_upto_region 27 with fail
          clear hwo' so fo
          try clear vo
          try clear Xvv
          obtain ⟨Xvv, hXX⟩ : ∃ X, X = Y27 := ⟨_, rfl⟩
          subst hXX
          have Uvv := U1
          have LXvv := LY
          have EXvv := EY
          clear U1 LY EY
          clear j1 j2 j3 j4
          have j1 : wv26.cell? ⟨bss, 2, none⟩ = some (.int .u32 s.seq) := by have h := Uss.out.1 2 (.int .u32 s.seq) (by rw [EXss.out]; rfl); rw [Nat.zero_add] at h; exact h
          have j2 : wv26.cell? ⟨bss, 5, none⟩ = some (.int .i64 s.wnd) := by have h := Uss.out.1 5 (.int .i64 s.wnd) (by rw [EXss.out]; rfl); rw [Nat.zero_add] at h; exact h
          have j3 : wv26.cell? ⟨bss, 3, none⟩ = some (.int .u32 s.ack) := by have h := Uss.out.1 3 (.int .u32 s.ack) (by rw [EXss.out]; rfl); rw [Nat.zero_add] at h; exact h
          have j4 : wv26.cell? ⟨bcc, 1, none⟩ = some (.int .u32 c.iss) := by have h := Ucc.out.1 1 (.int .u32 c.iss) (by rw [EXcc.out]; rfl); rw [Nat.zero_add] at h; exact h
          obtain ⟨vo, so⟩ : ∃ v, wv26.cell? ⟨bvv, 11, none⟩ = some v := by have h := Uvv.out.1 11 _ (List.getElem?_eq_getElem (by rw [LXvv.out]; decide)); rw [Nat.zero_add] at h; exact ⟨_, h⟩
          have fo := Uvv.out.2.1 11
          obtain ⟨wv28, hwo⟩ : ∃ w1, w1 = wv26.setCell ⟨bvv, 11, none⟩ (.int .i64 1) := ⟨_, rfl⟩
          have bo : But (Only bvv) wv26 wv28 := by rw [hwo]; exact (But.refl (Only bvv) wv26).setOf (b := bvv) rfl 11 _
          obtain ⟨Y29, hY⟩ : ∃ X, X = (⟨{ c with irs := s.seq, rcv := ((s.seq + 1) % 4294967296), adv := ((s.seq + 1) % 4294967296), wnd := s.wnd, wl1 := s.seq, una := s.ack, wl2 := s.ack, st := 3 }, 1, 0, false, false, 0, 0, false⟩ : Vd).cells := ⟨_, rfl⟩
          have LY : Hid (Y29.length = 18) := by rw [hY]; exact rfl
          have U1 : Hid (Box wv28 bvv Y29) := by rw [hwo, hY]; have h := Uvv.out.one (k := 11) (by rw [LXvv.out]; decide) (.int .i64 1); rw [EXvv.out] at h; exact h
          replace Ucc := hide (Ucc.out.but bo (fun e => by have e : bcc = bvv := e; have := D_cc_vv.out; omega))
          replace Uss := hide (Uss.out.but bo (fun e => by have e : bss = bvv := e; have := D_ss_vv.out; omega))
          replace Urr := hide (Urr.out.but bo (fun e => by have e : brr = bvv := e; have := D_rr_vv.out; omega))
          replace BB : Hid (Below w.heap.size w wv28) := BB.out.trans (bo.below BB.out.size (fun g hg e => by have e : g = bvv := e; have := ZBvv.out; omega))
          have EY := hide hY
          have hwo' := hwo.symm
          clear hwo bo hY Uvv LXvv EXvv
          go_upto_region 28 with fail
          clear hwo' so fo
          try clear vo
          try clear Xvv
          obtain ⟨Xvv, hXX⟩ : ∃ X, X = Y29 := ⟨_, rfl⟩
          subst hXX
          have Uvv := U1
          have LXvv := LY
          have EXvv := EY
          clear U1 LY EY
          obtain ⟨vo, so⟩ : ∃ v, wv28.cell? ⟨bvv, 13, none⟩ = some v := by have h := Uvv.out.1 13 _ (List.getElem?_eq_getElem (by rw [LXvv.out]; decide)); rw [Nat.zero_add] at h; exact ⟨_, h⟩
          have fo := Uvv.out.2.1 13
          obtain ⟨wv30, hwo⟩ : ∃ w1, w1 = wv28.setCell ⟨bvv, 13, none⟩ (.bool true) := ⟨_, rfl⟩
          have bo : But (Only bvv) wv28 wv30 := by rw [hwo]; exact (But.refl (Only bvv) wv28).setOf (b := bvv) rfl 13 _
          obtain ⟨Y31, hY⟩ : ∃ X, X = (⟨{ c with irs := s.seq, rcv := ((s.seq + 1) % 4294967296), adv := ((s.seq + 1) % 4294967296), wnd := s.wnd, wl1 := s.seq, una := s.ack, wl2 := s.ack, st := 3 }, 1, 0, true, false, 0, 0, false⟩ : Vd).cells := ⟨_, rfl⟩
          have LY : Hid (Y31.length = 18) := by rw [hY]; exact rfl
          have U1 : Hid (Box wv30 bvv Y31) := by rw [hwo, hY]; have h := Uvv.out.one (k := 13) (by rw [LXvv.out]; decide) (.bool true); rw [EXvv.out] at h; exact h
          replace Ucc := hide (Ucc.out.but bo (fun e => by have e : bcc = bvv := e; have := D_cc_vv.out; omega))
          replace Uss := hide (Uss.out.but bo (fun e => by have e : bss = bvv := e; have := D_ss_vv.out; omega))
          replace Urr := hide (Urr.out.but bo (fun e => by have e : brr = bvv := e; have := D_rr_vv.out; omega))
          replace BB : Hid (Below w.heap.size w wv30) := BB.out.trans (bo.below BB.out.size (fun g hg e => by have e : g = bvv := e; have := ZBvv.out; omega))
          have EY := hide hY
          have hwo' := hwo.symm
          clear hwo bo hY Uvv LXvv EXvv
          go_upto_region 29 with fail
          clear hwo' so fo
          try clear vo
          try clear Xvv
          obtain ⟨Xvv, hXX⟩ : ∃ X, X = Y31 := ⟨_, rfl⟩
          subst hXX
          have Uvv := U1
          have LXvv := LY
          have EXvv := EY
          clear U1 LY EY
          clear j1 j2 j3 j4
          have UVo := hide Uvv.out.1
          have RE : R = (⟨{ c with irs := s.seq, rcv := ((s.seq + 1) % 4294967296), adv := ((s.seq + 1) % 4294967296), wnd := s.wnd, wl1 := s.seq, una := s.ack, wl2 := s.ack, st := 3 }, 1, 0, true, false, 0, 0, false⟩ : Vd) := by rw [HJ2.out]; rfl
          have HRE := hide RE
          clear RE
          obtain ⟨Y33, hY⟩ : ∃ X, X = ((⟨{ c with irs := s.seq, rcv := ((s.seq + 1) % 4294967296), adv := ((s.seq + 1) % 4294967296), wnd := s.wnd, wl1 := s.seq, una := s.ack, wl2 := s.ack, st := 3 }, 1, 0, true, false, 0, 0, false⟩ : Vd) : Vd).cells := ⟨_, rfl⟩
          have LY : Hid (Y33.length = 18) := by rw [hY]; exact rfl
          have OY : Hid (∀ u ∈ Y33, u.oneCell' = true) := by rw [hY]; exact vd_one _
          obtain ⟨wv32, hwo⟩ : ∃ w1, w1 = wv30.setCells brr 0 Y33 := ⟨_, rfl⟩
          have bo : But (Only brr) wv30 wv32 := by rw [hwo]; exact But.cells brr Y33 0 wv30
          have CO := hide Urr.out.1
          have FO := hide Urr.out.2.1
          have LO := LXrr
          have U1 : Hid (Box wv32 brr Y33) := by rw [hwo]; exact Urr.out.all (by rw [LY.out, LXrr.out])
          replace Ucc := hide (Ucc.out.but bo (fun e => by have e : bcc = brr := e; have := D_cc_rr.out; omega))
          replace Uss := hide (Uss.out.but bo (fun e => by have e : bss = brr := e; have := D_ss_rr.out; omega))
          replace Uvv := hide (Uvv.out.but bo (fun e => by have e : bvv = brr := e; have := D_rr_vv.out; omega))
          replace BB : Hid (Below w.heap.size w wv32) := BB.out.trans (bo.below BB.out.size (fun g hg e => by have e : g = brr := e; have := ZBrr.out; omega))
          have EY := hide hY
          have hwo' := hwo.symm
          clear hwo bo hY Urr LXrr EXrr
          have UV0 : Hid (CellsAt wv30 bvv 0 Y33) := by rw [show Y33 = Xvv from by rw [EY.out, EXvv.out]]; exact UVo.out
          go_wp2_with (first | refine wpList_loadA rfl 32 18 aggVd sizVd _ rfl bvv 0 rfl Y33 LY.out UV0.out ?_ | (refine wpList_storeA rfl 32 18 sizVd _ _ rfl brr 0 rfl Y33 Xrr rfl LY.out LO.out CO.out FO.out OY.out ?_; intro hcs; clear hcs; rw [hwo']))
          refine bodyPost_ret (v := .agg Y33.toArray) (results_A rfl _ _ brr _ rfl (run_loadVarA 32 18 aggVd sizVd brr 0 _ LY.out U1.out.1)) rfl ?_
          exact ⟨by rw [EY.out, HRE.out], BB.out⟩
    · have q1 : (s.ack != c.nxt) = true := by simpa using hk
      have JJ := HJ.out
      rw [if_pos ⟨rfl, hk⟩] at JJ
      have HJ2 := hide JJ
      clear JJ HJ hk
      go_upto_region 6 with fail
      clear k1 k2 q1
      cases h4 with
      | true =>
        go_upto_region 8 with fail
        have UVo := hide Uvv.out.1
        have RE : R = (⟨c, 0, 0, false, false, 0, 0, false⟩ : Vd) := by rw [HJ2.out]; rfl
        have HRE := hide RE
        clear RE
        obtain ⟨Y7, hY⟩ : ∃ X, X = ((⟨c, 0, 0, false, false, 0, 0, false⟩ : Vd) : Vd).cells := ⟨_, rfl⟩
        have LY : Hid (Y7.length = 18) := by rw [hY]; exact rfl
        have OY : Hid (∀ u ∈ Y7, u.oneCell' = true) := by rw [hY]; exact vd_one _
        obtain ⟨wv6, hwo⟩ : ∃ w1, w1 = wv5.setCells brr 0 Y7 := ⟨_, rfl⟩
        have bo : But (Only brr) wv5 wv6 := by rw [hwo]; exact But.cells brr Y7 0 wv5
        have CO := hide Urr.out.1
        have FO := hide Urr.out.2.1
        have LO := LXrr
        have U1 : Hid (Box wv6 brr Y7) := by rw [hwo]; exact Urr.out.all (by rw [LY.out, LXrr.out])
        replace Ucc := hide (Ucc.out.but bo (fun e => by have e : bcc = brr := e; have := D_cc_rr.out; omega))
        replace Uss := hide (Uss.out.but bo (fun e => by have e : bss = brr := e; have := D_ss_rr.out; omega))
        replace Uvv := hide (Uvv.out.but bo (fun e => by have e : bvv = brr := e; have := D_rr_vv.out; omega))
        replace BB : Hid (Below w.heap.size w wv6) := BB.out.trans (bo.below BB.out.size (fun g hg e => by have e : g = brr := e; have := ZBrr.out; omega))
        have EY := hide hY
        have hwo' := hwo.symm
        clear hwo bo hY Urr LXrr EXrr
        have UV0 : Hid (CellsAt wv5 bvv 0 Y7) := by rw [show Y7 = Xvv from by rw [EY.out, EXvv.out]]; exact UVo.out
        go_wp2_with (first | refine wpList_loadA rfl 32 18 aggVd sizVd _ rfl bvv 0 rfl Y7 LY.out UV0.out ?_ | (refine wpList_storeA rfl 32 18 sizVd _ _ rfl brr 0 rfl Y7 Xrr rfl LY.out LO.out CO.out FO.out OY.out ?_; intro hcs; clear hcs; rw [hwo']))
        refine bodyPost_ret (v := .agg Y7.toArray) (results_A rfl _ _ brr _ rfl (run_loadVarA 32 18 aggVd sizVd brr 0 _ LY.out U1.out.1)) rfl ?_
        exact ⟨by rw [EY.out, HRE.out], BB.out⟩
      | false =>
        obtain ⟨vo, so⟩ : ∃ v, wv5.cell? ⟨bvv, 11, none⟩ = some v := by have h := Uvv.out.1 11 _ (List.getElem?_eq_getElem (by rw [LXvv.out]; decide)); rw [Nat.zero_add] at h; exact ⟨_, h⟩
        have fo := Uvv.out.2.1 11
        obtain ⟨wv6, hwo⟩ : ∃ w1, w1 = wv5.setCell ⟨bvv, 11, none⟩ (.int .i64 2) := ⟨_, rfl⟩
        have bo : But (Only bvv) wv5 wv6 := by rw [hwo]; exact (But.refl (Only bvv) wv5).setOf (b := bvv) rfl 11 _
        obtain ⟨Y7, hY⟩ : ∃ X, X = ((⟨c, 2, 0, false, false, 0, 0, false⟩ : Vd) : Vd).cells := ⟨_, rfl⟩
        have LY : Hid (Y7.length = 18) := by rw [hY]; exact rfl
        have U1 : Hid (Box wv6 bvv Y7) := by rw [hwo, hY]; have h := Uvv.out.one (k := 11) (by rw [LXvv.out]; decide) (.int .i64 2); rw [EXvv.out] at h; exact h
        replace Ucc := hide (Ucc.out.but bo (fun e => by have e : bcc = bvv := e; have := D_cc_vv.out; omega))
        replace Uss := hide (Uss.out.but bo (fun e => by have e : bss = bvv := e; have := D_ss_vv.out; omega))
        replace Urr := hide (Urr.out.but bo (fun e => by have e : brr = bvv := e; have := D_rr_vv.out; omega))
        replace BB : Hid (Below w.heap.size w wv6) := BB.out.trans (bo.below BB.out.size (fun g hg e => by have e : g = bvv := e; have := ZBvv.out; omega))
        have EY := hide hY
        have hwo' := hwo.symm
        clear hwo bo hY Uvv LXvv EXvv
        go_upto_region 8 with fail
        clear hwo' so fo
        try clear vo
        try clear Xvv
        obtain ⟨Xvv, hXX⟩ : ∃ X, X = Y7 := ⟨_, rfl⟩
        subst hXX
        have Uvv := U1
        have LXvv := LY
        have EXvv := EY
        clear U1 LY EY
        have UVo := hide Uvv.out.1
        have RE : R = (⟨c, 2, 0, false, false, 0, 0, false⟩ : Vd) := by rw [HJ2.out]; rfl
        have HRE := hide RE
        clear RE
        obtain ⟨Y9, hY⟩ : ∃ X, X = ((⟨c, 2, 0, false, false, 0, 0, false⟩ : Vd) : Vd).cells := ⟨_, rfl⟩
        have LY : Hid (Y9.length = 18) := by rw [hY]; exact rfl
        have OY : Hid (∀ u ∈ Y9, u.oneCell' = true) := by rw [hY]; exact vd_one _
        obtain ⟨wv8, hwo⟩ : ∃ w1, w1 = wv6.setCells brr 0 Y9 := ⟨_, rfl⟩
        have bo : But (Only brr) wv6 wv8 := by rw [hwo]; exact But.cells brr Y9 0 wv6
        have CO := hide Urr.out.1
        have FO := hide Urr.out.2.1
        have LO := LXrr
        have U1 : Hid (Box wv8 brr Y9) := by rw [hwo]; exact Urr.out.all (by rw [LY.out, LXrr.out])
        replace Ucc := hide (Ucc.out.but bo (fun e => by have e : bcc = brr := e; have := D_cc_rr.out; omega))
        replace Uss := hide (Uss.out.but bo (fun e => by have e : bss = brr := e; have := D_ss_rr.out; omega))
        replace Uvv := hide (Uvv.out.but bo (fun e => by have e : bvv = brr := e; have := D_rr_vv.out; omega))
        replace BB : Hid (Below w.heap.size w wv8) := BB.out.trans (bo.below BB.out.size (fun g hg e => by have e : g = brr := e; have := ZBrr.out; omega))
        have EY := hide hY
        have hwo' := hwo.symm
        clear hwo bo hY Urr LXrr EXrr
        have UV0 : Hid (CellsAt wv6 bvv 0 Y9) := by rw [show Y9 = Xvv from by rw [EY.out, EXvv.out]]; exact UVo.out
        go_wp2_with (first | refine wpList_loadA rfl 32 18 aggVd sizVd _ rfl bvv 0 rfl Y9 LY.out UV0.out ?_ | (refine wpList_storeA rfl 32 18 sizVd _ _ rfl brr 0 rfl Y9 Xrr rfl LY.out LO.out CO.out FO.out OY.out ?_; intro hcs; clear hcs; rw [hwo']))
        refine bodyPost_ret (v := .agg Y9.toArray) (results_A rfl _ _ brr _ rfl (run_loadVarA 32 18 aggVd sizVd brr 0 _ LY.out U1.out.1)) rfl ?_
        exact ⟨by rw [EY.out, HRE.out], BB.out⟩
  | false =>
    have JJ := HJ.out
    rw [if_neg (fun k => by cases k.1)] at JJ
    have HJ2 := hide JJ
    clear JJ HJ
    go_upto_region 9 with fail
    clear k1 k2
    cases h4 with
    | true =>
      go_upto_region 12 with fail
      have UVo := hide Uvv.out.1
      have RE : R = (⟨c, 0, 0, false, false, 0, 0, false⟩ : Vd) := by rw [HJ2.out]; rfl
      have HRE := hide RE
      clear RE
      obtain ⟨Y7, hY⟩ : ∃ X, X = ((⟨c, 0, 0, false, false, 0, 0, false⟩ : Vd) : Vd).cells := ⟨_, rfl⟩
      have LY : Hid (Y7.length = 18) := by rw [hY]; exact rfl
      have OY : Hid (∀ u ∈ Y7, u.oneCell' = true) := by rw [hY]; exact vd_one _
      obtain ⟨wv6, hwo⟩ : ∃ w1, w1 = wv5.setCells brr 0 Y7 := ⟨_, rfl⟩
      have bo : But (Only brr) wv5 wv6 := by rw [hwo]; exact But.cells brr Y7 0 wv5
      have CO := hide Urr.out.1
      have FO := hide Urr.out.2.1
      have LO := LXrr
      have U1 : Hid (Box wv6 brr Y7) := by rw [hwo]; exact Urr.out.all (by rw [LY.out, LXrr.out])
      replace Ucc := hide (Ucc.out.but bo (fun e => by have e : bcc = brr := e; have := D_cc_rr.out; omega))
      replace Uss := hide (Uss.out.but bo (fun e => by have e : bss = brr := e; have := D_ss_rr.out; omega))
      replace Uvv := hide (Uvv.out.but bo (fun e => by have e : bvv = brr := e; have := D_rr_vv.out; omega))
      replace BB : Hid (Below w.heap.size w wv6) := BB.out.trans (bo.below BB.out.size (fun g hg e => by have e : g = brr := e; have := ZBrr.out; omega))
      have EY := hide hY
      have hwo' := hwo.symm
      clear hwo bo hY Urr LXrr EXrr
      have UV0 : Hid (CellsAt wv5 bvv 0 Y7) := by rw [show Y7 = Xvv from by rw [EY.out, EXvv.out]]; exact UVo.out
      go_wp2_with (first | refine wpList_loadA rfl 32 18 aggVd sizVd _ rfl bvv 0 rfl Y7 LY.out UV0.out ?_ | (refine wpList_storeA rfl 32 18 sizVd _ _ rfl brr 0 rfl Y7 Xrr rfl LY.out LO.out CO.out FO.out OY.out ?_; intro hcs; clear hcs; rw [hwo']))
      refine bodyPost_ret (v := .agg Y7.toArray) (results_A rfl _ _ brr _ rfl (run_loadVarA 32 18 aggVd sizVd brr 0 _ LY.out U1.out.1)) rfl ?_
      exact ⟨by rw [EY.out, HRE.out], BB.out⟩
    | false =>
      cases h2 with
      | false =>
        have UVo := hide Uvv.out.1
        have RE : R = (⟨c, 0, 0, false, false, 0, 0, false⟩ : Vd) := by rw [HJ2.out]; rfl
        have HRE := hide RE
        clear RE
        obtain ⟨Y7, hY⟩ : ∃ X, X = ((⟨c, 0, 0, false, false, 0, 0, false⟩ : Vd) : Vd).cells := ⟨_, rfl⟩
        have LY : Hid (Y7.length = 18) := by rw [hY]; exact rfl
        have OY : Hid (∀ u ∈ Y7, u.oneCell' = true) := by rw [hY]; exact vd_one _
        obtain ⟨wv6, hwo⟩ : ∃ w1, w1 = wv5.setCells brr 0 Y7 := ⟨_, rfl⟩
        have bo : But (Only brr) wv5 wv6 := by rw [hwo]; exact But.cells brr Y7 0 wv5
        have CO := hide Urr.out.1
        have FO := hide Urr.out.2.1
        have LO := LXrr
        have U1 : Hid (Box wv6 brr Y7) := by rw [hwo]; exact Urr.out.all (by rw [LY.out, LXrr.out])
        replace Ucc := hide (Ucc.out.but bo (fun e => by have e : bcc = brr := e; have := D_cc_rr.out; omega))
        replace Uss := hide (Uss.out.but bo (fun e => by have e : bss = brr := e; have := D_ss_rr.out; omega))
        replace Uvv := hide (Uvv.out.but bo (fun e => by have e : bvv = brr := e; have := D_rr_vv.out; omega))
        replace BB : Hid (Below w.heap.size w wv6) := BB.out.trans (bo.below BB.out.size (fun g hg e => by have e : g = brr := e; have := ZBrr.out; omega))
        have EY := hide hY
        have hwo' := hwo.symm
        clear hwo bo hY Urr LXrr EXrr
        have UV0 : Hid (CellsAt wv5 bvv 0 Y7) := by rw [show Y7 = Xvv from by rw [EY.out, EXvv.out]]; exact UVo.out
        go_wp2_with (first | refine wpList_loadA rfl 32 18 aggVd sizVd _ rfl bvv 0 rfl Y7 LY.out UV0.out ?_ | (refine wpList_storeA rfl 32 18 sizVd _ _ rfl brr 0 rfl Y7 Xrr rfl LY.out LO.out CO.out FO.out OY.out ?_; intro hcs; clear hcs; rw [hwo']))
        refine bodyPost_ret (v := .agg Y7.toArray) (results_A rfl _ _ brr _ rfl (run_loadVarA 32 18 aggVd sizVd brr 0 _ LY.out U1.out.1)) rfl ?_
        exact ⟨by rw [EY.out, HRE.out], BB.out⟩
      | true =>
        have j1 : wv5.cell? ⟨bss, 2, none⟩ = some (.int .u32 s.seq) := by have h := Uss.out.1 2 (.int .u32 s.seq) (by rw [EXss.out]; rfl); rw [Nat.zero_add] at h; exact h
        have j2 : wv5.cell? ⟨bss, 5, none⟩ = some (.int .i64 s.wnd) := by have h := Uss.out.1 5 (.int .i64 s.wnd) (by rw [EXss.out]; rfl); rw [Nat.zero_add] at h; exact h
        have j3 : wv5.cell? ⟨bss, 3, none⟩ = some (.int .u32 s.ack) := by have h := Uss.out.1 3 (.int .u32 s.ack) (by rw [EXss.out]; rfl); rw [Nat.zero_add] at h; exact h
        have j4 : wv5.cell? ⟨bcc, 1, none⟩ = some (.int .u32 c.iss) := by have h := Ucc.out.1 1 (.int .u32 c.iss) (by rw [EXcc.out]; rfl); rw [Nat.zero_add] at h; exact h
        obtain ⟨vo, so⟩ : ∃ v, wv5.cell? ⟨bvv, 8, none⟩ = some v := by have h := Uvv.out.1 8 _ (List.getElem?_eq_getElem (by rw [LXvv.out]; decide)); rw [Nat.zero_add] at h; exact ⟨_, h⟩
        have fo := Uvv.out.2.1 8
        obtain ⟨wv6, hwo⟩ : ∃ w1, w1 = wv5.setCell ⟨bvv, 8, none⟩ (.int .u32 s.seq) := ⟨_, rfl⟩
        have bo : But (Only bvv) wv5 wv6 := by rw [hwo]; exact (But.refl (Only bvv) wv5).setOf (b := bvv) rfl 8 _
        obtain ⟨Y7, hY⟩ : ∃ X, X = (⟨{ c with irs := s.seq }, 0, 0, false, false, 0, 0, false⟩ : Vd).cells := ⟨_, rfl⟩
        have LY : Hid (Y7.length = 18) := by rw [hY]; exact rfl
        have U1 : Hid (Box wv6 bvv Y7) := by rw [hwo, hY]; have h := Uvv.out.one (k := 8) (by rw [LXvv.out]; decide) (.int .u32 s.seq); rw [EXvv.out] at h; exact h
        replace Ucc := hide (Ucc.out.but bo (fun e => by have e : bcc = bvv := e; have := D_cc_vv.out; omega))
        replace Uss := hide (Uss.out.but bo (fun e => by have e : bss = bvv := e; have := D_ss_vv.out; omega))
        replace Urr := hide (Urr.out.but bo (fun e => by have e : brr = bvv := e; have := D_rr_vv.out; omega))
        replace BB : Hid (Below w.heap.size w wv6) := BB.out.trans (bo.below BB.out.size (fun g hg e => by have e : g = bvv := e; have := ZBvv.out; omega))
        have EY := hide hY
        have hwo' := hwo.symm
        clear hwo bo hY Uvv LXvv EXvv
        go_upto_region 16 with fail
        clear hwo' so fo
        try clear vo
        try clear Xvv
        obtain ⟨Xvv, hXX⟩ : ∃ X, X = Y7 := ⟨_, rfl⟩
        subst hXX
        have Uvv := U1
        have LXvv := LY
        have EXvv := EY
        clear U1 LY EY
        clear j1 j2 j3 j4
        have j1 : wv6.cell? ⟨bss, 2, none⟩ = some (.int .u32 s.seq) := by have h := Uss.out.1 2 (.int .u32 s.seq) (by rw [EXss.out]; rfl); rw [Nat.zero_add] at h; exact h
        have j2 : wv6.cell? ⟨bss, 5, none⟩ = some (.int .i64 s.wnd) := by have h := Uss.out.1 5 (.int .i64 s.wnd) (by rw [EXss.out]; rfl); rw [Nat.zero_add] at h; exact h
        have j3 : wv6.cell? ⟨bss, 3, none⟩ = some (.int .u32 s.ack) := by have h := Uss.out.1 3 (.int .u32 s.ack) (by rw [EXss.out]; rfl); rw [Nat.zero_add] at h; exact h
        have j4 : wv6.cell? ⟨bcc, 1, none⟩ = some (.int .u32 c.iss) := by have h := Ucc.out.1 1 (.int .u32 c.iss) (by rw [EXcc.out]; rfl); rw [Nat.zero_add] at h; exact h
        obtain ⟨vo, so⟩ : ∃ v, wv6.cell? ⟨bvv, 9, none⟩ = some v := by have h := Uvv.out.1 9 _ (List.getElem?_eq_getElem (by rw [LXvv.out]; decide)); rw [Nat.zero_add] at h; exact ⟨_, h⟩
        have fo := Uvv.out.2.1 9
        obtain ⟨wv8, hwo⟩ : ∃ w1, w1 = wv6.setCell ⟨bvv, 9, none⟩ (.int .u32 ((s.seq + 1) % 4294967296)) := ⟨_, rfl⟩
        have bo : But (Only bvv) wv6 wv8 := by rw [hwo]; exact (But.refl (Only bvv) wv6).setOf (b := bvv) rfl 9 _
        obtain ⟨Y9, hY⟩ : ∃ X, X = (⟨{ c with irs := s.seq, rcv := ((s.seq + 1) % 4294967296) }, 0, 0, false, false, 0, 0, false⟩ : Vd).cells := ⟨_, rfl⟩
        have LY : Hid (Y9.length = 18) := by rw [hY]; exact rfl
        have U1 : Hid (Box wv8 bvv Y9) := by rw [hwo, hY]; have h := Uvv.out.one (k := 9) (by rw [LXvv.out]; decide) (.int .u32 ((s.seq + 1) % 4294967296)); rw [EXvv.out] at h; exact h
        replace Ucc := hide (Ucc.out.but bo (fun e => by have e : bcc = bvv := e; have := D_cc_vv.out; omega))
        replace Uss := hide (Uss.out.but bo (fun e => by have e : bss = bvv := e; have := D_ss_vv.out; omega))
        replace Urr := hide (Urr.out.but bo (fun e => by have e : brr = bvv := e; have := D_rr_vv.out; omega))
        replace BB : Hid (Below w.heap.size w wv8) := BB.out.trans (bo.below BB.out.size (fun g hg e => by have e : g = bvv := e; have := ZBvv.out; omega))
        have EY := hide hY
        have hwo' := hwo.symm
        clear hwo bo hY Uvv LXvv EXvv
        go_upto_region 17 with fail
        clear hwo' so fo
        try clear vo
        try clear Xvv
        obtain ⟨Xvv, hXX⟩ : ∃ X, X = Y9 := ⟨_, rfl⟩
        subst hXX
        have Uvv := U1
        have LXvv := LY
        have EXvv := EY
        clear U1 LY EY
        clear j1 j2 j3 j4
        have j1 : wv8.cell? ⟨bss, 2, none⟩ = some (.int .u32 s.seq) := by have h := Uss.out.1 2 (.int .u32 s.seq) (by rw [EXss.out]; rfl); rw [Nat.zero_add] at h; exact h
        have j2 : wv8.cell? ⟨bss, 5, none⟩ = some (.int .i64 s.wnd) := by have h := Uss.out.1 5 (.int .i64 s.wnd) (by rw [EXss.out]; rfl); rw [Nat.zero_add] at h; exact h
        have j3 : wv8.cell? ⟨bss, 3, none⟩ = some (.int .u32 s.ack) := by have h := Uss.out.1 3 (.int .u32 s.ack) (by rw [EXss.out]; rfl); rw [Nat.zero_add] at h; exact h
        have j4 : wv8.cell? ⟨bcc, 1, none⟩ = some (.int .u32 c.iss) := by have h := Ucc.out.1 1 (.int .u32 c.iss) (by rw [EXcc.out]; rfl); rw [Nat.zero_add] at h; exact h
        obtain ⟨vo, so⟩ : ∃ v, wv8.cell? ⟨bvv, 10, none⟩ = some v := by have h := Uvv.out.1 10 _ (List.getElem?_eq_getElem (by rw [LXvv.out]; decide)); rw [Nat.zero_add] at h; exact ⟨_, h⟩
        have fo := Uvv.out.2.1 10
        obtain ⟨wv10, hwo⟩ : ∃ w1, w1 = wv8.setCell ⟨bvv, 10, none⟩ (.int .u32 ((s.seq + 1) % 4294967296)) := ⟨_, rfl⟩
        have bo : But (Only bvv) wv8 wv10 := by rw [hwo]; exact (But.refl (Only bvv) wv8).setOf (b := bvv) rfl 10 _
        obtain ⟨Y11, hY⟩ : ∃ X, X = (⟨{ c with irs := s.seq, rcv := ((s.seq + 1) % 4294967296), adv := ((s.seq + 1) % 4294967296) }, 0, 0, false, false, 0, 0, false⟩ : Vd).cells := ⟨_, rfl⟩
        have LY : Hid (Y11.length = 18) := by rw [hY]; exact rfl
        have U1 : Hid (Box wv10 bvv Y11) := by rw [hwo, hY]; have h := Uvv.out.one (k := 10) (by rw [LXvv.out]; decide) (.int .u32 ((s.seq + 1) % 4294967296)); rw [EXvv.out] at h; exact h
        replace Ucc := hide (Ucc.out.but bo (fun e => by have e : bcc = bvv := e; have := D_cc_vv.out; omega))
        replace Uss := hide (Uss.out.but bo (fun e => by have e : bss = bvv := e; have := D_ss_vv.out; omega))
        replace Urr := hide (Urr.out.but bo (fun e => by have e : brr = bvv := e; have := D_rr_vv.out; omega))
        replace BB : Hid (Below w.heap.size w wv10) := BB.out.trans (bo.below BB.out.size (fun g hg e => by have e : g = bvv := e; have := ZBvv.out; omega))
        have EY := hide hY
        have hwo' := hwo.symm
        clear hwo bo hY Uvv LXvv EXvv
        go_upto_region 18 with fail
        clear hwo' so fo
        try clear vo
        try clear Xvv
        obtain ⟨Xvv, hXX⟩ : ∃ X, X = Y11 := ⟨_, rfl⟩
        subst hXX
        have Uvv := U1
        have LXvv := LY
        have EXvv := EY
        clear U1 LY EY
        clear j1 j2 j3 j4
        have j1 : wv10.cell? ⟨bss, 2, none⟩ = some (.int .u32 s.seq) := by have h := Uss.out.1 2 (.int .u32 s.seq) (by rw [EXss.out]; rfl); rw [Nat.zero_add] at h; exact h
        have j2 : wv10.cell? ⟨bss, 5, none⟩ = some (.int .i64 s.wnd) := by have h := Uss.out.1 5 (.int .i64 s.wnd) (by rw [EXss.out]; rfl); rw [Nat.zero_add] at h; exact h
        have j3 : wv10.cell? ⟨bss, 3, none⟩ = some (.int .u32 s.ack) := by have h := Uss.out.1 3 (.int .u32 s.ack) (by rw [EXss.out]; rfl); rw [Nat.zero_add] at h; exact h
        have j4 : wv10.cell? ⟨bcc, 1, none⟩ = some (.int .u32 c.iss) := by have h := Ucc.out.1 1 (.int .u32 c.iss) (by rw [EXcc.out]; rfl); rw [Nat.zero_add] at h; exact h
        obtain ⟨vo, so⟩ : ∃ v, wv10.cell? ⟨bvv, 5, none⟩ = some v := by have h := Uvv.out.1 5 _ (List.getElem?_eq_getElem (by rw [LXvv.out]; decide)); rw [Nat.zero_add] at h; exact ⟨_, h⟩
        have fo := Uvv.out.2.1 5
        obtain ⟨wv12, hwo⟩ : ∃ w1, w1 = wv10.setCell ⟨bvv, 5, none⟩ (.int .i64 s.wnd) := ⟨_, rfl⟩
        have bo : But (Only bvv) wv10 wv12 := by rw [hwo]; exact (But.refl (Only bvv) wv10).setOf (b := bvv) rfl 5 _
        obtain ⟨Y13, hY⟩ : ∃ X, X = (⟨{ c with irs := s.seq, rcv := ((s.seq + 1) % 4294967296), adv := ((s.seq + 1) % 4294967296), wnd := s.wnd }, 0, 0, false, false, 0, 0, false⟩ : Vd).cells := ⟨_, rfl⟩
        have LY : Hid (Y13.length = 18) := by rw [hY]; exact rfl
        have U1 : Hid (Box wv12 bvv Y13) := by rw [hwo, hY]; have h := Uvv.out.one (k := 5) (by rw [LXvv.out]; decide) (.int .i64 s.wnd); rw [EXvv.out] at h; exact h
        replace Ucc := hide (Ucc.out.but bo (fun e => by have e : bcc = bvv := e; have := D_cc_vv.out; omega))
        replace Uss := hide (Uss.out.but bo (fun e => by have e : bss = bvv := e; have := D_ss_vv.out; omega))
        replace Urr := hide (Urr.out.but bo (fun e => by have e : brr = bvv := e; have := D_rr_vv.out; omega))
        replace BB : Hid (Below w.heap.size w wv12) := BB.out.trans (bo.below BB.out.size (fun g hg e => by have e : g = bvv := e; have := ZBvv.out; omega))
        have EY := hide hY
        have hwo' := hwo.symm
        clear hwo bo hY Uvv LXvv EXvv
        go_upto_region 19 with fail
        clear hwo' so fo
        try clear vo
        try clear Xvv
        obtain ⟨Xvv, hXX⟩ : ∃ X, X = Y13 := ⟨_, rfl⟩
        subst hXX
        have Uvv := U1
        have LXvv := LY
        have EXvv := EY
        clear U1 LY EY
        clear j1 j2 j3 j4
        have j1 : wv12.cell? ⟨bss, 2, none⟩ = some (.int .u32 s.seq) := by have h := Uss.out.1 2 (.int .u32 s.seq) (by rw [EXss.out]; rfl); rw [Nat.zero_add] at h; exact h
        have j2 : wv12.cell? ⟨bss, 5, none⟩ = some (.int .i64 s.wnd) := by have h := Uss.out.1 5 (.int .i64 s.wnd) (by rw [EXss.out]; rfl); rw [Nat.zero_add] at h; exact h
        have j3 : wv12.cell? ⟨bss, 3, none⟩ = some (.int .u32 s.ack) := by have h := Uss.out.1 3 (.int .u32 s.ack) (by rw [EXss.out]; rfl); rw [Nat.zero_add] at h; exact h
        have j4 : wv12.cell? ⟨bcc, 1, none⟩ = some (.int .u32 c.iss) := by have h := Ucc.out.1 1 (.int .u32 c.iss) (by rw [EXcc.out]; rfl); rw [Nat.zero_add] at h; exact h
        obtain ⟨vo, so⟩ : ∃ v, wv12.cell? ⟨bvv, 6, none⟩ = some v := by have h := Uvv.out.1 6 _ (List.getElem?_eq_getElem (by rw [LXvv.out]; decide)); rw [Nat.zero_add] at h; exact ⟨_, h⟩
        have fo := Uvv.out.2.1 6
        obtain ⟨wv14, hwo⟩ : ∃ w1, w1 = wv12.setCell ⟨bvv, 6, none⟩ (.int .u32 s.seq) := ⟨_, rfl⟩
        have bo : But (Only bvv) wv12 wv14 := by rw [hwo]; exact (But.refl (Only bvv) wv12).setOf (b := bvv) rfl 6 _
        obtain ⟨Y15, hY⟩ : ∃ X, X = (⟨{ c with irs := s.seq, rcv := ((s.seq + 1) % 4294967296), adv := ((s.seq + 1) % 4294967296), wnd := s.wnd, wl1 := s.seq }, 0, 0, false, false, 0, 0, false⟩ : Vd).cells := ⟨_, rfl⟩
        have LY : Hid (Y15.length = 18) := by rw [hY]; exact rfl
        have U1 : Hid (Box wv14 bvv Y15) := by rw [hwo, hY]; have h := Uvv.out.one (k := 6) (by rw [LXvv.out]; decide) (.int .u32 s.seq); rw [EXvv.out] at h; exact h
        replace Ucc := hide (Ucc.out.but bo (fun e => by have e : bcc = bvv := e; have := D_cc_vv.out; omega))
        replace Uss := hide (Uss.out.but bo (fun e => by have e : bss = bvv := e; have := D_ss_vv.out; omega))
        replace Urr := hide (Urr.out.but bo (fun e => by have e : brr = bvv := e; have := D_rr_vv.out; omega))
        replace BB : Hid (Below w.heap.size w wv14) := BB.out.trans (bo.below BB.out.size (fun g hg e => by have e : g = bvv := e; have := ZBvv.out; omega))
        have EY := hide hY
        have hwo' := hwo.symm
        clear hwo bo hY Uvv LXvv EXvv
        go_upto_region 20 with fail
        clear hwo' so fo
        try clear vo
        try clear Xvv
        obtain ⟨Xvv, hXX⟩ : ∃ X, X = Y15 := ⟨_, rfl⟩
        subst hXX
        have Uvv := U1
        have LXvv := LY
        have EXvv := EY
        clear U1 LY EY
        clear j1 j2 j3 j4
        have j1 : wv14.cell? ⟨bss, 2, none⟩ = some (.int .u32 s.seq) := by have h := Uss.out.1 2 (.int .u32 s.seq) (by rw [EXss.out]; rfl); rw [Nat.zero_add] at h; exact h
        have j2 : wv14.cell? ⟨bss, 5, none⟩ = some (.int .i64 s.wnd) := by have h := Uss.out.1 5 (.int .i64 s.wnd) (by rw [EXss.out]; rfl); rw [Nat.zero_add] at h; exact h
        have j3 : wv14.cell? ⟨bss, 3, none⟩ = some (.int .u32 s.ack) := by have h := Uss.out.1 3 (.int .u32 s.ack) (by rw [EXss.out]; rfl); rw [Nat.zero_add] at h; exact h
        have j4 : wv14.cell? ⟨bcc, 1, none⟩ = some (.int .u32 c.iss) := by have h := Ucc.out.1 1 (.int .u32 c.iss) (by rw [EXcc.out]; rfl); rw [Nat.zero_add] at h; exact h
        obtain ⟨vo, so⟩ : ∃ v, wv14.cell? ⟨bvv, 7, none⟩ = some v := by have h := Uvv.out.1 7 _ (List.getElem?_eq_getElem (by rw [LXvv.out]; decide)); rw [Nat.zero_add] at h; exact ⟨_, h⟩
        have fo := Uvv.out.2.1 7
        obtain ⟨wv16, hwo⟩ : ∃ w1, w1 = wv14.setCell ⟨bvv, 7, none⟩ (.int .u32 c.iss) := ⟨_, rfl⟩
        have bo : But (Only bvv) wv14 wv16 := by rw [hwo]; exact (But.refl (Only bvv) wv14).setOf (b := bvv) rfl 7 _
        obtain ⟨Y17, hY⟩ : ∃ X, X = (⟨{ c with irs := s.seq, rcv := ((s.seq + 1) % 4294967296), adv := ((s.seq + 1) % 4294967296), wnd := s.wnd, wl1 := s.seq, wl2 := c.iss }, 0, 0, false, false, 0, 0, false⟩ : Vd).cells := ⟨_, rfl⟩
        have LY : Hid (Y17.length = 18) := by rw [hY]; exact rfl
        have U1 : Hid (Box wv16 bvv Y17) := by rw [hwo, hY]; have h := Uvv.out.one (k := 7) (by rw [LXvv.out]; decide) (.int .u32 c.iss); rw [EXvv.out] at h; exact h
        replace Ucc := hide (Ucc.out.but bo (fun e => by have e : bcc = bvv := e; have := D_cc_vv.out; omega))
        replace Uss := hide (Uss.out.but bo (fun e => by have e : bss = bvv := e; have := D_ss_vv.out; omega))
        replace Urr := hide (Urr.out.but bo (fun e => by have e : brr = bvv := e; have := D_rr_vv.out; omega))
        replace BB : Hid (Below w.heap.size w wv16) := BB.out.trans (bo.below BB.out.size (fun g hg e => by have e : g = bvv := e; have := ZBvv.out; omega))
        have EY := hide hY
        have hwo' := hwo.symm
        clear hwo bo hY Uvv LXvv EXvv
        go_upto_region 21 with fail
        clear hwo' so fo
        try clear vo
        try clear Xvv
        obtain ⟨Xvv, hXX⟩ : ∃ X, X = Y17 := ⟨_, rfl⟩
        subst hXX
        have Uvv := U1
        have LXvv := LY
        have EXvv := EY
        clear U1 LY EY
        clear j1 j2 j3 j4
        have j1 : wv16.cell? ⟨bss, 2, none⟩ = some (.int .u32 s.seq) := by have h := Uss.out.1 2 (.int .u32 s.seq) (by rw [EXss.out]; rfl); rw [Nat.zero_add] at h; exact h
        have j2 : wv16.cell? ⟨bss, 5, none⟩ = some (.int .i64 s.wnd) := by have h := Uss.out.1 5 (.int .i64 s.wnd) (by rw [EXss.out]; rfl); rw [Nat.zero_add] at h; exact h
        have j3 : wv16.cell? ⟨bss, 3, none⟩ = some (.int .u32 s.ack) := by have h := Uss.out.1 3 (.int .u32 s.ack) (by rw [EXss.out]; rfl); rw [Nat.zero_add] at h; exact h
        have j4 : wv16.cell? ⟨bcc, 1, none⟩ = some (.int .u32 c.iss) := by have h := Ucc.out.1 1 (.int .u32 c.iss) (by rw [EXcc.out]; rfl); rw [Nat.zero_add] at h; exact h
        obtain ⟨vo, so⟩ : ∃ v, wv16.cell? ⟨bvv, 0, none⟩ = some v := by have h := Uvv.out.1 0 _ (List.getElem?_eq_getElem (by rw [LXvv.out]; decide)); rw [Nat.zero_add] at h; exact ⟨_, h⟩
        have fo := Uvv.out.2.1 0
        obtain ⟨wv18, hwo⟩ : ∃ w1, w1 = wv16.setCell ⟨bvv, 0, none⟩ (.int .i64 2) := ⟨_, rfl⟩
        have bo : But (Only bvv) wv16 wv18 := by rw [hwo]; exact (But.refl (Only bvv) wv16).setOf (b := bvv) rfl 0 _
        obtain ⟨Y19, hY⟩ : ∃ X, X = (⟨{ c with irs := s.seq, rcv := ((s.seq + 1) % 4294967296), adv := ((s.seq + 1) % 4294967296), wnd := s.wnd, wl1 := s.seq, wl2 := c.iss, st := 2 }, 0, 0, false, false, 0, 0, false⟩ : Vd).cells := ⟨_, rfl⟩
        have LY : Hid (Y19.length = 18) := by rw [hY]; exact rfl
        have U1 : Hid (Box wv18 bvv Y19) := by rw [hwo, hY]; have h := Uvv.out.one (k := 0) (by rw [LXvv.out]; decide) (.int .i64 2); rw [EXvv.out] at h; exact h
        replace Ucc := hide (Ucc.out.but bo (fun e => by have e : bcc = bvv := e; have := D_cc_vv.out; omega))
        replace Uss := hide (Uss.out.but bo (fun e => by have e : bss = bvv := e; have := D_ss_vv.out; omega))
        replace Urr := hide (Urr.out.but bo (fun e => by have e : brr = bvv := e; have := D_rr_vv.out; omega))
        replace BB : Hid (Below w.heap.size w wv18) := BB.out.trans (bo.below BB.out.size (fun g hg e => by have e : g = bvv := e; have := ZBvv.out; omega))
        have EY := hide hY
        have hwo' := hwo.symm
        clear hwo bo hY Uvv LXvv EXvv
        go_upto_region 22 with fail
        clear hwo' so fo
        try clear vo
        try clear Xvv
        obtain ⟨Xvv, hXX⟩ : ∃ X, X = Y19 := ⟨_, rfl⟩
        subst hXX
        have Uvv := U1
        have LXvv := LY
        have EXvv := EY
        clear U1 LY EY
        clear j1 j2 j3 j4
        have j1 : wv18.cell? ⟨bss, 2, none⟩ = some (.int .u32 s.seq) := by have h := Uss.out.1 2 (.int .u32 s.seq) (by rw [EXss.out]; rfl); rw [Nat.zero_add] at h; exact h
        have j2 : wv18.cell? ⟨bss, 5, none⟩ = some (.int .i64 s.wnd) := by have h := Uss.out.1 5 (.int .i64 s.wnd) (by rw [EXss.out]; rfl); rw [Nat.zero_add] at h; exact h
        have j3 : wv18.cell? ⟨bss, 3, none⟩ = some (.int .u32 s.ack) := by have h := Uss.out.1 3 (.int .u32 s.ack) (by rw [EXss.out]; rfl); rw [Nat.zero_add] at h; exact h
        have j4 : wv18.cell? ⟨bcc, 1, none⟩ = some (.int .u32 c.iss) := by have h := Ucc.out.1 1 (.int .u32 c.iss) (by rw [EXcc.out]; rfl); rw [Nat.zero_add] at h; exact h
        obtain ⟨vo, so⟩ : ∃ v, wv18.cell? ⟨bvv, 11, none⟩ = some v := by have h := Uvv.out.1 11 _ (List.getElem?_eq_getElem (by rw [LXvv.out]; decide)); rw [Nat.zero_add] at h; exact ⟨_, h⟩
        have fo := Uvv.out.2.1 11
        obtain ⟨wv20, hwo⟩ : ∃ w1, w1 = wv18.setCell ⟨bvv, 11, none⟩ (.int .i64 3) := ⟨_, rfl⟩
        have bo : But (Only bvv) wv18 wv20 := by rw [hwo]; exact (But.refl (Only bvv) wv18).setOf (b := bvv) rfl 11 _
        obtain ⟨Y21, hY⟩ : ∃ X, X = (⟨{ c with irs := s.seq, rcv := ((s.seq + 1) % 4294967296), adv := ((s.seq + 1) % 4294967296), wnd := s.wnd, wl1 := s.seq, wl2 := c.iss, st := 2 }, 3, 0, false, false, 0, 0, false⟩ : Vd).cells := ⟨_, rfl⟩
        have LY : Hid (Y21.length = 18) := by rw [hY]; exact rfl
        have U1 : Hid (Box wv20 bvv Y21) := by rw [hwo, hY]; have h := Uvv.out.one (k := 11) (by rw [LXvv.out]; decide) (.int .i64 3); rw [EXvv.out] at h; exact h
        replace Ucc := hide (Ucc.out.but bo (fun e => by have e : bcc = bvv := e; have := D_cc_vv.out; omega))
        replace Uss := hide (Uss.out.but bo (fun e => by have e : bss = bvv := e; have := D_ss_vv.out; omega))
        replace Urr := hide (Urr.out.but bo (fun e => by have e : brr = bvv := e; have := D_rr_vv.out; omega))
        replace BB : Hid (Below w.heap.size w wv20) := BB.out.trans (bo.below BB.out.size (fun g hg e => by have e : g = bvv := e; have := ZBvv.out; omega))
        have EY := hide hY
        have hwo' := hwo.symm
        clear hwo bo hY Uvv LXvv EXvv
        go_upto_region 29 with fail
        clear hwo' so fo
        try clear vo
        try clear Xvv
        obtain ⟨Xvv, hXX⟩ : ∃ X, X = Y21 := ⟨_, rfl⟩
        subst hXX
        have Uvv := U1
        have LXvv := LY
        have EXvv := EY
        clear U1 LY EY
        clear j1 j2 j3 j4
        have UVo := hide Uvv.out.1
        have RE : R = (⟨{ c with irs := s.seq, rcv := ((s.seq + 1) % 4294967296), adv := ((s.seq + 1) % 4294967296), wnd := s.wnd, wl1 := s.seq, wl2 := c.iss, st := 2 }, 3, 0, false, false, 0, 0, false⟩ : Vd) := by rw [HJ2.out]; rfl
        have HRE := hide RE
        clear RE
        obtain ⟨Y23, hY⟩ : ∃ X, X = ((⟨{ c with irs := s.seq, rcv := ((s.seq + 1) % 4294967296), adv := ((s.seq + 1) % 4294967296), wnd := s.wnd, wl1 := s.seq, wl2 := c.iss, st := 2 }, 3, 0, false, false, 0, 0, false⟩ : Vd) : Vd).cells := ⟨_, rfl⟩
        have LY : Hid (Y23.length = 18) := by rw [hY]; exact rfl
        have OY : Hid (∀ u ∈ Y23, u.oneCell' = true) := by rw [hY]; exact vd_one _
        obtain ⟨wv22, hwo⟩ : ∃ w1, w1 = wv20.setCells brr 0 Y23 := ⟨_, rfl⟩
        have bo : But (Only brr) wv20 wv22 := by rw [hwo]; exact But.cells brr Y23 0 wv20
        have CO := hide Urr.out.1
        have FO := hide Urr.out.2.1
        have LO := LXrr
        have U1 : Hid (Box wv22 brr Y23) := by rw [hwo]; exact Urr.out.all (by rw [LY.out, LXrr.out])
        replace Ucc := hide (Ucc.out.but bo (fun e => by have e : bcc = brr := e; have := D_cc_rr.out; omega))
        replace Uss := hide (Uss.out.but bo (fun e => by have e : bss = brr := e; have := D_ss_rr.out; omega))
        replace Uvv := hide (Uvv.out.but bo (fun e => by have e : bvv = brr := e; have := D_rr_vv.out; omega))
        replace BB : Hid (Below w.heap.size w wv22) := BB.out.trans (bo.below BB.out.size (fun g hg e => by have e : g = brr := e; have := ZBrr.out; omega))
        have EY := hide hY
        have hwo' := hwo.symm
        clear hwo bo hY Urr LXrr EXrr
        have UV0 : Hid (CellsAt wv20 bvv 0 Y23) := by rw [show Y23 = Xvv from by rw [EY.out, EXvv.out]]; exact UVo.out
        go_wp2_with (first | refine wpList_loadA rfl 32 18 aggVd sizVd _ rfl bvv 0 rfl Y23 LY.out UV0.out ?_ | (refine wpList_storeA rfl 32 18 sizVd _ _ rfl brr 0 rfl Y23 Xrr rfl LY.out LO.out CO.out FO.out OY.out ?_; intro hcs; clear hcs; rw [hwo']))
        refine bodyPost_ret (v := .agg Y23.toArray) (results_A rfl _ _ brr _ rfl (run_loadVarA 32 18 aggVd sizVd brr 0 _ LY.out U1.out.1)) rfl ?_
        exact ⟨by rw [EY.out, HRE.out], BB.out⟩
end
end Go.Proofs.Ytgdcdgofahhfdaa
