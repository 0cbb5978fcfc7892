
/-
  The document's answer for package core: Judge.
-/
import Derived.Test.YtgdcdgofahhfdaaO24
namespace Go.Proofs.Ytgdcdgofahhfdaa
open Go.RowKit Go.Shelf

section
variable {c : Ct} {s : Sg} {gv : Value} {da : Option Addr} {dc : Nat}
theorem judge_ack (h1 : c.st ≠ 1) (ha : accB c s = true) (hr : hasB s.flg 4 = false) (hy : hasB s.flg 2 = false) (hk : hasB s.flg 16 = true) :
    judge c s = if (ackR c s).1 = true ∧ ((ackR c s).2.nx.st = 3 ∨ (ackR c s).2.nx.st = 4 ∨ (ackR c s).2.nx.st = 5) then { (ackR c s).2 with sk := skp c s, tk := tkn c s, fin := finB c s } else (ackR c s).2 := by
  unfold judge
  rw [judgeR_late h1 ha hr hy hk]
  unfold ackR
  by_cases h2 : c.st = 2
  · rw [if_pos h2]
    by_cases hn : s.ack = c.nxt
    · rw [if_pos hn, late_rcvd1 h2 hn, if_pos ⟨rfl, .inl rfl⟩]
      rfl
    · rw [if_neg hn, late_rcvd0 h2 hn, if_neg (fun k => by cases k.1)]
      rfl
  · rw [if_neg h2]
    by_cases hc : 0 < dif s.ack c.nxt ∨ 65535 < dif c.una s.ack
    · rw [if_pos hc, late_bad h2 hc, if_neg (fun k => by cases k.1)]
      rfl
    · rw [if_neg hc]
      by_cases h8 : c.st = 8 ∧ c.fs = true ∧ (unaC c s).una = c.nxt
      · rw [if_pos h8, late_end h2 hc h8.1 h8.2.1 h8.2.2, if_neg (fun k => by cases k.1)]
        rfl
      · rw [if_neg h8, late_on h2 hc h8]
        by_cases ht : thrS (hearC c s) = 3 ∨ thrS (hearC c s) = 4 ∨ thrS (hearC c s) = 5
        · rw [if_pos ht, if_pos ⟨rfl, ht⟩]
          rfl
        · rw [if_neg ht, if_neg (fun k => ht k.2)]
          rfl
theorem ackR_zero : (ackR c s).2.sk = 0 ∧ (ackR c s).2.tk = 0 ∧ (ackR c s).2.fin = false := by
  unfold ackR
  split
  · split <;> exact ⟨rfl, rfl, rfl⟩
  · split
    · exact ⟨rfl, rfl, rfl⟩
    · split <;> exact ⟨rfl, rfl, rfl⟩
theorem win_pos (ha : accB c s = true) (h0 : 0 < (s.dat.length : Int)) : 0 < win c := by
  have hs : 0 < s.size := by unfold Sg.size; split <;> split <;> omega
  unfold accB at ha
  rw [if_pos hs] at ha
  have k : ∀ n, wanted c n = true → 0 < win c := fun n h => by
    unfold wanted wit at h
    have := of_decide_eq_true h
    omega
  simp only [Bool.or_eq_true] at ha
  rcases ha with h | h
  · exact k _ h
  · exact k _ h
/-- the next byte is in the window, as long as not all that are have been taken -/
theorem tk_step {seq rcv adv n j : Int} (h1 : u32In seq) (h2 : u32In rcv) (h3 : u32In adv) (hn : 0 ≤ n) (hw : 0 < n → 0 < dif adv rcv) (j0 : 0 ≤ j) (hj : j ≤ lim (dif adv ((seq + lim (dif rcv seq) n) % 4294967296)) (n - lim (dif rcv seq) n)) (hl : lim (dif rcv seq) n + j < n) :
    wit ((seq + (lim (dif rcv seq) n + j)) % 4294967296) rcv (dif adv rcv) = decide (j < lim (dif adv ((seq + lim (dif rcv seq) n) % 4294967296)) (n - lim (dif rcv seq) n)) := by
  obtain ⟨a0, a1⟩ := h1
  obtain ⟨b0, b1⟩ := h2
  obtain ⟨c0, c1⟩ := h3
  obtain ⟨D, hD⟩ : ∃ D, D = dif rcv seq := ⟨_, rfl⟩
  rw [← hD] at hj hl ⊢
  obtain ⟨k, hk⟩ : ∃ k, k = lim D n := ⟨_, rfl⟩
  rw [← hk] at hj hl ⊢
  obtain ⟨E, hE⟩ : ∃ E, E = dif adv ((seq + k) % 4294967296) := ⟨_, rfl⟩
  obtain ⟨W, hW⟩ : ∃ W, W = dif adv rcv := ⟨_, rfl⟩
  rw [← hE] at hj ⊢
  rw [← hW] at hw ⊢
  unfold lim at hk hj ⊢
  have kn : 0 ≤ k ∧ k < n := by omega
  have w0 := hw (by omega)
  have w1 : W < 2147483648 := by rw [hW]; exact (dif_in adv rcv).2
  have key : ∃ e, e = (seq + k - rcv) % 4294967296 ∧ (e < W → E = W - e) ∧ (¬ e < W → E ≤ 0) ∧ e ≤ 2147483648 := by
    refine ⟨_, rfl, ?_, ?_, ?_⟩
    · intro h
      unfold dif at hD hE hW
      split at hD <;> split at hE <;> split at hW <;> omega
    · intro h
      unfold dif at hD hE hW
      split at hD <;> split at hE <;> split at hW <;> omega
    · unfold dif at hD
      split at hD <;> omega
  obtain ⟨e, he, k1, k2, k3⟩ := key
  have ev : ((seq + (k + j)) % 4294967296 - rcv) % 4294967296 = (e + j) % 4294967296 := by omega
  unfold wit
  rw [ev]
  by_cases h : e < W
  · have := k1 h
    have e2 : (e + j) % 4294967296 = e + j := by omega
    rw [e2]
    by_cases q : e + j < W
    · rw [decide_eq_true q, decide_eq_true (by omega)]
    · rw [decide_eq_false q, decide_eq_false (by omega)]
  · have := k2 h
    have e0 : j = 0 := by omega
    subst e0
    have e2 : (e + 0) % 4294967296 = e := by omega
    rw [e2, decide_eq_false h, decide_eq_false (by omega)]
set_option maxRecDepth 100000 in
set_option maxHeartbeats 64000000 in
theorem rJudge_any (hc : c.Ok) (hs : s.Ok) (hg : gv.oneCell' = true) (hl : s.dat.length ≤ 140737488351232) (w : World) : Calls Try.prog 11 #[.agg c.cells.toArray, .agg (s.cells gv (.slice da s.dat.length dc)).toArray] w fun e w' => e = .returned (.agg (judge c s).cells.toArray) ∧ Below w.heap.size w w' := by
  have HG1 := hide hg
  obtain ⟨w1, w2, bcc, bss, hs1, hw1, hs2, hw2, u1, u2, n12, z1, b2⟩ := boxCS w c s gv (.slice da s.dat.length dc)
  rw [show (Value.agg c.cells.toArray) = .agg #[.int .i64 c.st, .int .u32 c.iss, .int .u32 c.una, .int .u32 c.nxt, .bool c.fs, .int .i64 c.wnd, .int .u32 c.wl1, .int .u32 c.wl2, .int .u32 c.irs, .int .u32 c.rcv, .int .u32 c.adv] from rfl]
  rw [show (Value.agg (s.cells gv (.slice da s.dat.length dc)).toArray) = .agg #[.int .i64 s.src, .int .i64 s.dst, .int .u32 s.seq, .int .u32 s.ack, .int .i64 s.flg, .int .i64 s.wnd, .int .i64 s.mss, .bool s.sak, gv, .slice da s.dat.length dc] from rfl]
  have BB := hide b2
  have HC := hide hc
  have HS := hide hs
  have ZBcc : Hid (w.heap.size ≤ bcc) := z1
  have ZBss : Hid (w.heap.size ≤ bss) := by unfold Hid; omega
  have D_cc_ss : Hid (bcc < bss) := n12
  obtain ⟨Xcc, hXcc⟩ : ∃ X, X = c.cells := ⟨_, rfl⟩
  have LXcc : Hid (Xcc.length = 11) := by rw [hXcc]; exact rfl
  have Ucc : Hid (Box w2 bcc Xcc) := by rw [hXcc]; exact u1
  have EXcc := hide hXcc
  clear hXcc
  obtain ⟨Xss, hXss⟩ : ∃ X, X = s.cells gv (.slice da s.dat.length dc) := ⟨_, rfl⟩
  have LXss : Hid (Xss.length = 10) := by rw [hXss]; exact rfl
  have Uss : Hid (Box w2 bss Xss) := by rw [hXss]; exact u2
  have EXss := hide hXss
  clear hXss
  have hs1' := hs1.symm
  have hw1' := hw1.symm
  have hs2' := hs2.symm
  have hw2' := hw2.symm
  clear hs1 hw1 hs2 hw2 u1 u2 n12 z1 b2 hc hs hg
  obtain ⟨w3, brr, hs3, hw3, u3, b3⟩ := boxZV w2
  have D_cc_rr : Hid (bcc < brr) := by have h := Ucc.out.2.2; unfold Hid; omega
  have D_ss_rr : Hid (bss < brr) := by have h := Uss.out.2.2; unfold Hid; omega
  have ZBrr : Hid (w.heap.size ≤ brr) := by have h := BB.out.size; unfold Hid; omega
  replace Ucc := hide (Ucc.out.later b3)
  replace Uss := hide (Uss.out.later b3)
  replace BB := hide (later BB.out b3)
  obtain ⟨Xrr, hXrr⟩ : ∃ X, X = zVd.cells := ⟨_, rfl⟩
  have LXrr : Hid (Xrr.length = 18) := by rw [hXrr]; exact rfl
  have Urr : Hid (Box w3 brr Xrr) := by rw [hXrr]; exact u3
  have EXrr := hide hXrr
  clear hXrr
  have hs3' := hs3.symm
  have hw3' := hw3.symm
  simp only [zVd, zCt, Vd.cells] at hw3'
  clear hs3 hw3 u3 b3
  obtain ⟨R, hR⟩ : ∃ R, R = judge c s := ⟨_, rfl⟩
  rw [← hR]
  have HR := hide hR
  clear hR
  obtain ⟨h4, e4⟩ : ∃ h, h = hasB s.flg 4 := ⟨_, rfl⟩
  have H4 : Hid (∀ W, Calls Try.prog 27 #[.agg Xss.toArray, .int .i64 4] W fun e w' => e = .returned (.bool h4) ∧ Below W.heap.size W w') := fun W => by rw [e4, EXss.out]; exact rHas15_any s gv (.slice da s.dat.length dc) 4 (by decide) W
  obtain ⟨h2, e2⟩ : ∃ h, h = hasB s.flg 2 := ⟨_, rfl⟩
  have H2 : Hid (∀ W, Calls Try.prog 27 #[.agg Xss.toArray, .int .i64 2] W fun e w' => e = .returned (.bool h2) ∧ Below W.heap.size W w') := fun W => by rw [e2, EXss.out]; exact rHas15_any s gv (.slice da s.dat.length dc) 2 (by decide) W
  obtain ⟨h16, e16⟩ : ∃ h, h = hasB s.flg 16 := ⟨_, rfl⟩
  have H16 : Hid (∀ W, Calls Try.prog 27 #[.agg Xss.toArray, .int .i64 16] W fun e w' => e = .returned (.bool h16) ∧ Below W.heap.size W w') := fun W => by rw [e16, EXss.out]; exact rHas15_any s gv (.slice da s.dat.length dc) 16 (by decide) W
  obtain ⟨h1, e1⟩ : ∃ h, h = hasB s.flg 1 := ⟨_, rfl⟩
  have H1 : Hid (∀ W, Calls Try.prog 27 #[.agg Xss.toArray, .int .i64 1] W fun e w' => e = .returned (.bool h1) ∧ Below W.heap.size W w') := fun W => by rw [e1, EXss.out]; exact rHas15_any s gv (.slice da s.dat.length dc) 1 (by decide) W
  have E4 := hide e4
  clear e4
  have E2 := hide e2
  clear e2
  have E16 := hide e16
  clear e16
  have E1 := hide e1
  clear e1
  go_enter Try.func11, Try.ntmps11
  go_upto_region 1 with fail
  clear hs1' hw1' hs2' hw2' hs3' hw3'
  have k1 : w3.cell? ⟨bcc, 0, none⟩ = some (.int .i64 c.st) := by have h := Ucc.out.1 0 (.int .i64 c.st) (by rw [EXcc.out]; rfl); rw [Nat.zero_add] at h; exact h
  by_cases h1 : c.st = 1
  · have q1 : (c.st == 1) = true := by simpa using h1
    have CN := rsent_any (gv := gv) (da := da) (dc := dc) HC.out HS.out HG1.out h1 w3
    rw [← HR.out, ← EXcc.out, ← EXss.out] at CN
    have HCN := hide CN
    clear CN h1
    go_upto_region 2 with fail
    clear k1 q1
    go_wp2_with (first | refine wpList_loadA rfl 24 11 aggCt sizCt _ rfl bcc 0 rfl Xcc LXcc.out Ucc.out.1 ?_ | refine wpList_loadA rfl 28 10 aggSg sizSg _ rfl bss 0 rfl Xss LXss.out Uss.out.1 ?_)
    refine HCN.out.mono ?_
    rintro _ wv1 ⟨rfl, bz⟩
    replace Ucc := hide (Ucc.out.later bz)
    replace Uss := hide (Uss.out.later bz)
    replace Urr := hide (Urr.out.later bz)
    replace BB := hide (later BB.out bz)
    clear bz
    clear HCN
    obtain ⟨Y3, hY⟩ : ∃ X, X = R.cells := ⟨_, rfl⟩
    have LY : Hid (Y3.length = 18) := by rw [hY]; exact rfl
    have OY : Hid (∀ u ∈ Y3, u.oneCell' = true) := by rw [hY]; exact vd_one _
    obtain ⟨wv2, hwo⟩ : ∃ w1, w1 = wv1.setCells brr 0 Y3 := ⟨_, rfl⟩
    have bo : But (Only brr) wv1 wv2 := by rw [hwo]; exact But.cells brr Y3 0 wv1
    have CO := hide Urr.out.1
    have FO := hide Urr.out.2.1
    have LO := LXrr
    have U1 : Hid (Box wv2 brr Y3) := by rw [hwo]; exact Urr.out.all (by rw [LY.out, LXrr.out])
    replace Ucc := hide (Ucc.out.but bo (fun e => by have e : bcc = brr := e; have := D_cc_rr.out; omega))
    replace Uss := hide (Uss.out.but bo (fun e => by have e : bss = brr := e; have := D_ss_rr.out; omega))
    replace BB : Hid (Below w.heap.size w wv2) := BB.out.trans (bo.below BB.out.size (fun g hg e => by have e : g = brr := e; have := ZBrr.out; omega))
    have EY := hide hY
    have hwo' := hwo.symm
    clear hwo bo hY Urr LXrr EXrr
    rw [← EY.out]
    go_wp2_with (refine wpList_storeA rfl 32 18 sizVd _ _ rfl brr 0 rfl Y3 Xrr rfl LY.out LO.out CO.out FO.out OY.out ?_; intro hcs; clear hcs; rw [hwo'])
    refine bodyPost_ret (v := .agg Y3.toArray) (results_A rfl _ _ brr _ rfl (run_loadVarA 32 18 aggVd sizVd brr 0 _ LY.out U1.out.1)) rfl ?_
    exact ⟨by rw [EY.out], BB.out⟩
  have q1 : (c.st == 1) = false := by simpa using h1
  have H1n := hide h1
  clear h1
  go_upto_region 3 with fail
  clear k1 q1
  have BV : Hid (∀ (o : Oper) (ev : Operand → Value) (W : World) (x0 : Operand), o.op = .build 32 #[(0, x0)] → ev x0 = .agg Xcc.toArray → (execOp ev o).run Try.prog W = .ok (.value (.agg (⟨c, 0, 0, false, false, 0, 0, false⟩ : Vd).cells.toArray)) W) := fun o ev W x0 ho h0 => by rw [EXcc.out] at h0; exact exec_bldV x0 c ho h0
  have UcO := hide Ucc.out.1
  obtain ⟨Xvv, hXvv⟩ : ∃ X, X = (⟨c, 0, 0, false, false, 0, 0, false⟩ : Vd).cells := ⟨_, rfl⟩
  have LXvv : Hid (Xvv.length = 18) := by rw [hXvv]; exact rfl
  have OXvv : Hid (∀ u ∈ Xvv, u.oneCell' = true) := by rw [hXvv]; exact vd_one _
  try rw [← hXvv]
  obtain ⟨uv2, wv1, huvv, hwvv, cuvv, fuvv, ccvv, bzvv, lzvv, ffvv⟩ := newVd w3 Xvv LXvv.out
  obtain ⟨bvv, hbvv⟩ : ∃ b, b = w3.heap.size := ⟨_, rfl⟩
  rw [← hbvv] at hwvv cuvv fuvv ccvv lzvv ffvv
  have EXvv := hide hXvv
  have D_cc_vv : Hid (bcc < bvv) := by have h := Ucc.out.2.2; unfold Hid; omega
  have D_ss_vv : Hid (bss < bvv) := by have h := Uss.out.2.2; unfold Hid; omega
  have D_rr_vv : Hid (brr < bvv) := by have h := Urr.out.2.2; unfold Hid; omega
  have ZBvv : Hid (w.heap.size ≤ bvv) := by have h := BB.out.size; unfold Hid; omega
  replace Ucc := hide (Ucc.out.later bzvv)
  replace Uss := hide (Uss.out.later bzvv)
  replace Urr := hide (Urr.out.later bzvv)
  replace BB := hide (later BB.out bzvv)
  have Uvv : Hid (Box wv1 bvv Xvv) := ⟨ccvv, ffvv, lzvv⟩
  have CUvv := hide cuvv
  have FUvv := hide fuvv
  have huvv' := huvv.symm
  simp only [zVdL, zVd, zCt, Vd.cells] at huvv'
  have hwvv' := hwvv.symm
  have hbvv' := hbvv.symm
  clear hXvv huvv hwvv cuvv fuvv ccvv bzvv lzvv hbvv ffvv
  rw [← EXvv.out] at BV
  go_upto_region 4 with (first | refine wpList_loadA rfl 24 11 aggCt sizCt _ rfl bcc 0 rfl Xcc LXcc.out UcO.out ?_ | refine wpList_val rfl (BV.out _ _ _ _ rfl rfl) ?_ | (refine wpList_storeA rfl 32 18 sizVd _ _ rfl bvv 0 rfl Xvv zVdL rfl LXvv.out rfl CUvv.out FUvv.out OXvv.out ?_; intro hcs; clear hcs; rw [hwvv']))
  clear huvv' hwvv' hbvv' CUvv FUvv OXvv
  clear BV UcO
  obtain ⟨ok, hok⟩ : ∃ ok, ok = accB c s := ⟨_, rfl⟩
  have CN := racceptable_any (gv := gv) (da := da) (dc := dc) HC.out HS.out HG1.out hl wv1
  rw [← hok, ← EXcc.out, ← EXss.out] at CN
  have HCN := hide CN
  have OK := hide hok
  clear CN hok
  go_wp2_with (first | refine wpList_loadA rfl 24 11 aggCt sizCt _ rfl bcc 0 rfl Xcc LXcc.out Ucc.out.1 ?_ | refine wpList_loadA rfl 28 10 aggSg sizSg _ rfl bss 0 rfl Xss LXss.out Uss.out.1 ?_)
  refine HCN.out.mono ?_
  rintro _ wv3 ⟨rfl, bz⟩
  replace Ucc := hide (Ucc.out.later bz)
  replace Uss := hide (Uss.out.later bz)
  replace Urr := hide (Urr.out.later bz)
  replace Uvv := hide (Uvv.out.later bz)
  replace BB := hide (later BB.out bz)
  clear bz
  clear HCN
  go_wp2_with (refine wpList_loadA rfl 28 10 aggSg sizSg _ rfl bss 0 rfl Xss LXss.out Uss.out.1 ?_)
  refine (H4.out _).mono ?_
  rintro _ wv4 ⟨rfl, bz⟩
  replace Ucc := hide (Ucc.out.later bz)
  replace Uss := hide (Uss.out.later bz)
  replace Urr := hide (Urr.out.later bz)
  replace Uvv := hide (Uvv.out.later bz)
  replace BB := hide (later BB.out bz)
  clear bz
  clear H4
  cases ok with
  | false =>
    cases h4 with
    | true =>
      go_upto_region 9 with fail
      have UVo := hide Uvv.out.1
      have RE : R = (⟨c, 0, 0, false, false, 0, 0, false⟩ : Vd) := by rw [HR.out, judge_acc0 H1n.out OK.out.symm, ← E4.out]; rfl
      have HRE := hide RE
      clear RE
      obtain ⟨Y6, hY⟩ : ∃ X, X = ((⟨c, 0, 0, false, false, 0, 0, false⟩ : Vd) : Vd).cells := ⟨_, rfl⟩
      have LY : Hid (Y6.length = 18) := by rw [hY]; exact rfl
      have OY : Hid (∀ u ∈ Y6, u.oneCell' = true) := by rw [hY]; exact vd_one _
      obtain ⟨wv5, hwo⟩ : ∃ w1, w1 = wv4.setCells brr 0 Y6 := ⟨_, rfl⟩
      have bo : But (Only brr) wv4 wv5 := by rw [hwo]; exact But.cells brr Y6 0 wv4
      have CO := hide Urr.out.1
      have FO := hide Urr.out.2.1
      have LO := LXrr
      have U1 : Hid (Box wv5 brr Y6) := by rw [hwo]; exact Urr.out.all (by rw [LY.out, LXrr.out])
      replace Ucc := hide (Ucc.out.but bo (fun e => by have e : bcc = brr := e; have := D_cc_rr.out; omega))
      replace Uss := hide (Uss.out.but bo (fun e => by have e : bss = brr := e; have := D_ss_rr.out; omega))
      replace Uvv := hide (Uvv.out.but bo (fun e => by have e : bvv = brr := e; have := D_rr_vv.out; omega))
      replace BB : Hid (Below w.heap.size w wv5) := BB.out.trans (bo.below BB.out.size (fun g hg e => by have e : g = brr := e; have := ZBrr.out; omega))
      have EY := hide hY
      have hwo' := hwo.symm
      clear hwo bo hY Urr LXrr EXrr
      have UV0 : Hid (CellsAt wv4 bvv 0 Y6) := by rw [show Y6 = Xvv from by rw [EY.out, EXvv.out]]; exact UVo.out
      go_wp2_with (first | refine wpList_loadA rfl 32 18 aggVd sizVd _ rfl bvv 0 rfl Y6 LY.out UV0.out ?_ | (refine wpList_storeA rfl 32 18 sizVd _ _ rfl brr 0 rfl Y6 Xrr rfl LY.out LO.out CO.out FO.out OY.out ?_; intro hcs; clear hcs; rw [hwo']))
      refine bodyPost_ret (v := .agg Y6.toArray) (results_A rfl _ _ brr _ rfl (run_loadVarA 32 18 aggVd sizVd brr 0 _ LY.out U1.out.1)) rfl ?_
      exact ⟨by rw [EY.out, HRE.out], BB.out⟩
    | false =>
      go_upto_region 8 with fail
      obtain ⟨vo, so⟩ : ∃ v, wv4.cell? ⟨bvv, 11, none⟩ = some v := by have h := Uvv.out.1 11 _ (List.getElem?_eq_getElem (by rw [LXvv.out]; decide)); rw [Nat.zero_add] at h; exact ⟨_, h⟩
      have fo := Uvv.out.2.1 11
      obtain ⟨wv5, hwo⟩ : ∃ w1, w1 = wv4.setCell ⟨bvv, 11, none⟩ (.int .i64 1) := ⟨_, rfl⟩
      have bo : But (Only bvv) wv4 wv5 := by rw [hwo]; exact (But.refl (Only bvv) wv4).setOf (b := bvv) rfl 11 _
      obtain ⟨Y6, hY⟩ : ∃ X, X = (⟨c, 1, 0, false, false, 0, 0, false⟩ : Vd).cells := ⟨_, rfl⟩
      have LY : Hid (Y6.length = 18) := by rw [hY]; exact rfl
      have U1 : Hid (Box wv5 bvv Y6) := by rw [hwo, hY]; have h := Uvv.out.one (k := 11) (by rw [LXvv.out]; decide) (.int .i64 1); rw [EXvv.out] at h; exact h
      replace Ucc := hide (Ucc.out.but bo (fun e => by have e : bcc = bvv := e; have := D_cc_vv.out; omega))
      replace Uss := hide (Uss.out.but bo (fun e => by have e : bss = bvv := e; have := D_ss_vv.out; omega))
      replace Urr := hide (Urr.out.but bo (fun e => by have e : brr = bvv := e; have := D_rr_vv.out; omega))
      replace BB : Hid (Below w.heap.size w wv5) := BB.out.trans (bo.below BB.out.size (fun g hg e => by have e : g = bvv := e; have := ZBvv.out; omega))
      have EY := hide hY
      have hwo' := hwo.symm
      clear hwo bo hY Uvv LXvv EXvv
      go_upto_region 9 with fail
      clear hwo' so fo
      try clear vo
      try clear Xvv
      obtain ⟨Xvv, hXX⟩ : ∃ X, X = Y6 := ⟨_, rfl⟩
      subst hXX
      have Uvv := U1
      have LXvv := LY
      have EXvv := EY
      clear U1 LY EY
      have UVo := hide Uvv.out.1
      have RE : R = (⟨c, 1, 0, false, false, 0, 0, false⟩ : Vd) := by rw [HR.out, judge_acc0 H1n.out OK.out.symm, ← E4.out]; rfl
      have HRE := hide RE
      clear RE
      obtain ⟨Y8, hY⟩ : ∃ X, X = ((⟨c, 1, 0, false, false, 0, 0, false⟩ : Vd) : Vd).cells := ⟨_, rfl⟩
      have LY : Hid (Y8.length = 18) := by rw [hY]; exact rfl
      have OY : Hid (∀ u ∈ Y8, u.oneCell' = true) := by rw [hY]; exact vd_one _
      obtain ⟨wv7, hwo⟩ : ∃ w1, w1 = wv5.setCells brr 0 Y8 := ⟨_, rfl⟩
      have bo : But (Only brr) wv5 wv7 := by rw [hwo]; exact But.cells brr Y8 0 wv5
      have CO := hide Urr.out.1
      have FO := hide Urr.out.2.1
      have LO := LXrr
      have U1 : Hid (Box wv7 brr Y8) := by rw [hwo]; exact Urr.out.all (by rw [LY.out, LXrr.out])
      replace Ucc := hide (Ucc.out.but bo (fun e => by have e : bcc = brr := e; have := D_cc_rr.out; omega))
      replace Uss := hide (Uss.out.but bo (fun e => by have e : bss = brr := e; have := D_ss_rr.out; omega))
      replace Uvv := hide (Uvv.out.but bo (fun e => by have e : bvv = brr := e; have := D_rr_vv.out; omega))
      replace BB : Hid (Below w.heap.size w wv7) := BB.out.trans (bo.below BB.out.size (fun g hg e => by have e : g = brr := e; have := ZBrr.out; omega))
      have EY := hide hY
      have hwo' := hwo.symm
      clear hwo bo hY Urr LXrr EXrr
      have UV0 : Hid (CellsAt wv5 bvv 0 Y8) := by rw [show Y8 = Xvv from by rw [EY.out, EXvv.out]]; exact UVo.out
      go_wp2_with (first | refine wpList_loadA rfl 32 18 aggVd sizVd _ rfl bvv 0 rfl Y8 LY.out UV0.out ?_ | (refine wpList_storeA rfl 32 18 sizVd _ _ rfl brr 0 rfl Y8 Xrr rfl LY.out LO.out CO.out FO.out OY.out ?_; intro hcs; clear hcs; rw [hwo']))
      refine bodyPost_ret (v := .agg Y8.toArray) (results_A rfl _ _ brr _ rfl (run_loadVarA 32 18 aggVd sizVd brr 0 _ LY.out U1.out.1)) rfl ?_
      exact ⟨by rw [EY.out, HRE.out], BB.out⟩
  | true =>
    cases h4 with
    | true =>
      go_upto_region 11 with fail
      obtain ⟨vo, so⟩ : ∃ v, wv4.cell? ⟨bvv, 11, none⟩ = some v := by have h := Uvv.out.1 11 _ (List.getElem?_eq_getElem (by rw [LXvv.out]; decide)); rw [Nat.zero_add] at h; exact ⟨_, h⟩
      have fo := Uvv.out.2.1 11
      obtain ⟨wv5, hwo⟩ : ∃ w1, w1 = wv4.setCell ⟨bvv, 11, none⟩ (.int .i64 1) := ⟨_, rfl⟩
      have bo : But (Only bvv) wv4 wv5 := by rw [hwo]; exact (But.refl (Only bvv) wv4).setOf (b := bvv) rfl 11 _
      obtain ⟨Y6, hY⟩ : ∃ X, X = (⟨c, 1, 0, false, false, 0, 0, false⟩ : Vd).cells := ⟨_, rfl⟩
      have LY : Hid (Y6.length = 18) := by rw [hY]; exact rfl
      have U1 : Hid (Box wv5 bvv Y6) := by rw [hwo, hY]; have h := Uvv.out.one (k := 11) (by rw [LXvv.out]; decide) (.int .i64 1); rw [EXvv.out] at h; exact h
      replace Ucc := hide (Ucc.out.but bo (fun e => by have e : bcc = bvv := e; have := D_cc_vv.out; omega))
      replace Uss := hide (Uss.out.but bo (fun e => by have e : bss = bvv := e; have := D_ss_vv.out; omega))
      replace Urr := hide (Urr.out.but bo (fun e => by have e : brr = bvv := e; have := D_rr_vv.out; omega))
      replace BB : Hid (Below w.heap.size w wv5) := BB.out.trans (bo.below BB.out.size (fun g hg e => by have e : g = bvv := e; have := ZBvv.out; omega))
      have EY := hide hY
      have hwo' := hwo.symm
      clear hwo bo hY Uvv LXvv EXvv
      go_upto_region 12 with fail
      clear hwo' so fo
      try clear vo
      try clear Xvv
      obtain ⟨Xvv, hXX⟩ : ∃ X, X = Y6 := ⟨_, rfl⟩
      subst hXX
      have Uvv := U1
      have LXvv := LY
      have EXvv := EY
      clear U1 LY EY
      have k1 : wv5.cell? ⟨bss, 2, none⟩ = some (.int .u32 s.seq) := by have h := Uss.out.1 2 (.int .u32 s.seq) (by rw [EXss.out]; rfl); rw [Nat.zero_add] at h; exact h
      have k2 : wv5.cell? ⟨bcc, 9, none⟩ = some (.int .u32 c.rcv) := by have h := Ucc.out.1 9 (.int .u32 c.rcv) (by rw [EXcc.out]; rfl); rw [Nat.zero_add] at h; exact h
      have k3 : wv5.cell? ⟨bcc, 0, none⟩ = some (.int .i64 c.st) := by have h := Ucc.out.1 0 (.int .i64 c.st) (by rw [EXcc.out]; rfl); rw [Nat.zero_add] at h; exact h
      by_cases hq : s.seq = c.rcv
      · have q1 : (s.seq == c.rcv) = true := by simpa using hq
        have HQ := hide hq
        clear hq
        go_upto_region 13 with fail
        clear q1 k1 k2 k3
        obtain ⟨vo, so⟩ : ∃ v, wv5.cell? ⟨bvv, 11, none⟩ = some v := by have h := Uvv.out.1 11 _ (List.getElem?_eq_getElem (by rw [LXvv.out]; decide)); rw [Nat.zero_add] at h; exact ⟨_, h⟩
        have fo := Uvv.out.2.1 11
        obtain ⟨wv7, hwo⟩ : ∃ w1, w1 = wv5.setCell ⟨bvv, 11, none⟩ (.int .i64 0) := ⟨_, rfl⟩
        have bo : But (Only bvv) wv5 wv7 := by rw [hwo]; exact (But.refl (Only bvv) wv5).setOf (b := bvv) rfl 11 _
        obtain ⟨Y8, hY⟩ : ∃ X, X = (⟨c, 0, 0, false, false, 0, 0, false⟩ : Vd).cells := ⟨_, rfl⟩
        have LY : Hid (Y8.length = 18) := by rw [hY]; exact rfl
        have U1 : Hid (Box wv7 bvv Y8) := by rw [hwo, hY]; have h := Uvv.out.one (k := 11) (by rw [LXvv.out]; decide) (.int .i64 0); rw [EXvv.out] at h; exact h
        replace Ucc := hide (Ucc.out.but bo (fun e => by have e : bcc = bvv := e; have := D_cc_vv.out; omega))
        replace Uss := hide (Uss.out.but bo (fun e => by have e : bss = bvv := e; have := D_ss_vv.out; omega))
        replace Urr := hide (Urr.out.but bo (fun e => by have e : brr = bvv := e; have := D_rr_vv.out; omega))
        replace BB : Hid (Below w.heap.size w wv7) := BB.out.trans (bo.below BB.out.size (fun g hg e => by have e : g = bvv := e; have := ZBvv.out; omega))
        have EY := hide hY
        have hwo' := hwo.symm
        clear hwo bo hY Uvv LXvv EXvv
        go_upto_region 14 with fail
        clear hwo' so fo
        try clear vo
        try clear Xvv
        obtain ⟨Xvv, hXX⟩ : ∃ X, X = Y8 := ⟨_, rfl⟩
        subst hXX
        have Uvv := U1
        have LXvv := LY
        have EXvv := EY
        clear U1 LY EY
        obtain ⟨vo, so⟩ : ∃ v, wv7.cell? ⟨bvv, 12, none⟩ = some v := by have h := Uvv.out.1 12 _ (List.getElem?_eq_getElem (by rw [LXvv.out]; decide)); rw [Nat.zero_add] at h; exact ⟨_, h⟩
        have fo := Uvv.out.2.1 12
        obtain ⟨wv9, hwo⟩ : ∃ w1, w1 = wv7.setCell ⟨bvv, 12, none⟩ (.int .i64 216) := ⟨_, rfl⟩
        have bo : But (Only bvv) wv7 wv9 := by rw [hwo]; exact (But.refl (Only bvv) wv7).setOf (b := bvv) rfl 12 _
        obtain ⟨Y10, hY⟩ : ∃ X, X = (⟨c, 0, 216, false, false, 0, 0, false⟩ : Vd).cells := ⟨_, rfl⟩
        have LY : Hid (Y10.length = 18) := by rw [hY]; exact rfl
        have U1 : Hid (Box wv9 bvv Y10) := by rw [hwo, hY]; have h := Uvv.out.one (k := 12) (by rw [LXvv.out]; decide) (.int .i64 216); rw [EXvv.out] at h; exact h
        replace Ucc := hide (Ucc.out.but bo (fun e => by have e : bcc = bvv := e; have := D_cc_vv.out; omega))
        replace Uss := hide (Uss.out.but bo (fun e => by have e : bss = bvv := e; have := D_ss_vv.out; omega))
        replace Urr := hide (Urr.out.but bo (fun e => by have e : brr = bvv := e; have := D_rr_vv.out; omega))
        replace BB : Hid (Below w.heap.size w wv9) := BB.out.trans (bo.below BB.out.size (fun g hg e => by have e : g = bvv := e; have := ZBvv.out; omega))
        have EY := hide hY
        have hwo' := hwo.symm
        clear hwo bo hY Uvv LXvv EXvv
        go_upto_region 15 with fail
        clear hwo' so fo
        try clear vo
        try clear Xvv
        obtain ⟨Xvv, hXX⟩ : ∃ X, X = Y10 := ⟨_, rfl⟩
        subst hXX
        have Uvv := U1
        have LXvv := LY
        have EXvv := EY
        clear U1 LY EY
        have k3 : wv9.cell? ⟨bcc, 0, none⟩ = some (.int .i64 c.st) := by have h := Ucc.out.1 0 (.int .i64 c.st) (by rw [EXcc.out]; rfl); rw [Nat.zero_add] at h; exact h
        by_cases h2 : c.st = 2
        · have q2 : (c.st == 2) = true := by simpa using h2
          have H2 := hide h2
          clear h2
          go_upto_region 16 with fail
          clear q2 k3
          obtain ⟨vo, so⟩ : ∃ v, wv9.cell? ⟨bvv, 12, none⟩ = some v := by have h := Uvv.out.1 12 _ (List.getElem?_eq_getElem (by rw [LXvv.out]; decide)); rw [Nat.zero_add] at h; exact ⟨_, h⟩
          have fo := Uvv.out.2.1 12
          obtain ⟨wv11, hwo⟩ : ∃ w1, w1 = wv9.setCell ⟨bvv, 12, none⟩ (.int .i64 215) := ⟨_, rfl⟩
          have bo : But (Only bvv) wv9 wv11 := by rw [hwo]; exact (But.refl (Only bvv) wv9).setOf (b := bvv) rfl 12 _
          obtain ⟨Y12, hY⟩ : ∃ X, X = (⟨c, 0, 215, false, false, 0, 0, false⟩ : Vd).cells := ⟨_, rfl⟩
          have LY : Hid (Y12.length = 18) := by rw [hY]; exact rfl
          have U1 : Hid (Box wv11 bvv Y12) := by rw [hwo, hY]; have h := Uvv.out.one (k := 12) (by rw [LXvv.out]; decide) (.int .i64 215); rw [EXvv.out] at h; exact h
          replace Ucc := hide (Ucc.out.but bo (fun e => by have e : bcc = bvv := e; have := D_cc_vv.out; omega))
          replace Uss := hide (Uss.out.but bo (fun e => by have e : bss = bvv := e; have := D_ss_vv.out; omega))
          replace Urr := hide (Urr.out.but bo (fun e => by have e : brr = bvv := e; have := D_rr_vv.out; omega))
          replace BB : Hid (Below w.heap.size w wv11) := BB.out.trans (bo.below BB.out.size (fun g hg e => by have e : g = bvv := e; have := ZBvv.out; omega))
          have EY := hide hY
          have hwo' := hwo.symm
          clear hwo bo hY Uvv LXvv EXvv
          go_upto_region 17 with fail
          clear hwo' so fo
          try clear vo
          try clear Xvv
          obtain ⟨Xvv, hXX⟩ : ∃ X, X = Y12 := ⟨_, rfl⟩
          subst hXX
          have Uvv := U1
          have LXvv := LY
          have EXvv := EY
          clear U1 LY EY
          have UVo := hide Uvv.out.1
          have RE : R = (⟨c, 0, 215, false, false, 0, 0, false⟩ : Vd) := by rw [HR.out, judge_rst H1n.out OK.out.symm E4.out.symm, if_pos HQ.out, if_pos H2.out]
          have HRE := hide RE
          clear RE
          obtain ⟨Y14, hY⟩ : ∃ X, X = ((⟨c, 0, 215, false, false, 0, 0, false⟩ : Vd) : Vd).cells := ⟨_, rfl⟩
          have LY : Hid (Y14.length = 18) := by rw [hY]; exact rfl
          have OY : Hid (∀ u ∈ Y14, u.oneCell' = true) := by rw [hY]; exact vd_one _
          obtain ⟨wv13, hwo⟩ : ∃ w1, w1 = wv11.setCells brr 0 Y14 := ⟨_, rfl⟩
          have bo : But (Only brr) wv11 wv13 := by rw [hwo]; exact But.cells brr Y14 0 wv11
          have CO := hide Urr.out.1
          have FO := hide Urr.out.2.1
          have LO := LXrr
          have U1 : Hid (Box wv13 brr Y14) := by rw [hwo]; exact Urr.out.all (by rw [LY.out, LXrr.out])
          replace Ucc := hide (Ucc.out.but bo (fun e => by have e : bcc = brr := e; have := D_cc_rr.out; omega))
          replace Uss := hide (Uss.out.but bo (fun e => by have e : bss = brr := e; have := D_ss_rr.out; omega))
          replace Uvv := hide (Uvv.out.but bo (fun e => by have e : bvv = brr := e; have := D_rr_vv.out; omega))
          replace BB : Hid (Below w.heap.size w wv13) := BB.out.trans (bo.below BB.out.size (fun g hg e => by have e : g = brr := e; have := ZBrr.out; omega))
          have EY := hide hY
          have hwo' := hwo.symm
          clear hwo bo hY Urr LXrr EXrr
          have UV0 : Hid (CellsAt wv11 bvv 0 Y14) := by rw [show Y14 = Xvv from by rw [EY.out, EXvv.out]]; exact UVo.out
          go_wp2_with (first | refine wpList_loadA rfl 32 18 aggVd sizVd _ rfl bvv 0 rfl Y14 LY.out UV0.out ?_ | (refine wpList_storeA rfl 32 18 sizVd _ _ rfl brr 0 rfl Y14 Xrr rfl LY.out LO.out CO.out FO.out OY.out ?_; intro hcs; clear hcs; rw [hwo']))
          refine bodyPost_ret (v := .agg Y14.toArray) (results_A rfl _ _ brr _ rfl (run_loadVarA 32 18 aggVd sizVd brr 0 _ LY.out U1.out.1)) rfl ?_
          exact ⟨by rw [EY.out, HRE.out], BB.out⟩
        have q2 : (c.st == 2) = false := by simpa using h2
        have H2 := hide h2
        clear h2
        go_upto_region 17 with fail
        clear q2 k3
        have UVo := hide Uvv.out.1
        have RE : R = (⟨c, 0, 216, false, false, 0, 0, false⟩ : Vd) := by rw [HR.out, judge_rst H1n.out OK.out.symm E4.out.symm, if_pos HQ.out, if_neg H2.out]
        have HRE := hide RE
        clear RE
        obtain ⟨Y12, hY⟩ : ∃ X, X = ((⟨c, 0, 216, false, false, 0, 0, false⟩ : Vd) : Vd).cells := ⟨_, rfl⟩
        have LY : Hid (Y12.length = 18) := by rw [hY]; exact rfl
        have OY : Hid (∀ u ∈ Y12, u.oneCell' = true) := by rw [hY]; exact vd_one _
        obtain ⟨wv11, hwo⟩ : ∃ w1, w1 = wv9.setCells brr 0 Y12 := ⟨_, rfl⟩
        have bo : But (Only brr) wv9 wv11 := by rw [hwo]; exact But.cells brr Y12 0 wv9
        have CO := hide Urr.out.1
        have FO := hide Urr.out.2.1
        have LO := LXrr
        have U1 : Hid (Box wv11 brr Y12) := by rw [hwo]; exact Urr.out.all (by rw [LY.out, LXrr.out])
        replace Ucc := hide (Ucc.out.but bo (fun e => by have e : bcc = brr := e; have := D_cc_rr.out; omega))
        replace Uss := hide (Uss.out.but bo (fun e => by have e : bss = brr := e; have := D_ss_rr.out; omega))
        replace Uvv := hide (Uvv.out.but bo (fun e => by have e : bvv = brr := e; have := D_rr_vv.out; omega))
        replace BB : Hid (Below w.heap.size w wv11) := BB.out.trans (bo.below BB.out.size (fun g hg e => by have e : g = brr := e; have := ZBrr.out; omega))
        have EY := hide hY
        have hwo' := hwo.symm
        clear hwo bo hY Urr LXrr EXrr
        have UV0 : Hid (CellsAt wv9 bvv 0 Y12) := by rw [show Y12 = Xvv from by rw [EY.out, EXvv.out]]; exact UVo.out
        go_wp2_with (first | refine wpList_loadA rfl 32 18 aggVd sizVd _ rfl bvv 0 rfl Y12 LY.out UV0.out ?_ | (refine wpList_storeA rfl 32 18 sizVd _ _ rfl brr 0 rfl Y12 Xrr rfl LY.out LO.out CO.out FO.out OY.out ?_; intro hcs; clear hcs; rw [hwo']))
        refine bodyPost_ret (v := .agg Y12.toArray) (results_A rfl _ _ brr _ rfl (run_loadVarA 32 18 aggVd sizVd brr 0 _ LY.out U1.out.1)) rfl ?_
        exact ⟨by rw [EY.out, HRE.out], BB.out⟩
      have q1 : (s.seq == c.rcv) = false := by simpa using hq
      have HQ := hide hq
      clear hq
      go_upto_region 17 with fail
      clear q1 k1 k2 k3
      have UVo := hide Uvv.out.1
      have RE : R = (⟨c, 1, 0, false, false, 0, 0, false⟩ : Vd) := by rw [HR.out, judge_rst H1n.out OK.out.symm E4.out.symm, if_neg HQ.out]
      have HRE := hide RE
      clear RE
      obtain ⟨Y8, hY⟩ : ∃ X, X = ((⟨c, 1, 0, false, false, 0, 0, false⟩ : Vd) : Vd).cells := ⟨_, rfl⟩
      have LY : Hid (Y8.length = 18) := by rw [hY]; exact rfl
      have OY : Hid (∀ u ∈ Y8, u.oneCell' = true) := by rw [hY]; exact vd_one _
      obtain ⟨wv7, hwo⟩ : ∃ w1, w1 = wv5.setCells brr 0 Y8 := ⟨_, rfl⟩
      have bo : But (Only brr) wv5 wv7 := by rw [hwo]; exact But.cells brr Y8 0 wv5
      have CO := hide Urr.out.1
      have FO := hide Urr.out.2.1
      have LO := LXrr
      have U1 : Hid (Box wv7 brr Y8) := by rw [hwo]; exact Urr.out.all (by rw [LY.out, LXrr.out])
      replace Ucc := hide (Ucc.out.but bo (fun e => by have e : bcc = brr := e; have := D_cc_rr.out; omega))
      replace Uss := hide (Uss.out.but bo (fun e => by have e : bss = brr := e; have := D_ss_rr.out; omega))
      replace Uvv := hide (Uvv.out.but bo (fun e => by have e : bvv = brr := e; have := D_rr_vv.out; omega))
      replace BB : Hid (Below w.heap.size w wv7) := BB.out.trans (bo.below BB.out.size (fun g hg e => by have e : g = brr := e; have := ZBrr.out; omega))
      have EY := hide hY
      have hwo' := hwo.symm
      clear hwo bo hY Urr LXrr EXrr
      have UV0 : Hid (CellsAt wv5 bvv 0 Y8) := by rw [show Y8 = Xvv from by rw [EY.out, EXvv.out]]; exact UVo.out
      go_wp2_with (first | refine wpList_loadA rfl 32 18 aggVd sizVd _ rfl bvv 0 rfl Y8 LY.out UV0.out ?_ | (refine wpList_storeA rfl 32 18 sizVd _ _ rfl brr 0 rfl Y8 Xrr rfl LY.out LO.out CO.out FO.out OY.out ?_; intro hcs; clear hcs; rw [hwo']))
      refine bodyPost_ret (v := .agg Y8.toArray) (results_A rfl _ _ brr _ rfl (run_loadVarA 32 18 aggVd sizVd brr 0 _ LY.out U1.out.1)) rfl ?_
      exact ⟨by rw [EY.out, HRE.out], BB.out⟩
    | false =>
      go_upto_region 18 with fail
      go_wp2_with (refine wpList_loadA rfl 28 10 aggSg sizSg _ rfl bss 0 rfl Xss LXss.out Uss.out.1 ?_)
      refine (H2.out _).mono ?_
      rintro _ wv5 ⟨rfl, bz⟩
      replace Ucc := hide (Ucc.out.later bz)
      replace Uss := hide (Uss.out.later bz)
      replace Urr := hide (Urr.out.later bz)
      replace Uvv := hide (Uvv.out.later bz)
      replace BB := hide (later BB.out bz)
      clear bz
      clear H2
      cases h2 with
      | true =>
        go_upto_region 20 with fail
        obtain ⟨vo, so⟩ : ∃ v, wv5.cell? ⟨bvv, 11, none⟩ = some v := by have h := Uvv.out.1 11 _ (List.getElem?_eq_getElem (by rw [LXvv.out]; decide)); rw [Nat.zero_add] at h; exact ⟨_, h⟩
        have fo := Uvv.out.2.1 11
        obtain ⟨wv6, hwo⟩ : ∃ w1, w1 = wv5.setCell ⟨bvv, 11, none⟩ (.int .i64 1) := ⟨_, rfl⟩
        have bo : But (Only bvv) wv5 wv6 := by rw [hwo]; exact (But.refl (Only bvv) wv5).setOf (b := bvv) rfl 11 _
        obtain ⟨Y7, hY⟩ : ∃ X, X = (⟨c, 1, 0, false, false, 0, 0, false⟩ : Vd).cells := ⟨_, rfl⟩
        have LY : Hid (Y7.length = 18) := by rw [hY]; exact rfl
        have U1 : Hid (Box wv6 bvv Y7) := by rw [hwo, hY]; have h := Uvv.out.one (k := 11) (by rw [LXvv.out]; decide) (.int .i64 1); rw [EXvv.out] at h; exact h
        replace Ucc := hide (Ucc.out.but bo (fun e => by have e : bcc = bvv := e; have := D_cc_vv.out; omega))
        replace Uss := hide (Uss.out.but bo (fun e => by have e : bss = bvv := e; have := D_ss_vv.out; omega))
        replace Urr := hide (Urr.out.but bo (fun e => by have e : brr = bvv := e; have := D_rr_vv.out; omega))
        replace BB : Hid (Below w.heap.size w wv6) := BB.out.trans (bo.below BB.out.size (fun g hg e => by have e : g = bvv := e; have := ZBvv.out; omega))
        have EY := hide hY
        have hwo' := hwo.symm
        clear hwo bo hY Uvv LXvv EXvv
        go_upto_region 21 with fail
        clear hwo' so fo
        try clear vo
        try clear Xvv
        obtain ⟨Xvv, hXX⟩ : ∃ X, X = Y7 := ⟨_, rfl⟩
        subst hXX
        have Uvv := U1
        have LXvv := LY
        have EXvv := EY
        clear U1 LY EY
        have UVo := hide Uvv.out.1
        have RE : R = (⟨c, 1, 0, false, false, 0, 0, false⟩ : Vd) := by rw [HR.out, judge_syn H1n.out OK.out.symm E4.out.symm E2.out.symm]
        have HRE := hide RE
        clear RE
        obtain ⟨Y9, hY⟩ : ∃ X, X = ((⟨c, 1, 0, false, false, 0, 0, false⟩ : Vd) : Vd).cells := ⟨_, rfl⟩
        have LY : Hid (Y9.length = 18) := by rw [hY]; exact rfl
        have OY : Hid (∀ u ∈ Y9, u.oneCell' = true) := by rw [hY]; exact vd_one _
        obtain ⟨wv8, hwo⟩ : ∃ w1, w1 = wv6.setCells brr 0 Y9 := ⟨_, rfl⟩
        have bo : But (Only brr) wv6 wv8 := by rw [hwo]; exact But.cells brr Y9 0 wv6
        have CO := hide Urr.out.1
        have FO := hide Urr.out.2.1
        have LO := LXrr
        have U1 : Hid (Box wv8 brr Y9) := by rw [hwo]; exact Urr.out.all (by rw [LY.out, LXrr.out])
        replace Ucc := hide (Ucc.out.but bo (fun e => by have e : bcc = brr := e; have := D_cc_rr.out; omega))
        replace Uss := hide (Uss.out.but bo (fun e => by have e : bss = brr := e; have := D_ss_rr.out; omega))
        replace Uvv := hide (Uvv.out.but bo (fun e => by have e : bvv = brr := e; have := D_rr_vv.out; omega))
        replace BB : Hid (Below w.heap.size w wv8) := BB.out.trans (bo.below BB.out.size (fun g hg e => by have e : g = brr := e; have := ZBrr.out; omega))
        have EY := hide hY
        have hwo' := hwo.symm
        clear hwo bo hY Urr LXrr EXrr
        have UV0 : Hid (CellsAt wv6 bvv 0 Y9) := by rw [show Y9 = Xvv from by rw [EY.out, EXvv.out]]; exact UVo.out
        go_wp2_with (first | refine wpList_loadA rfl 32 18 aggVd sizVd _ rfl bvv 0 rfl Y9 LY.out UV0.out ?_ | (refine wpList_storeA rfl 32 18 sizVd _ _ rfl brr 0 rfl Y9 Xrr rfl LY.out LO.out CO.out FO.out OY.out ?_; intro hcs; clear hcs; rw [hwo']))
        refine bodyPost_ret (v := .agg Y9.toArray) (results_A rfl _ _ brr _ rfl (run_loadVarA 32 18 aggVd sizVd brr 0 _ LY.out U1.out.1)) rfl ?_
        exact ⟨by rw [EY.out, HRE.out], BB.out⟩
      | false =>
        go_upto_region 22 with fail
        go_wp2_with (refine wpList_loadA rfl 28 10 aggSg sizSg _ rfl bss 0 rfl Xss LXss.out Uss.out.1 ?_)
        refine (H16.out _).mono ?_
        rintro _ wv6 ⟨rfl, bz⟩
        replace Ucc := hide (Ucc.out.later bz)
        replace Uss := hide (Uss.out.later bz)
        replace Urr := hide (Urr.out.later bz)
        replace Uvv := hide (Uvv.out.later bz)
        replace BB := hide (later BB.out bz)
        clear bz
        clear H16
        cases h16 with
        | false =>
          go_upto_region 24 with fail
          have UVo := hide Uvv.out.1
          have RE : R = (⟨c, 0, 0, false, false, 0, 0, false⟩ : Vd) := by rw [HR.out, judge_noack H1n.out OK.out.symm E4.out.symm E2.out.symm E16.out.symm]
          have HRE := hide RE
          clear RE
          obtain ⟨Y8, hY⟩ : ∃ X, X = ((⟨c, 0, 0, false, false, 0, 0, false⟩ : Vd) : Vd).cells := ⟨_, rfl⟩
          have LY : Hid (Y8.length = 18) := by rw [hY]; exact rfl
          have OY : Hid (∀ u ∈ Y8, u.oneCell' = true) := by rw [hY]; exact vd_one _
          obtain ⟨wv7, hwo⟩ : ∃ w1, w1 = wv6.setCells brr 0 Y8 := ⟨_, rfl⟩
          have bo : But (Only brr) wv6 wv7 := by rw [hwo]; exact But.cells brr Y8 0 wv6
          have CO := hide Urr.out.1
          have FO := hide Urr.out.2.1
          have LO := LXrr
          have U1 : Hid (Box wv7 brr Y8) := by rw [hwo]; exact Urr.out.all (by rw [LY.out, LXrr.out])
          replace Ucc := hide (Ucc.out.but bo (fun e => by have e : bcc = brr := e; have := D_cc_rr.out; omega))
          replace Uss := hide (Uss.out.but bo (fun e => by have e : bss = brr := e; have := D_ss_rr.out; omega))
          replace Uvv := hide (Uvv.out.but bo (fun e => by have e : bvv = brr := e; have := D_rr_vv.out; omega))
          replace BB : Hid (Below w.heap.size w wv7) := BB.out.trans (bo.below BB.out.size (fun g hg e => by have e : g = brr := e; have := ZBrr.out; omega))
          have EY := hide hY
          have hwo' := hwo.symm
          clear hwo bo hY Urr LXrr EXrr
          have UV0 : Hid (CellsAt wv6 bvv 0 Y8) := by rw [show Y8 = Xvv from by rw [EY.out, EXvv.out]]; exact UVo.out
          go_wp2_with (first | refine wpList_loadA rfl 32 18 aggVd sizVd _ rfl bvv 0 rfl Y8 LY.out UV0.out ?_ | (refine wpList_storeA rfl 32 18 sizVd _ _ rfl brr 0 rfl Y8 Xrr rfl LY.out LO.out CO.out FO.out OY.out ?_; intro hcs; clear hcs; rw [hwo']))
          refine bodyPost_ret (v := .agg Y8.toArray) (results_A rfl _ _ brr _ rfl (run_loadVarA 32 18 aggVd sizVd brr 0 _ LY.out U1.out.1)) rfl ?_
          exact ⟨by rw [EY.out, HRE.out], BB.out⟩
        | true =>
          obtain ⟨AG, AVd, hA⟩ : ∃ a b, (a, b) = ackR c s := ⟨_, _, rfl⟩
          have JA := judge_ack H1n.out OK.out.symm E4.out.symm E2.out.symm E16.out.symm
          rw [← HR.out, ← hA] at JA
          have AZ := ackR_zero (c := c) (s := s)
          rw [← hA] at AZ
          have CN := racks_any (gv := gv) (da := da) (dc := dc) HC.out HS.out hl (w := wv6) (bvv := bvv) (by have h := Uvv.out; rw [EXvv.out] at h; exact h)
          rw [← hA, ← EXcc.out, ← EXss.out] at CN
          have HCN := hide CN
          have HJA := hide JA
          have HAZ := hide AZ
          clear CN JA AZ hA
          go_upto_region 25 with fail
          go_wp2_with (first | refine wpList_loadA rfl 24 11 aggCt sizCt _ rfl bcc 0 rfl Xcc LXcc.out Ucc.out.1 ?_ | refine wpList_loadA rfl 28 10 aggSg sizSg _ rfl bss 0 rfl Xss LXss.out Uss.out.1 ?_)
          refine HCN.out.mono ?_
          rintro _ wa ⟨rfl, uv, bo⟩
          replace Ucc := hide (Ucc.out.but bo (fun e => by have e : bcc = bvv := e; have := D_cc_vv.out; omega))
          replace Uss := hide (Uss.out.but bo (fun e => by have e : bss = bvv := e; have := D_ss_vv.out; omega))
          replace Urr := hide (Urr.out.but bo (fun e => by have e : brr = bvv := e; have := D_rr_vv.out; omega))
          replace BB : Hid (Below w.heap.size w wa) := BB.out.trans (bo.below BB.out.size (fun g hg e => by have e : g = bvv := e; have := ZBvv.out; omega))
          clear Uvv EXvv LXvv HCN
          obtain ⟨Yv, hYv⟩ : ∃ X, X = AVd.cells := ⟨_, rfl⟩
          have LXvv : Hid (Yv.length = 18) := by rw [hYv]; exact rfl
          have Uvv : Hid (Box wa bvv Yv) := by rw [hYv]; exact uv
          have EXvv := hide hYv
          clear hYv uv bo
          obtain ⟨Xvv, hXX⟩ : ∃ X, X = Yv := ⟨_, rfl⟩
          subst hXX
          obtain ⟨on, hon⟩ : ∃ on, on = (AG && (decide (AVd.nx.st = 3) || (decide (AVd.nx.st = 4) || decide (AVd.nx.st = 5)))) := ⟨_, rfl⟩
          have HON := hide hon
          clear hon
          go_upto_region 26 with fail
          have k1 : wa.cell? ⟨bvv, 0, none⟩ = some (.int .i64 AVd.nx.st) := by have h := Uvv.out.1 0 (.int .i64 AVd.nx.st) (by rw [EXvv.out]; rfl); rw [Nat.zero_add] at h; exact h
          go_cut [79] from 60 to 79 (fun u wx => u = .bool (!on) ∧ wa = wx)
          case first =>
            cases AG with
            | false =>
              have e : on = false := by rw [HON.out]; rfl
              go_wp2
              go_meet
              exact ⟨by rw [e]; rfl, rfl⟩
            | true =>
              by_cases k3 : AVd.nx.st = 3
              · have e : on = true := by rw [HON.out, decide_eq_true k3]; simp
                have q3 : (AVd.nx.st != 3) = false := by simpa using k3
                clear k3
                go_wp2
                go_meet
                exact ⟨by rw [e]; rfl, rfl⟩
              have q3 : (AVd.nx.st != 3) = true := by simpa using k3
              by_cases k4 : AVd.nx.st = 4
              · have e : on = true := by rw [HON.out, decide_eq_true k4]; simp
                have q4 : (AVd.nx.st != 4) = false := by simpa using k4
                clear k4
                go_wp2
                go_meet
                exact ⟨by rw [e]; rfl, rfl⟩
              have q4 : (AVd.nx.st != 4) = true := by simpa using k4
              by_cases k5 : AVd.nx.st = 5
              · have e : on = true := by rw [HON.out, decide_eq_true k5]; simp
                have q5 : (AVd.nx.st != 5) = false := by simpa using k5
                clear k5
                go_wp2
                go_meet
                exact ⟨by rw [e]; rfl, rfl⟩
              have q5 : (AVd.nx.st != 5) = true := by simpa using k5
              have e : on = false := by rw [HON.out, decide_eq_false k3, decide_eq_false k4, decide_eq_false k5]; rfl
              clear k3 k4 k5
              go_wp2
              go_meet
              exact ⟨by rw [e]; rfl, rfl⟩
          case rest =>
            obtain ⟨rfl, hcw⟩ := hcut
            subst hcw
            clear k1
            have JO : Hid (R = if on = true then { AVd with sk := skp c s, tk := tkn c s, fin := finB c s } else AVd) := by
              unfold Hid
              rw [HJA.out]
              by_cases h : AG = true ∧ (AVd.nx.st = 3 ∨ AVd.nx.st = 4 ∨ AVd.nx.st = 5)
              · have e : on = true := by
                  rw [HON.out, h.1]
                  rcases h.2 with k | k | k
                  · simp [k]
                  · simp [k]
                  · simp [k]
                rw [if_pos h, if_pos e]
              · have e : ¬ on = true := fun k => by
                  rw [HON.out] at k
                  simp only [Bool.and_eq_true, Bool.or_eq_true, decide_eq_true_eq] at k
                  exact h k
                rw [if_neg h, if_neg e]
            clear HJA HON
            cases on with
            | false =>
              go_upto_region 27 with fail
              have UVo := hide Uvv.out.1
              have RE : R = AVd := by rw [JO.out]; rfl
              have HRE := hide RE
              clear RE
              obtain ⟨Y8, hY⟩ : ∃ X, X = (AVd : Vd).cells := ⟨_, rfl⟩
              have LY : Hid (Y8.length = 18) := by rw [hY]; exact rfl
              have OY : Hid (∀ u ∈ Y8, u.oneCell' = true) := by rw [hY]; exact vd_one _
              obtain ⟨wv7, hwo⟩ : ∃ w1, w1 = wa.setCells brr 0 Y8 := ⟨_, rfl⟩
              have bo : But (Only brr) wa wv7 := by rw [hwo]; exact But.cells brr Y8 0 wa
              have CO := hide Urr.out.1
              have FO := hide Urr.out.2.1
              have LO := LXrr
              have U1 : Hid (Box wv7 brr Y8) := by rw [hwo]; exact Urr.out.all (by rw [LY.out, LXrr.out])
              replace Ucc := hide (Ucc.out.but bo (fun e => by have e : bcc = brr := e; have := D_cc_rr.out; omega))
              replace Uss := hide (Uss.out.but bo (fun e => by have e : bss = brr := e; have := D_ss_rr.out; omega))
              replace Uvv := hide (Uvv.out.but bo (fun e => by have e : bvv = brr := e; have := D_rr_vv.out; omega))
              replace BB : Hid (Below w.heap.size w wv7) := BB.out.trans (bo.below BB.out.size (fun g hg e => by have e : g = brr := e; have := ZBrr.out; omega))
              have EY := hide hY
              have hwo' := hwo.symm
              clear hwo bo hY Urr LXrr EXrr
              have UV0 : Hid (CellsAt wa bvv 0 Y8) := by rw [show Y8 = Xvv from by rw [EY.out, EXvv.out]]; exact UVo.out
              go_wp2_with (first | refine wpList_loadA rfl 32 18 aggVd sizVd _ rfl bvv 0 rfl Y8 LY.out UV0.out ?_ | (refine wpList_storeA rfl 32 18 sizVd _ _ rfl brr 0 rfl Y8 Xrr rfl LY.out LO.out CO.out FO.out OY.out ?_; intro hcs; clear hcs; rw [hwo']))
              refine bodyPost_ret (v := .agg Y8.toArray) (results_A rfl _ _ brr _ rfl (run_loadVarA 32 18 aggVd sizVd brr 0 _ LY.out U1.out.1)) rfl ?_
              exact ⟨by rw [EY.out, HRE.out], BB.out⟩
            | true =>
              have JT : Hid (R = { AVd with sk := skp c s, tk := tkn c s, fin := finB c s }) := by unfold Hid; rw [JO.out]; rfl
              clear JO
              obtain ⟨ln, hln⟩ : ∃ ln, ln = s.dat.length := ⟨_, rfl⟩
              obtain ⟨D, hD⟩ : ∃ D, D = dif c.rcv s.seq := ⟨_, rfl⟩
              obtain ⟨k, hk⟩ : ∃ k, k = skp c s := ⟨_, rfl⟩
              obtain ⟨T, hT⟩ : ∃ T, T = tkn c s := ⟨_, rfl⟩
              have kD : k = lim D ln := by rw [hk, hD, hln]; rfl
              have T0 : 0 ≤ T ∧ T ≤ (ln : Int) - k := by rw [hT, hln, hk]; exact lim_in (by have := (lim_in (n := dif c.rcv s.seq) (m := s.dat.length) (by omega)).2; unfold skp; omega)
              have KB : 0 ≤ k ∧ k ≤ (ln : Int) := by rw [hk, hln]; exact lim_in (by omega)
              have TS : Hid (∀ j : Int, 0 ≤ j → j ≤ T → k + j < ln → wanted c ((s.seq + (k + j)) % 4294967296) = decide (j < T)) := fun j j0 j1 j2 => by
                rw [hk, hln] at j2
                rw [hT] at j1 ⊢
                rw [hk]
                exact tk_step HS.out.seq HC.out.rcv HC.out.adv (by omega) (fun h => win_pos OK.out.symm h) j0 j1 j2
              have JT2 : Hid (R = { AVd with sk := k, tk := T, fin := finB c s }) := by rw [hk, hT]; exact JT.out
              have FB : Hid (finB c s = (h1 && (decide (k + T = ln) && wanted c ((s.seq + ln) % 4294967296)))) := by unfold Hid finB; rw [E1.out, ← hk, ← hT, ← hln]
              have ID : Hid (∀ W, Calls Try.prog 20 #[.int .u32 c.rcv, .int .u32 s.seq] W fun e w' => e = .returned (.int .i64 D) ∧ w' = W) := fun W => by rw [hD]; exact rDiff_any c.rcv s.seq HC.out.rcv HS.out.seq W
              have WD : Hid (∀ W, Calls Try.prog 29 #[.agg c.cells.toArray] W fun e w' => e = .returned (.int .i64 (rwin c)) ∧ Below W.heap.size W w') := fun W => rwindow_any c HC.out W
              have IW : Hid (∀ (n : Int) W, u32In n → Calls Try.prog 22 #[.int .u32 n, .int .u32 c.rcv, .int .i64 (rwin c)] W fun e w' => e = .returned (.bool (wanted c n)) ∧ w' = W) := fun n W hn => by rw [← wit_rwin]; exact rWithin_any n c.rcv (rwin c) hn HC.out.rcv W
              have HLN := hide hln
              have db := dif_in c.rcv s.seq
              rw [← hD] at db
              have ll : (ln : Int) ≤ 140737488351232 := by omega
              clear JT hk hT hD hln
              obtain ⟨t0, t1⟩ := T0
              obtain ⟨k0, k1⟩ := KB
              obtain ⟨az1, az2, az3⟩ := HAZ.out
              go_upto_region 28 with fail
              have j1 : wa.cell? ⟨bss, 2, none⟩ = some (.int .u32 s.seq) := by have h := Uss.out.1 2 (.int .u32 s.seq) (by rw [EXss.out]; rfl); rw [Nat.zero_add] at h; exact h
              have j2 : wa.cell? ⟨bcc, 9, none⟩ = some (.int .u32 c.rcv) := by have h := Ucc.out.1 9 (.int .u32 c.rcv) (by rw [EXcc.out]; rfl); rw [Nat.zero_add] at h; exact h
              go_wp2_with fail
              refine (ID.out _).mono ?_
              rintro _ wx ⟨rfl, hwx⟩
              rw [hwx]
              clear hwx wx
              clear ID j1 j2
              obtain ⟨vo, so⟩ : ∃ v, wa.cell? ⟨bvv, 15, none⟩ = some v := by have h := Uvv.out.1 15 _ (List.getElem?_eq_getElem (by rw [LXvv.out]; decide)); rw [Nat.zero_add] at h; exact ⟨_, h⟩
              have fo := Uvv.out.2.1 15
              obtain ⟨wv7, hwo⟩ : ∃ w1, w1 = wa.setCell ⟨bvv, 15, none⟩ (.int .i64 D) := ⟨_, rfl⟩
              have bo : But (Only bvv) wa wv7 := by rw [hwo]; exact (But.refl (Only bvv) wa).setOf (b := bvv) rfl 15 _
              obtain ⟨Y8, hY⟩ : ∃ X, X = ({ AVd with sk := D } : Vd).cells := ⟨_, rfl⟩
              have LY : Hid (Y8.length = 18) := by rw [hY]; exact rfl
              have U1 : Hid (Box wv7 bvv Y8) := by rw [hwo, hY]; have h := Uvv.out.one (k := 15) (by rw [LXvv.out]; decide) (.int .i64 D); rw [EXvv.out] at h; exact h
              replace Ucc := hide (Ucc.out.but bo (fun e => by have e : bcc = bvv := e; have := D_cc_vv.out; omega))
              replace Uss := hide (Uss.out.but bo (fun e => by have e : bss = bvv := e; have := D_ss_vv.out; omega))
              replace Urr := hide (Urr.out.but bo (fun e => by have e : brr = bvv := e; have := D_rr_vv.out; omega))
              replace BB : Hid (Below w.heap.size w wv7) := BB.out.trans (bo.below BB.out.size (fun g hg e => by have e : g = bvv := e; have := ZBvv.out; omega))
              have EY := hide hY
              have hwo' := hwo.symm
              clear hwo bo hY Uvv LXvv EXvv
              go_upto_region 29 with fail
              clear hwo' so fo
              try clear vo
              try clear Xvv
              obtain ⟨Xvv, hXX⟩ : ∃ X, X = Y8 := ⟨_, rfl⟩
              subst hXX
              have Uvv := U1
              have LXvv := LY
              have EXvv := EY
              clear U1 LY EY
              have j1 : wv7.cell? ⟨bvv, 15, none⟩ = some (.int .i64 D) := by have h := Uvv.out.1 15 (.int .i64 D) (by rw [EXvv.out]; rfl); rw [Nat.zero_add] at h; exact h
              go_upto_if 89 with fail
              go_cut [] (fun wc => Box wc bvv ({ AVd with sk := max D 0 } : Vd).cells ∧ Box wc bcc Xcc ∧ Box wc bss Xss ∧ Box wc brr Xrr ∧ Below w.heap.size w wc)
              case first =>
                by_cases hd : D < 0
                · have em : max D 0 = 0 := by omega
                  go_upto_region 30 with fail
                  clear j1
                  obtain ⟨vo, so⟩ : ∃ v, wv7.cell? ⟨bvv, 15, none⟩ = some v := by have h := Uvv.out.1 15 _ (List.getElem?_eq_getElem (by rw [LXvv.out]; decide)); rw [Nat.zero_add] at h; exact ⟨_, h⟩
                  have fo := Uvv.out.2.1 15
                  obtain ⟨wv9, hwo⟩ : ∃ w1, w1 = wv7.setCell ⟨bvv, 15, none⟩ (.int .i64 0) := ⟨_, rfl⟩
                  have bo : But (Only bvv) wv7 wv9 := by rw [hwo]; exact (But.refl (Only bvv) wv7).setOf (b := bvv) rfl 15 _
                  obtain ⟨Y10, hY⟩ : ∃ X, X = ({ AVd with sk := 0 } : Vd).cells := ⟨_, rfl⟩
                  have LY : Hid (Y10.length = 18) := by rw [hY]; exact rfl
                  have U1 : Hid (Box wv9 bvv Y10) := by rw [hwo, hY]; have h := Uvv.out.one (k := 15) (by rw [LXvv.out]; decide) (.int .i64 0); rw [EXvv.out] at h; exact h
                  replace Ucc := hide (Ucc.out.but bo (fun e => by have e : bcc = bvv := e; have := D_cc_vv.out; omega))
                  replace Uss := hide (Uss.out.but bo (fun e => by have e : bss = bvv := e; have := D_ss_vv.out; omega))
                  replace Urr := hide (Urr.out.but bo (fun e => by have e : brr = bvv := e; have := D_rr_vv.out; omega))
                  replace BB : Hid (Below w.heap.size w wv9) := BB.out.trans (bo.below BB.out.size (fun g hg e => by have e : g = bvv := e; have := ZBvv.out; omega))
                  have EY := hide hY
                  have hwo' := hwo.symm
                  clear hwo bo hY Uvv LXvv EXvv
                  go_wp2
                  go_meet
                  exact ⟨by rw [em, ← EY.out]; exact U1.out, Ucc.out, Uss.out, Urr.out, BB.out⟩
                · have em : max D 0 = D := by omega
                  go_wp2
                  go_meet
                  exact ⟨by rw [em, ← EXvv.out]; exact Uvv.out, Ucc.out, Uss.out, Urr.out, BB.out⟩
              case rest =>
                rename World => wc1
                obtain ⟨uv, uc, us, ur, bb⟩ := hcut
                replace Ucc : Hid (Box wc1 bcc Xcc) := uc
                replace Uss : Hid (Box wc1 bss Xss) := us
                replace Urr : Hid (Box wc1 brr Xrr) := ur
                replace BB : Hid (Below w.heap.size w wc1) := bb
                clear Uvv EXvv LXvv
                obtain ⟨Yv1, hYv⟩ : ∃ X, X = ({ AVd with sk := max D 0 } : Vd).cells := ⟨_, rfl⟩
                have LXvv : Hid (Yv1.length = 18) := by rw [hYv]; exact rfl
                have Uvv : Hid (Box wc1 bvv Yv1) := by rw [hYv]; exact uv
                have EXvv := hide hYv
                clear hYv uv uc us ur bb
                obtain ⟨Xvv, hXX⟩ : ∃ X, X = Yv1 := ⟨_, rfl⟩
                subst hXX
                clear j1
                have j1 : wc1.cell? ⟨bvv, 15, none⟩ = some (.int .i64 (max D 0)) := by have h := Uvv.out.1 15 (.int .i64 (max D 0)) (by rw [EXvv.out]; rfl); rw [Nat.zero_add] at h; exact h
                have j2 : wc1.cell? ⟨bss, 9, none⟩ = some (.slice da s.dat.length dc) := by have h := Uss.out.1 9 (.slice da s.dat.length dc) (by rw [EXss.out]; rfl); rw [Nat.zero_add] at h; exact h
                rw [← HLN.out] at j2
                obtain ⟨m0, hm0⟩ : ∃ m, m = max D 0 := ⟨_, rfl⟩
                have HM0 := hide hm0
                rw [← hm0] at j1 EXvv
                have km : k = min m0 ln := by rw [kD, hm0]; rfl
                have m0b : 0 ≤ m0 ∧ m0 < 2147483648 := by omega
                clear hm0
                go_upto_if 96 with fail
                go_cut [] (fun wc => Box wc bvv ({ AVd with sk := k } : Vd).cells ∧ Box wc bcc Xcc ∧ Box wc bss Xss ∧ Box wc brr Xrr ∧ Below w.heap.size w wc)
                case first =>
                  by_cases hd : (ln : Int) < m0
                  · have em : k = ln := by omega
                    go_upto_region 32 with fail
                    clear j1
                    obtain ⟨vo, so⟩ : ∃ v, wc1.cell? ⟨bvv, 15, none⟩ = some v := by have h := Uvv.out.1 15 _ (List.getElem?_eq_getElem (by rw [LXvv.out]; decide)); rw [Nat.zero_add] at h; exact ⟨_, h⟩
                    have fo := Uvv.out.2.1 15
                    obtain ⟨wv9, hwo⟩ : ∃ w1, w1 = wc1.setCell ⟨bvv, 15, none⟩ (.int .i64 (ln : Int)) := ⟨_, rfl⟩
                    have bo : But (Only bvv) wc1 wv9 := by rw [hwo]; exact (But.refl (Only bvv) wc1).setOf (b := bvv) rfl 15 _
                    obtain ⟨Y10, hY⟩ : ∃ X, X = ({ AVd with sk := (ln : Int) } : Vd).cells := ⟨_, rfl⟩
                    have LY : Hid (Y10.length = 18) := by rw [hY]; exact rfl
                    have U1 : Hid (Box wv9 bvv Y10) := by rw [hwo, hY]; have h := Uvv.out.one (k := 15) (by rw [LXvv.out]; decide) (.int .i64 (ln : Int)); rw [EXvv.out] at h; exact h
                    replace Ucc := hide (Ucc.out.but bo (fun e => by have e : bcc = bvv := e; have := D_cc_vv.out; omega))
                    replace Uss := hide (Uss.out.but bo (fun e => by have e : bss = bvv := e; have := D_ss_vv.out; omega))
                    replace Urr := hide (Urr.out.but bo (fun e => by have e : brr = bvv := e; have := D_rr_vv.out; omega))
                    replace BB : Hid (Below w.heap.size w wv9) := BB.out.trans (bo.below BB.out.size (fun g hg e => by have e : g = bvv := e; have := ZBvv.out; omega))
                    have EY := hide hY
                    have hwo' := hwo.symm
                    clear hwo bo hY Uvv LXvv EXvv
                    go_wp2
                    go_meet
                    exact ⟨by rw [em, ← EY.out]; exact U1.out, Ucc.out, Uss.out, Urr.out, BB.out⟩
                  · have em : k = m0 := by omega
                    go_wp2
                    go_meet
                    exact ⟨by rw [em, ← EXvv.out]; exact Uvv.out, Ucc.out, Uss.out, Urr.out, BB.out⟩
                case rest =>
                  rename World => wc2
                  obtain ⟨uv, uc, us, ur, bb⟩ := hcut
                  replace Ucc : Hid (Box wc2 bcc Xcc) := uc
                  replace Uss : Hid (Box wc2 bss Xss) := us
                  replace Urr : Hid (Box wc2 brr Xrr) := ur
                  replace BB : Hid (Below w.heap.size w wc2) := bb
                  clear Uvv EXvv LXvv
                  obtain ⟨Yv2, hYv⟩ : ∃ X, X = ({ AVd with sk := k } : Vd).cells := ⟨_, rfl⟩
                  have LXvv : Hid (Yv2.length = 18) := by rw [hYv]; exact rfl
                  have Uvv : Hid (Box wc2 bvv Yv2) := by rw [hYv]; exact uv
                  have EXvv := hide hYv
                  clear hYv uv uc us ur bb
                  obtain ⟨Xvv, hXX⟩ : ∃ X, X = Yv2 := ⟨_, rfl⟩
                  subst hXX
                  clear j1 j2 km m0b db kD HM0
                  have EA0 : ({ AVd with sk := k, tk := 0 } : Vd) = ({ AVd with sk := k } : Vd) := by rw [← az2]
                  go_wp2
                  go_loopw [11] (fun _ wr => ∃ j : Int, Hid (0 ≤ j ∧ j ≤ T) ∧ Hid (Box wr bvv ({ AVd with sk := k, tk := j } : Vd).cells) ∧ Hid (Box wr bcc Xcc) ∧ Hid (Box wr bss Xss) ∧ Hid (Box wr brr Xrr) ∧ Hid (Below w.heap.size w wr)) (fun _ wr => match wr.cell? ⟨bvv, 16, none⟩ with | some (.int _ t) => ((ln : Int) - t).toNat | _ => 0)
                  case atStart => exact ⟨0, ⟨Int.le_refl _, t0⟩, by show Box _ _ _; rw [EA0, ← EXvv.out]; exact Uvv.out, Ucc.out, Uss.out, Urr.out, BB.out⟩
                  case round =>
                    clear Ucc Uss Urr Uvv BB EXvv LXvv EA0
                    obtain ⟨j, HJ, Uv, Ucc, Uss, Urr, BB⟩ := hrel
                    obtain ⟨j0, j1⟩ := HJ.out
                    clear HJ
                    obtain ⟨Yv3, hYv⟩ : ∃ X, X = ({ AVd with sk := k, tk := j } : Vd).cells := ⟨_, rfl⟩
                    have LXvv : Hid (Yv3.length = 18) := by rw [hYv]; exact rfl
                    have Uvv : Hid (Box wr bvv Yv3) := by rw [hYv]; exact Uv.out
                    have EXvv := hide hYv
                    clear hYv Uv
                    obtain ⟨Xvv, hXX⟩ : ∃ X, X = Yv3 := ⟨_, rfl⟩
                    subst hXX
                    have i1 : wr.cell? ⟨bvv, 15, none⟩ = some (.int .i64 k) := by have h := Uvv.out.1 15 (.int .i64 k) (by rw [EXvv.out]; rfl); rw [Nat.zero_add] at h; exact h
                    have i2 : wr.cell? ⟨bvv, 16, none⟩ = some (.int .i64 j) := by have h := Uvv.out.1 16 (.int .i64 j) (by rw [EXvv.out]; rfl); rw [Nat.zero_add] at h; exact h
                    have i3 : wr.cell? ⟨bss, 9, none⟩ = some (.slice da s.dat.length dc) := by have h := Uss.out.1 9 (.slice da s.dat.length dc) (by rw [EXss.out]; rfl); rw [Nat.zero_add] at h; exact h
                    rw [← HLN.out] at i3
                    by_cases hlt : k + j < ln
                    · have hlt2 := hlt
                      go_upto_region 34 with fail
                      clear i1 i2 i3
                      obtain ⟨inb, hin⟩ : ∃ b, b = decide (j < T) := ⟨_, rfl⟩
                      have WI : Hid (wanted c ((s.seq + (k + j)) % 4294967296) = inb) := by unfold Hid; rw [hin]; exact TS.out j j0 j1 hlt
                      refine region_quiet_C (fun W => Below wr.heap.size wr W) (by kernel_rfl) (by kernel_rfl) (later_drew _) ?_
                      go_big_quiet_want
                      refine quiet_pure (.pointer (some ⟨bss, 2, none⟩)) (fun W hW => exec_fieldO 28 _ 2 bss 0 2 rfl rfl (fun w => by kernel_rfl)) ?_
                      go_big_quiet_on
                      simp only [Act.put, List.setIfInBounds_toArray, List.set_cons_succ, List.set_cons_zero]
                      go_big_quiet_want
                      refine quiet_pure (.int .u32 s.seq) (fun W hW => exec_load1 22 one32 _ rfl bss 2 rfl (.int .u32 s.seq) (by have h := (Uss.out.later hW).1; rw [EXss.out] at h; exact h 2 _ rfl)) ?_
                      go_big_quiet_on
                      simp only [Act.put, List.setIfInBounds_toArray, List.set_cons_succ, List.set_cons_zero]
                      go_big_quiet_want
                      refine quiet_pure (.pointer (some ⟨bvv, 15, none⟩)) (fun W hW => exec_fieldO 32 _ 5 bvv 0 15 rfl rfl (fun w => by kernel_rfl)) ?_
                      go_big_quiet_on
                      simp only [Act.put, List.setIfInBounds_toArray, List.set_cons_succ, List.set_cons_zero]
                      go_big_quiet_want
                      refine quiet_pure (.int .i64 k) (fun W hW => exec_load1 3 one1 _ rfl bvv 15 rfl (.int .i64 k) (by have h := (Uvv.out.later hW).1; rw [EXvv.out] at h; exact h 15 _ rfl)) ?_
                      go_big_quiet_on
                      simp only [Act.put, List.setIfInBounds_toArray, List.set_cons_succ, List.set_cons_zero]
                      go_big_quiet_want
                      refine quiet_pure (.pointer (some ⟨bvv, 16, none⟩)) (fun W hW => exec_fieldO 32 _ 6 bvv 0 16 rfl rfl (fun w => by kernel_rfl)) ?_
                      go_big_quiet_on
                      simp only [Act.put, List.setIfInBounds_toArray, List.set_cons_succ, List.set_cons_zero]
                      go_big_quiet_want
                      refine quiet_pure (.int .i64 j) (fun W hW => exec_load1 3 one1 _ rfl bvv 16 rfl (.int .i64 j) (by have h := (Uvv.out.later hW).1; rw [EXvv.out] at h; exact h 16 _ rfl)) ?_
                      go_big_quiet_on
                      simp only [Act.put, List.setIfInBounds_toArray, List.set_cons_succ, List.set_cons_zero]
                      go_big_quiet_want
                      refine quiet_pure (.int .i64 (k + j)) (fun W hW => exec_addi _ _ _ _ _ rfl rfl rfl (by omega) (by omega)) ?_
                      go_big_quiet_on
                      simp only [Act.put, List.setIfInBounds_toArray, List.set_cons_succ, List.set_cons_zero]
                      go_big_quiet_want
                      refine quiet_pure (.int .u32 ((k + j) % 4294967296)) (fun W hW => exec_cv32 _ _ rfl rfl) ?_
                      go_big_quiet_on
                      simp only [Act.put, List.setIfInBounds_toArray, List.set_cons_succ, List.set_cons_zero]
                      go_big_quiet_want
                      refine quiet_pure (.int .u32 ((s.seq + (k + j)) % 4294967296)) (fun W hW => by rw [show (s.seq + (k + j)) % 4294967296 = (s.seq + (k + j) % 4294967296) % 4294967296 by omega]; exact exec_addu _ _ _ _ _ rfl rfl rfl) ?_
                      go_big_quiet_on
                      simp only [Act.put, List.setIfInBounds_toArray, List.set_cons_succ, List.set_cons_zero]
                      go_big_quiet_want
                      refine quiet_pure (.pointer (some ⟨bcc, 9, none⟩)) (fun W hW => exec_fieldO 24 _ 9 bcc 0 9 rfl rfl (fun w => by kernel_rfl)) ?_
                      go_big_quiet_on
                      simp only [Act.put, List.setIfInBounds_toArray, List.set_cons_succ, List.set_cons_zero]
                      go_big_quiet_want
                      refine quiet_pure (.int .u32 c.rcv) (fun W hW => exec_load1 22 one32 _ rfl bcc 9 rfl (.int .u32 c.rcv) (by have h := (Ucc.out.later hW).1; rw [EXcc.out] at h; exact h 9 _ rfl)) ?_
                      go_big_quiet_on
                      simp only [Act.put, List.setIfInBounds_toArray, List.set_cons_succ, List.set_cons_zero]
                      go_big_quiet_want
                      refine quiet_pure (.agg (c.cells).toArray) (fun W hW => exec_loadA 24 11 aggCt sizCt _ rfl bcc 0 rfl (c.cells) rfl (by have h := (Ucc.out.later hW).1; rw [EXcc.out] at h; exact h)) ?_
                      go_big_quiet_on
                      simp only [Act.put, List.setIfInBounds_toArray, List.set_cons_succ, List.set_cons_zero]
                      go_big_quiet_want
                      refine quiet_call 29 #[.agg c.cells.toArray] (.int .i64 (rwin c)) (fun _ => by simp [Act.eval, go_sem]) (fun W hW => (WD.out W).mono fun e w' h => ⟨h.1, later hW h.2⟩) ?_
                      go_big_quiet_on
                      simp only [Act.put, List.setIfInBounds_toArray, List.set_cons_succ, List.set_cons_zero]
                      go_big_quiet_want
                      refine quiet_call 22 #[.int .u32 ((s.seq + (k + j)) % 4294967296), .int .u32 c.rcv, .int .i64 (rwin c)] (.bool inb) (fun _ => by simp [Act.eval, go_sem]) (fun W hW => (IW.out _ W (by unfold u32In; omega)).mono fun e w' h => ⟨by rw [← WI.out]; exact h.1, by rw [h.2]; exact hW⟩) ?_
                      go_big_quiet_on
                      simp only [Act.put, List.setIfInBounds_toArray, List.set_cons_succ, List.set_cons_zero]
                      go_big_quiet_step (fail)
                      refine wpQuiet_nil ?_
                      intro wq bq
                      obtain ⟨wl, hwl⟩ : ∃ wl, wl = wq := ⟨_, rfl⟩
                      rw [← hwl] at bq ⊢
                      clear hwl
                      have mc : wr.cell? ⟨bvv, 16, none⟩ = some (.int .i64 j) := by have h := Uvv.out.1; rw [EXvv.out] at h; exact h 16 _ rfl
                      replace Ucc := hide (Ucc.out.later bq)
                      replace Uss := hide (Uss.out.later bq)
                      replace Urr := hide (Urr.out.later bq)
                      replace Uvv := hide (Uvv.out.later bq)
                      replace BB := hide (later BB.out bq)
                      clear bq
                      cases inb with
                      | true =>
                        have jt : j < T := of_decide_eq_true hin.symm
                        have MC := hide mc
                        clear hin mc
                        have i2 : wl.cell? ⟨bvv, 16, none⟩ = some (.int .i64 j) := by have h := Uvv.out.1 16 (.int .i64 j) (by rw [EXvv.out]; rfl); rw [Nat.zero_add] at h; exact h
                        go_upto_region 36 with fail
                        obtain ⟨vo, so⟩ : ∃ v, wl.cell? ⟨bvv, 16, none⟩ = some v := by have h := Uvv.out.1 16 _ (List.getElem?_eq_getElem (by rw [LXvv.out]; decide)); rw [Nat.zero_add] at h; exact ⟨_, h⟩
                        have fo := Uvv.out.2.1 16
                        obtain ⟨wv9, hwo⟩ : ∃ w1, w1 = wl.setCell ⟨bvv, 16, none⟩ (.int .i64 (j + 1)) := ⟨_, rfl⟩
                        have bo : But (Only bvv) wl wv9 := by rw [hwo]; exact (But.refl (Only bvv) wl).setOf (b := bvv) rfl 16 _
                        obtain ⟨Y10, hY⟩ : ∃ X, X = ({ AVd with sk := k, tk := j + 1 } : Vd).cells := ⟨_, rfl⟩
                        have LY : Hid (Y10.length = 18) := by rw [hY]; exact rfl
                        have U1 : Hid (Box wv9 bvv Y10) := by rw [hwo, hY]; have h := Uvv.out.one (k := 16) (by rw [LXvv.out]; decide) (.int .i64 (j + 1)); rw [EXvv.out] at h; exact h
                        replace Ucc := hide (Ucc.out.but bo (fun e => by have e : bcc = bvv := e; have := D_cc_vv.out; omega))
                        replace Uss := hide (Uss.out.but bo (fun e => by have e : bss = bvv := e; have := D_ss_vv.out; omega))
                        replace Urr := hide (Urr.out.but bo (fun e => by have e : brr = bvv := e; have := D_rr_vv.out; omega))
                        replace BB : Hid (Below w.heap.size w wv9) := BB.out.trans (bo.below BB.out.size (fun g hg e => by have e : g = bvv := e; have := ZBvv.out; omega))
                        have EY := hide hY
                        have hwo' := hwo.symm
                        clear hwo bo hY Uvv LXvv EXvv
                        go_wp2
                        go_roundw
                        case rel => exact ⟨j + 1, ⟨by omega, by omega⟩, by show Box _ _ _; rw [← EY.out]; exact U1.out, Ucc.out, Uss.out, Urr.out, BB.out⟩
                        case measure => have mc2 : wv9.cell? ⟨bvv, 16, none⟩ = some (Value.int .i64 (j + 1)) := (by have h := U1.out.1; rw [EY.out] at h; exact h 16 _ rfl); rw [MC.out, mc2]; simp only; omega
                      | false =>
                        have ej : j = T := by have := of_decide_eq_false hin.symm; omega
                        clear hin mc
                        subst ej
                        go_wp2_with (refine wpList_loadA rfl 28 10 aggSg sizSg _ rfl bss 0 rfl Xss LXss.out Uss.out.1 ?_)
                        refine (H1.out _).mono ?_
                        rintro _ wv9 ⟨rfl, bz⟩
                        replace Ucc := hide (Ucc.out.later bz)
                        replace Uss := hide (Uss.out.later bz)
                        replace Urr := hide (Urr.out.later bz)
                        replace Uvv := hide (Uvv.out.later bz)
                        replace BB := hide (later BB.out bz)
                        clear bz
                        clear H1
                        go_upto_region 38 with fail
                        refine region_quiet_C (fun W => Below wv9.heap.size wv9 W) (by kernel_rfl) (by kernel_rfl) (later_drew _) ?_
                        go_big_quiet_want
                        refine quiet_pure (.pointer (some ⟨bss, 2, none⟩)) (fun W hW => exec_fieldO 28 _ 2 bss 0 2 rfl rfl (fun w => by kernel_rfl)) ?_
                        go_big_quiet_on
                        simp only [Act.put, List.setIfInBounds_toArray, List.set_cons_succ, List.set_cons_zero]
                        go_big_quiet_want
                        refine quiet_pure (.int .u32 s.seq) (fun W hW => exec_load1 22 one32 _ rfl bss 2 rfl (.int .u32 s.seq) (by have h := (Uss.out.later hW).1; rw [EXss.out] at h; exact h 2 _ rfl)) ?_
                        go_big_quiet_on
                        simp only [Act.put, List.setIfInBounds_toArray, List.set_cons_succ, List.set_cons_zero]
                        go_big_quiet_want
                        refine quiet_pure (.pointer (some ⟨bss, 9, none⟩)) (fun W hW => exec_fieldO 28 _ 9 bss 0 9 rfl rfl (fun w => by kernel_rfl)) ?_
                        go_big_quiet_on
                        simp only [Act.put, List.setIfInBounds_toArray, List.set_cons_succ, List.set_cons_zero]
                        go_big_quiet_want
                        refine quiet_pure (.slice da ln dc) (fun W hW => exec_load1 26 oneS _ rfl bss 9 rfl (.slice da ln dc) (by have h := (Uss.out.later hW).1; rw [EXss.out] at h; have h2 := h 9 _ rfl; rw [← HLN.out] at h2; exact h2)) ?_
                        go_big_quiet_on
                        simp only [Act.put, List.setIfInBounds_toArray, List.set_cons_succ, List.set_cons_zero]
                        go_big_quiet_want
                        refine quiet_pure (.int .i64 (ln : Int)) (fun W hW => exec_len _ _ _ _ _ (by kernel_rfl) rfl rfl) ?_
                        go_big_quiet_on
                        simp only [Act.put, List.setIfInBounds_toArray, List.set_cons_succ, List.set_cons_zero]
                        go_big_quiet_want
                        refine quiet_pure (.int .u32 ((ln : Int) % 4294967296)) (fun W hW => exec_cv32 _ _ rfl rfl) ?_
                        go_big_quiet_on
                        simp only [Act.put, List.setIfInBounds_toArray, List.set_cons_succ, List.set_cons_zero]
                        go_big_quiet_want
                        refine quiet_pure (.int .u32 ((s.seq + (ln : Int)) % 4294967296)) (fun W hW => by rw [show (s.seq + (ln : Int)) % 4294967296 = (s.seq + (ln : Int) % 4294967296) % 4294967296 by omega]; exact exec_addu _ _ _ _ _ rfl rfl rfl) ?_
                        go_big_quiet_on
                        simp only [Act.put, List.setIfInBounds_toArray, List.set_cons_succ, List.set_cons_zero]
                        go_big_quiet_want
                        refine quiet_pure (.pointer (some ⟨bcc, 9, none⟩)) (fun W hW => exec_fieldO 24 _ 9 bcc 0 9 rfl rfl (fun w => by kernel_rfl)) ?_
                        go_big_quiet_on
                        simp only [Act.put, List.setIfInBounds_toArray, List.set_cons_succ, List.set_cons_zero]
                        go_big_quiet_want
                        refine quiet_pure (.int .u32 c.rcv) (fun W hW => exec_load1 22 one32 _ rfl bcc 9 rfl (.int .u32 c.rcv) (by have h := (Ucc.out.later hW).1; rw [EXcc.out] at h; exact h 9 _ rfl)) ?_
                        go_big_quiet_on
                        simp only [Act.put, List.setIfInBounds_toArray, List.set_cons_succ, List.set_cons_zero]
                        go_big_quiet_want
                        refine quiet_pure (.agg (c.cells).toArray) (fun W hW => exec_loadA 24 11 aggCt sizCt _ rfl bcc 0 rfl (c.cells) rfl (by have h := (Ucc.out.later hW).1; rw [EXcc.out] at h; exact h)) ?_
                        go_big_quiet_on
                        simp only [Act.put, List.setIfInBounds_toArray, List.set_cons_succ, List.set_cons_zero]
                        go_big_quiet_want
                        refine quiet_call 29 #[.agg c.cells.toArray] (.int .i64 (rwin c)) (fun _ => by simp [Act.eval, go_sem]) (fun W hW => (WD.out W).mono fun e w' h => ⟨h.1, later hW h.2⟩) ?_
                        go_big_quiet_on
                        simp only [Act.put, List.setIfInBounds_toArray, List.set_cons_succ, List.set_cons_zero]
                        go_big_quiet_want
                        refine quiet_call 22 #[.int .u32 ((s.seq + (ln : Int)) % 4294967296), .int .u32 c.rcv, .int .i64 (rwin c)] (.bool (wanted c ((s.seq + (ln : Int)) % 4294967296))) (fun _ => by simp [Act.eval, go_sem]) (fun W hW => (IW.out _ W (by unfold u32In; omega)).mono fun e w' h => ⟨h.1, by rw [h.2]; exact hW⟩) ?_
                        go_big_quiet_on
                        simp only [Act.put, List.setIfInBounds_toArray, List.set_cons_succ, List.set_cons_zero]
                        go_big_quiet_step (fail)
                        refine wpQuiet_nil ?_
                        intro wq bq
                        obtain ⟨wt, hwt⟩ : ∃ wt, wt = wq := ⟨_, rfl⟩
                        rw [← hwt] at bq ⊢
                        clear hwt
                        replace Ucc := hide (Ucc.out.later bq)
                        replace Uss := hide (Uss.out.later bq)
                        replace Urr := hide (Urr.out.later bq)
                        replace Uvv := hide (Uvv.out.later bq)
                        replace BB := hide (later BB.out bq)
                        clear bq
                        obtain ⟨its, hits⟩ : ∃ b, b = wanted c ((s.seq + (ln : Int)) % 4294967296) := ⟨_, rfl⟩
                        rw [← hits] at FB ⊢
                        clear hits
                        have i1 : wt.cell? ⟨bvv, 15, none⟩ = some (.int .i64 k) := by have h := Uvv.out.1 15 (.int .i64 k) (by rw [EXvv.out]; rfl); rw [Nat.zero_add] at h; exact h
                        have i2 : wt.cell? ⟨bvv, 16, none⟩ = some (.int .i64 j) := by have h := Uvv.out.1 16 (.int .i64 j) (by rw [EXvv.out]; rfl); rw [Nat.zero_add] at h; exact h
                        have i3 : wt.cell? ⟨bss, 9, none⟩ = some (.slice da s.dat.length dc) := by have h := Uss.out.1 9 (.slice da s.dat.length dc) (by rw [EXss.out]; rfl); rw [Nat.zero_add] at h; exact h
                        rw [← HLN.out] at i3
                        cases h1 with
                        | false =>
                          have FV : Hid (finB c s = false) := by unfold Hid; rw [FB.out]; rfl
                          obtain ⟨vo, so⟩ : ∃ v, wt.cell? ⟨bvv, 17, none⟩ = some v := by have h := Uvv.out.1 17 _ (List.getElem?_eq_getElem (by rw [LXvv.out]; decide)); rw [Nat.zero_add] at h; exact ⟨_, h⟩
                          have fo := Uvv.out.2.1 17
                          obtain ⟨wv10, hwo⟩ : ∃ w1, w1 = wt.setCell ⟨bvv, 17, none⟩ (.bool false) := ⟨_, rfl⟩
                          have bo : But (Only bvv) wt wv10 := by rw [hwo]; exact (But.refl (Only bvv) wt).setOf (b := bvv) rfl 17 _
                          obtain ⟨Y11, hY⟩ : ∃ X, X = ({ AVd with sk := k, tk := j, fin := false } : Vd).cells := ⟨_, rfl⟩
                          have LY : Hid (Y11.length = 18) := by rw [hY]; exact rfl
                          have U1 : Hid (Box wv10 bvv Y11) := by rw [hwo, hY]; have h := Uvv.out.one (k := 17) (by rw [LXvv.out]; decide) (.bool false); rw [EXvv.out] at h; exact h
                          replace Ucc := hide (Ucc.out.but bo (fun e => by have e : bcc = bvv := e; have := D_cc_vv.out; omega))
                          replace Uss := hide (Uss.out.but bo (fun e => by have e : bss = bvv := e; have := D_ss_vv.out; omega))
                          replace Urr := hide (Urr.out.but bo (fun e => by have e : brr = bvv := e; have := D_rr_vv.out; omega))
                          replace BB : Hid (Below w.heap.size w wv10) := BB.out.trans (bo.below BB.out.size (fun g hg e => by have e : g = bvv := e; have := ZBvv.out; omega))
                          have EY := hide hY
                          have hwo' := hwo.symm
                          clear hwo bo hY Uvv LXvv EXvv
                          go_upto_region 40 with fail
                          clear hwo' so fo
                          try clear vo
                          try clear Xvv
                          obtain ⟨Xvv, hXX⟩ : ∃ X, X = Y11 := ⟨_, rfl⟩
                          subst hXX
                          have Uvv := U1
                          have LXvv := LY
                          have EXvv := EY
                          clear U1 LY EY
                          clear i1 i2 i3
                          have UVo := hide Uvv.out.1
                          have RE : R = ({ AVd with sk := k, tk := j, fin := false } : Vd) := by rw [JT2.out, FV.out]
                          have HRE := hide RE
                          clear RE
                          obtain ⟨Y13, hY⟩ : ∃ X, X = (({ AVd with sk := k, tk := j, fin := false } : Vd) : Vd).cells := ⟨_, rfl⟩
                          have LY : Hid (Y13.length = 18) := by rw [hY]; exact rfl
                          have OY : Hid (∀ u ∈ Y13, u.oneCell' = true) := by rw [hY]; exact vd_one _
                          obtain ⟨wv12, hwo⟩ : ∃ w1, w1 = wv10.setCells brr 0 Y13 := ⟨_, rfl⟩
                          have bo : But (Only brr) wv10 wv12 := by rw [hwo]; exact But.cells brr Y13 0 wv10
                          have CO := hide Urr.out.1
                          have FO := hide Urr.out.2.1
                          have LO := LXrr
                          have U1 : Hid (Box wv12 brr Y13) := by rw [hwo]; exact Urr.out.all (by rw [LY.out, LXrr.out])
                          replace Ucc := hide (Ucc.out.but bo (fun e => by have e : bcc = brr := e; have := D_cc_rr.out; omega))
                          replace Uss := hide (Uss.out.but bo (fun e => by have e : bss = brr := e; have := D_ss_rr.out; omega))
                          replace Uvv := hide (Uvv.out.but bo (fun e => by have e : bvv = brr := e; have := D_rr_vv.out; omega))
                          replace BB : Hid (Below w.heap.size w wv12) := BB.out.trans (bo.below BB.out.size (fun g hg e => by have e : g = brr := e; have := ZBrr.out; omega))
                          have EY := hide hY
                          have hwo' := hwo.symm
                          clear hwo bo hY Urr LXrr EXrr
                          have UV0 : Hid (CellsAt wv10 bvv 0 Y13) := by rw [show Y13 = Xvv from by rw [EY.out, EXvv.out]]; exact UVo.out
                          go_wp2_with (first | refine wpList_loadA rfl 32 18 aggVd sizVd _ rfl bvv 0 rfl Y13 LY.out UV0.out ?_ | (refine wpList_storeA rfl 32 18 sizVd _ _ rfl brr 0 rfl Y13 Xrr rfl LY.out LO.out CO.out FO.out OY.out ?_; intro hcs; clear hcs; rw [hwo']))
                          refine bodyPost_ret (v := .agg Y13.toArray) (results_A rfl _ _ brr _ rfl (run_loadVarA 32 18 aggVd sizVd brr 0 _ LY.out U1.out.1)) rfl ?_
                          exact ⟨by rw [EY.out, HRE.out], BB.out⟩
                        | true =>
                          by_cases hsum : k + j = ln
                          · have q1 : (k + j == (ln : Int)) = true := by simpa using hsum
                            have HS2 := hide hsum
                            clear hsum
                            have FV : Hid (finB c s = its) := by unfold Hid; rw [FB.out, decide_eq_true HS2.out]; rfl
                            obtain ⟨vo, so⟩ : ∃ v, wt.cell? ⟨bvv, 17, none⟩ = some v := by have h := Uvv.out.1 17 _ (List.getElem?_eq_getElem (by rw [LXvv.out]; decide)); rw [Nat.zero_add] at h; exact ⟨_, h⟩
                            have fo := Uvv.out.2.1 17
                            obtain ⟨wv10, hwo⟩ : ∃ w1, w1 = wt.setCell ⟨bvv, 17, none⟩ (.bool its) := ⟨_, rfl⟩
                            have bo : But (Only bvv) wt wv10 := by rw [hwo]; exact (But.refl (Only bvv) wt).setOf (b := bvv) rfl 17 _
                            obtain ⟨Y11, hY⟩ : ∃ X, X = ({ AVd with sk := k, tk := j, fin := its } : Vd).cells := ⟨_, rfl⟩
                            have LY : Hid (Y11.length = 18) := by rw [hY]; exact rfl
                            have U1 : Hid (Box wv10 bvv Y11) := by rw [hwo, hY]; have h := Uvv.out.one (k := 17) (by rw [LXvv.out]; decide) (.bool its); rw [EXvv.out] at h; exact h
                            replace Ucc := hide (Ucc.out.but bo (fun e => by have e : bcc = bvv := e; have := D_cc_vv.out; omega))
                            replace Uss := hide (Uss.out.but bo (fun e => by have e : bss = bvv := e; have := D_ss_vv.out; omega))
                            replace Urr := hide (Urr.out.but bo (fun e => by have e : brr = bvv := e; have := D_rr_vv.out; omega))
                            replace BB : Hid (Below w.heap.size w wv10) := BB.out.trans (bo.below BB.out.size (fun g hg e => by have e : g = bvv := e; have := ZBvv.out; omega))
                            have EY := hide hY
                            have hwo' := hwo.symm
                            clear hwo bo hY Uvv LXvv EXvv
                            go_upto_region 40 with fail
                            clear hwo' so fo
                            try clear vo
                            try clear Xvv
                            obtain ⟨Xvv, hXX⟩ : ∃ X, X = Y11 := ⟨_, rfl⟩
                            subst hXX
                            have Uvv := U1
                            have LXvv := LY
                            have EXvv := EY
                            clear U1 LY EY
                            clear i1 i2 i3
                            have UVo := hide Uvv.out.1
                            have RE : R = ({ AVd with sk := k, tk := j, fin := its } : Vd) := by rw [JT2.out, FV.out]
                            have HRE := hide RE
                            clear RE
                            obtain ⟨Y13, hY⟩ : ∃ X, X = (({ AVd with sk := k, tk := j, fin := its } : Vd) : Vd).cells := ⟨_, rfl⟩
                            have LY : Hid (Y13.length = 18) := by rw [hY]; exact rfl
                            have OY : Hid (∀ u ∈ Y13, u.oneCell' = true) := by rw [hY]; exact vd_one _
                            obtain ⟨wv12, hwo⟩ : ∃ w1, w1 = wv10.setCells brr 0 Y13 := ⟨_, rfl⟩
                            have bo : But (Only brr) wv10 wv12 := by rw [hwo]; exact But.cells brr Y13 0 wv10
                            have CO := hide Urr.out.1
                            have FO := hide Urr.out.2.1
                            have LO := LXrr
                            have U1 : Hid (Box wv12 brr Y13) := by rw [hwo]; exact Urr.out.all (by rw [LY.out, LXrr.out])
                            replace Ucc := hide (Ucc.out.but bo (fun e => by have e : bcc = brr := e; have := D_cc_rr.out; omega))
                            replace Uss := hide (Uss.out.but bo (fun e => by have e : bss = brr := e; have := D_ss_rr.out; omega))
                            replace Uvv := hide (Uvv.out.but bo (fun e => by have e : bvv = brr := e; have := D_rr_vv.out; omega))
                            replace BB : Hid (Below w.heap.size w wv12) := BB.out.trans (bo.below BB.out.size (fun g hg e => by have e : g = brr := e; have := ZBrr.out; omega))
                            have EY := hide hY
                            have hwo' := hwo.symm
                            clear hwo bo hY Urr LXrr EXrr
                            have UV0 : Hid (CellsAt wv10 bvv 0 Y13) := by rw [show Y13 = Xvv from by rw [EY.out, EXvv.out]]; exact UVo.out
                            go_wp2_with (first | refine wpList_loadA rfl 32 18 aggVd sizVd _ rfl bvv 0 rfl Y13 LY.out UV0.out ?_ | (refine wpList_storeA rfl 32 18 sizVd _ _ rfl brr 0 rfl Y13 Xrr rfl LY.out LO.out CO.out FO.out OY.out ?_; intro hcs; clear hcs; rw [hwo']))
                            refine bodyPost_ret (v := .agg Y13.toArray) (results_A rfl _ _ brr _ rfl (run_loadVarA 32 18 aggVd sizVd brr 0 _ LY.out U1.out.1)) rfl ?_
                            exact ⟨by rw [EY.out, HRE.out], BB.out⟩
                          · have q1 : (k + j == (ln : Int)) = false := by simpa using hsum
                            have HS2 := hide hsum
                            clear hsum
                            have FV : Hid (finB c s = false) := by unfold Hid; rw [FB.out, decide_eq_false HS2.out]; rfl
                            obtain ⟨vo, so⟩ : ∃ v, wt.cell? ⟨bvv, 17, none⟩ = some v := by have h := Uvv.out.1 17 _ (List.getElem?_eq_getElem (by rw [LXvv.out]; decide)); rw [Nat.zero_add] at h; exact ⟨_, h⟩
                            have fo := Uvv.out.2.1 17
                            obtain ⟨wv10, hwo⟩ : ∃ w1, w1 = wt.setCell ⟨bvv, 17, none⟩ (.bool false) := ⟨_, rfl⟩
                            have bo : But (Only bvv) wt wv10 := by rw [hwo]; exact (But.refl (Only bvv) wt).setOf (b := bvv) rfl 17 _
                            obtain ⟨Y11, hY⟩ : ∃ X, X = ({ AVd with sk := k, tk := j, fin := false } : Vd).cells := ⟨_, rfl⟩
                            have LY : Hid (Y11.length = 18) := by rw [hY]; exact rfl
                            have U1 : Hid (Box wv10 bvv Y11) := by rw [hwo, hY]; have h := Uvv.out.one (k := 17) (by rw [LXvv.out]; decide) (.bool false); rw [EXvv.out] at h; exact h
                            replace Ucc := hide (Ucc.out.but bo (fun e => by have e : bcc = bvv := e; have := D_cc_vv.out; omega))
                            replace Uss := hide (Uss.out.but bo (fun e => by have e : bss = bvv := e; have := D_ss_vv.out; omega))
                            replace Urr := hide (Urr.out.but bo (fun e => by have e : brr = bvv := e; have := D_rr_vv.out; omega))
                            replace BB : Hid (Below w.heap.size w wv10) := BB.out.trans (bo.below BB.out.size (fun g hg e => by have e : g = bvv := e; have := ZBvv.out; omega))
                            have EY := hide hY
                            have hwo' := hwo.symm
                            clear hwo bo hY Uvv LXvv EXvv
                            go_upto_region 40 with fail
                            clear hwo' so fo
                            try clear vo
                            try clear Xvv
                            obtain ⟨Xvv, hXX⟩ : ∃ X, X = Y11 := ⟨_, rfl⟩
                            subst hXX
                            have Uvv := U1
                            have LXvv := LY
                            have EXvv := EY
                            clear U1 LY EY
                            clear i1 i2 i3
                            have UVo := hide Uvv.out.1
                            have RE : R = ({ AVd with sk := k, tk := j, fin := false } : Vd) := by rw [JT2.out, FV.out]
                            have HRE := hide RE
                            clear RE
                            obtain ⟨Y13, hY⟩ : ∃ X, X = (({ AVd with sk := k, tk := j, fin := false } : Vd) : Vd).cells := ⟨_, rfl⟩
                            have LY : Hid (Y13.length = 18) := by rw [hY]; exact rfl
                            have OY : Hid (∀ u ∈ Y13, u.oneCell' = true) := by rw [hY]; exact vd_one _
                            obtain ⟨wv12, hwo⟩ : ∃ w1, w1 = wv10.setCells brr 0 Y13 := ⟨_, rfl⟩
                            have bo : But (Only brr) wv10 wv12 := by rw [hwo]; exact But.cells brr Y13 0 wv10
                            have CO := hide Urr.out.1
                            have FO := hide Urr.out.2.1
                            have LO := LXrr
                            have U1 : Hid (Box wv12 brr Y13) := by rw [hwo]; exact Urr.out.all (by rw [LY.out, LXrr.out])
                            replace Ucc := hide (Ucc.out.but bo (fun e => by have e : bcc = brr := e; have := D_cc_rr.out; omega))
                            replace Uss := hide (Uss.out.but bo (fun e => by have e : bss = brr := e; have := D_ss_rr.out; omega))
                            replace Uvv := hide (Uvv.out.but bo (fun e => by have e : bvv = brr := e; have := D_rr_vv.out; omega))
                            replace BB : Hid (Below w.heap.size w wv12) := BB.out.trans (bo.below BB.out.size (fun g hg e => by have e : g = brr := e; have := ZBrr.out; omega))
                            have EY := hide hY
                            have hwo' := hwo.symm
                            clear hwo bo hY Urr LXrr EXrr
                            have UV0 : Hid (CellsAt wv10 bvv 0 Y13) := by rw [show Y13 = Xvv from by rw [EY.out, EXvv.out]]; exact UVo.out
                            go_wp2_with (first | refine wpList_loadA rfl 32 18 aggVd sizVd _ rfl bvv 0 rfl Y13 LY.out UV0.out ?_ | (refine wpList_storeA rfl 32 18 sizVd _ _ rfl brr 0 rfl Y13 Xrr rfl LY.out LO.out CO.out FO.out OY.out ?_; intro hcs; clear hcs; rw [hwo']))
                            refine bodyPost_ret (v := .agg Y13.toArray) (results_A rfl _ _ brr _ rfl (run_loadVarA 32 18 aggVd sizVd brr 0 _ LY.out U1.out.1)) rfl ?_
                            exact ⟨by rw [EY.out, HRE.out], BB.out⟩
                    · have ej : j = T := by omega
                      subst ej
                      go_wp2_with (refine wpList_loadA rfl 28 10 aggSg sizSg _ rfl bss 0 rfl Xss LXss.out Uss.out.1 ?_)
                      refine (H1.out _).mono ?_
                      rintro _ wv9 ⟨rfl, bz⟩
                      replace Ucc := hide (Ucc.out.later bz)
                      replace Uss := hide (Uss.out.later bz)
                      replace Urr := hide (Urr.out.later bz)
                      replace Uvv := hide (Uvv.out.later bz)
                      replace BB := hide (later BB.out bz)
                      clear bz
                      clear H1
                      go_upto_region 38 with fail
                      refine region_quiet_C (fun W => Below wv9.heap.size wv9 W) (by kernel_rfl) (by kernel_rfl) (later_drew _) ?_
                      go_big_quiet_want
                      refine quiet_pure (.pointer (some ⟨bss, 2, none⟩)) (fun W hW => exec_fieldO 28 _ 2 bss 0 2 rfl rfl (fun w => by kernel_rfl)) ?_
                      go_big_quiet_on
                      simp only [Act.put, List.setIfInBounds_toArray, List.set_cons_succ, List.set_cons_zero]
                      go_big_quiet_want
                      refine quiet_pure (.int .u32 s.seq) (fun W hW => exec_load1 22 one32 _ rfl bss 2 rfl (.int .u32 s.seq) (by have h := (Uss.out.later hW).1; rw [EXss.out] at h; exact h 2 _ rfl)) ?_
                      go_big_quiet_on
                      simp only [Act.put, List.setIfInBounds_toArray, List.set_cons_succ, List.set_cons_zero]
                      go_big_quiet_want
                      refine quiet_pure (.pointer (some ⟨bss, 9, none⟩)) (fun W hW => exec_fieldO 28 _ 9 bss 0 9 rfl rfl (fun w => by kernel_rfl)) ?_
                      go_big_quiet_on
                      simp only [Act.put, List.setIfInBounds_toArray, List.set_cons_succ, List.set_cons_zero]
                      go_big_quiet_want
                      refine quiet_pure (.slice da ln dc) (fun W hW => exec_load1 26 oneS _ rfl bss 9 rfl (.slice da ln dc) (by have h := (Uss.out.later hW).1; rw [EXss.out] at h; have h2 := h 9 _ rfl; rw [← HLN.out] at h2; exact h2)) ?_
                      go_big_quiet_on
                      simp only [Act.put, List.setIfInBounds_toArray, List.set_cons_succ, List.set_cons_zero]
                      go_big_quiet_want
                      refine quiet_pure (.int .i64 (ln : Int)) (fun W hW => exec_len _ _ _ _ _ (by kernel_rfl) rfl rfl) ?_
                      go_big_quiet_on
                      simp only [Act.put, List.setIfInBounds_toArray, List.set_cons_succ, List.set_cons_zero]
                      go_big_quiet_want
                      refine quiet_pure (.int .u32 ((ln : Int) % 4294967296)) (fun W hW => exec_cv32 _ _ rfl rfl) ?_
                      go_big_quiet_on
                      simp only [Act.put, List.setIfInBounds_toArray, List.set_cons_succ, List.set_cons_zero]
                      go_big_quiet_want
                      refine quiet_pure (.int .u32 ((s.seq + (ln : Int)) % 4294967296)) (fun W hW => by rw [show (s.seq + (ln : Int)) % 4294967296 = (s.seq + (ln : Int) % 4294967296) % 4294967296 by omega]; exact exec_addu _ _ _ _ _ rfl rfl rfl) ?_
                      go_big_quiet_on
                      simp only [Act.put, List.setIfInBounds_toArray, List.set_cons_succ, List.set_cons_zero]
                      go_big_quiet_want
                      refine quiet_pure (.pointer (some ⟨bcc, 9, none⟩)) (fun W hW => exec_fieldO 24 _ 9 bcc 0 9 rfl rfl (fun w => by kernel_rfl)) ?_
                      go_big_quiet_on
                      simp only [Act.put, List.setIfInBounds_toArray, List.set_cons_succ, List.set_cons_zero]
                      go_big_quiet_want
                      refine quiet_pure (.int .u32 c.rcv) (fun W hW => exec_load1 22 one32 _ rfl bcc 9 rfl (.int .u32 c.rcv) (by have h := (Ucc.out.later hW).1; rw [EXcc.out] at h; exact h 9 _ rfl)) ?_
                      go_big_quiet_on
                      simp only [Act.put, List.setIfInBounds_toArray, List.set_cons_succ, List.set_cons_zero]
                      go_big_quiet_want
                      refine quiet_pure (.agg (c.cells).toArray) (fun W hW => exec_loadA 24 11 aggCt sizCt _ rfl bcc 0 rfl (c.cells) rfl (by have h := (Ucc.out.later hW).1; rw [EXcc.out] at h; exact h)) ?_
                      go_big_quiet_on
                      simp only [Act.put, List.setIfInBounds_toArray, List.set_cons_succ, List.set_cons_zero]
                      go_big_quiet_want
                      refine quiet_call 29 #[.agg c.cells.toArray] (.int .i64 (rwin c)) (fun _ => by simp [Act.eval, go_sem]) (fun W hW => (WD.out W).mono fun e w' h => ⟨h.1, later hW h.2⟩) ?_
                      go_big_quiet_on
                      simp only [Act.put, List.setIfInBounds_toArray, List.set_cons_succ, List.set_cons_zero]
                      go_big_quiet_want
                      refine quiet_call 22 #[.int .u32 ((s.seq + (ln : Int)) % 4294967296), .int .u32 c.rcv, .int .i64 (rwin c)] (.bool (wanted c ((s.seq + (ln : Int)) % 4294967296))) (fun _ => by simp [Act.eval, go_sem]) (fun W hW => (IW.out _ W (by unfold u32In; omega)).mono fun e w' h => ⟨h.1, by rw [h.2]; exact hW⟩) ?_
                      go_big_quiet_on
                      simp only [Act.put, List.setIfInBounds_toArray, List.set_cons_succ, List.set_cons_zero]
                      go_big_quiet_step (fail)
                      refine wpQuiet_nil ?_
                      intro wq bq
                      obtain ⟨wt, hwt⟩ : ∃ wt, wt = wq := ⟨_, rfl⟩
                      rw [← hwt] at bq ⊢
                      clear hwt
                      replace Ucc := hide (Ucc.out.later bq)
                      replace Uss := hide (Uss.out.later bq)
                      replace Urr := hide (Urr.out.later bq)
                      replace Uvv := hide (Uvv.out.later bq)
                      replace BB := hide (later BB.out bq)
                      clear bq
                      obtain ⟨its, hits⟩ : ∃ b, b = wanted c ((s.seq + (ln : Int)) % 4294967296) := ⟨_, rfl⟩
                      rw [← hits] at FB ⊢
                      clear hits
                      have i1 : wt.cell? ⟨bvv, 15, none⟩ = some (.int .i64 k) := by have h := Uvv.out.1 15 (.int .i64 k) (by rw [EXvv.out]; rfl); rw [Nat.zero_add] at h; exact h
                      have i2 : wt.cell? ⟨bvv, 16, none⟩ = some (.int .i64 j) := by have h := Uvv.out.1 16 (.int .i64 j) (by rw [EXvv.out]; rfl); rw [Nat.zero_add] at h; exact h
                      have i3 : wt.cell? ⟨bss, 9, none⟩ = some (.slice da s.dat.length dc) := by have h := Uss.out.1 9 (.slice da s.dat.length dc) (by rw [EXss.out]; rfl); rw [Nat.zero_add] at h; exact h
                      rw [← HLN.out] at i3
                      cases h1 with
                      | false =>
                        have FV : Hid (finB c s = false) := by unfold Hid; rw [FB.out]; rfl
                        obtain ⟨vo, so⟩ : ∃ v, wt.cell? ⟨bvv, 17, none⟩ = some v := by have h := Uvv.out.1 17 _ (List.getElem?_eq_getElem (by rw [LXvv.out]; decide)); rw [Nat.zero_add] at h; exact ⟨_, h⟩
                        have fo := Uvv.out.2.1 17
                        obtain ⟨wv10, hwo⟩ : ∃ w1, w1 = wt.setCell ⟨bvv, 17, none⟩ (.bool false) := ⟨_, rfl⟩
                        have bo : But (Only bvv) wt wv10 := by rw [hwo]; exact (But.refl (Only bvv) wt).setOf (b := bvv) rfl 17 _
                        obtain ⟨Y11, hY⟩ : ∃ X, X = ({ AVd with sk := k, tk := j, fin := false } : Vd).cells := ⟨_, rfl⟩
                        have LY : Hid (Y11.length = 18) := by rw [hY]; exact rfl
                        have U1 : Hid (Box wv10 bvv Y11) := by rw [hwo, hY]; have h := Uvv.out.one (k := 17) (by rw [LXvv.out]; decide) (.bool false); rw [EXvv.out] at h; exact h
                        replace Ucc := hide (Ucc.out.but bo (fun e => by have e : bcc = bvv := e; have := D_cc_vv.out; omega))
                        replace Uss := hide (Uss.out.but bo (fun e => by have e : bss = bvv := e; have := D_ss_vv.out; omega))
                        replace Urr := hide (Urr.out.but bo (fun e => by have e : brr = bvv := e; have := D_rr_vv.out; omega))
                        replace BB : Hid (Below w.heap.size w wv10) := BB.out.trans (bo.below BB.out.size (fun g hg e => by have e : g = bvv := e; have := ZBvv.out; omega))
                        have EY := hide hY
                        have hwo' := hwo.symm
                        clear hwo bo hY Uvv LXvv EXvv
                        go_upto_region 40 with fail
                        clear hwo' so fo
                        try clear vo
                        try clear Xvv
                        obtain ⟨Xvv, hXX⟩ : ∃ X, X = Y11 := ⟨_, rfl⟩
                        subst hXX
                        have Uvv := U1
                        have LXvv := LY
                        have EXvv := EY
                        clear U1 LY EY
                        clear i1 i2 i3
                        have UVo := hide Uvv.out.1
                        have RE : R = ({ AVd with sk := k, tk := j, fin := false } : Vd) := by rw [JT2.out, FV.out]
                        have HRE := hide RE
                        clear RE
                        obtain ⟨Y13, hY⟩ : ∃ X, X = (({ AVd with sk := k, tk := j, fin := false } : Vd) : Vd).cells := ⟨_, rfl⟩
                        have LY : Hid (Y13.length = 18) := by rw [hY]; exact rfl
                        have OY : Hid (∀ u ∈ Y13, u.oneCell' = true) := by rw [hY]; exact vd_one _
                        obtain ⟨wv12, hwo⟩ : ∃ w1, w1 = wv10.setCells brr 0 Y13 := ⟨_, rfl⟩
                        have bo : But (Only brr) wv10 wv12 := by rw [hwo]; exact But.cells brr Y13 0 wv10
                        have CO := hide Urr.out.1
                        have FO := hide Urr.out.2.1
                        have LO := LXrr
                        have U1 : Hid (Box wv12 brr Y13) := by rw [hwo]; exact Urr.out.all (by rw [LY.out, LXrr.out])
                        replace Ucc := hide (Ucc.out.but bo (fun e => by have e : bcc = brr := e; have := D_cc_rr.out; omega))
                        replace Uss := hide (Uss.out.but bo (fun e => by have e : bss = brr := e; have := D_ss_rr.out; omega))
                        replace Uvv := hide (Uvv.out.but bo (fun e => by have e : bvv = brr := e; have := D_rr_vv.out; omega))
                        replace BB : Hid (Below w.heap.size w wv12) := BB.out.trans (bo.below BB.out.size (fun g hg e => by have e : g = brr := e; have := ZBrr.out; omega))
                        have EY := hide hY
                        have hwo' := hwo.symm
                        clear hwo bo hY Urr LXrr EXrr
                        have UV0 : Hid (CellsAt wv10 bvv 0 Y13) := by rw [show Y13 = Xvv from by rw [EY.out, EXvv.out]]; exact UVo.out
                        go_wp2_with (first | refine wpList_loadA rfl 32 18 aggVd sizVd _ rfl bvv 0 rfl Y13 LY.out UV0.out ?_ | (refine wpList_storeA rfl 32 18 sizVd _ _ rfl brr 0 rfl Y13 Xrr rfl LY.out LO.out CO.out FO.out OY.out ?_; intro hcs; clear hcs; rw [hwo']))
                        refine bodyPost_ret (v := .agg Y13.toArray) (results_A rfl _ _ brr _ rfl (run_loadVarA 32 18 aggVd sizVd brr 0 _ LY.out U1.out.1)) rfl ?_
                        exact ⟨by rw [EY.out, HRE.out], BB.out⟩
                      | true =>
                        by_cases hsum : k + j = ln
                        · have q1 : (k + j == (ln : Int)) = true := by simpa using hsum
                          have HS2 := hide hsum
                          clear hsum
                          have FV : Hid (finB c s = its) := by unfold Hid; rw [FB.out, decide_eq_true HS2.out]; rfl
                          obtain ⟨vo, so⟩ : ∃ v, wt.cell? ⟨bvv, 17, none⟩ = some v := by have h := Uvv.out.1 17 _ (List.getElem?_eq_getElem (by rw [LXvv.out]; decide)); rw [Nat.zero_add] at h; exact ⟨_, h⟩
                          have fo := Uvv.out.2.1 17
                          obtain ⟨wv10, hwo⟩ : ∃ w1, w1 = wt.setCell ⟨bvv, 17, none⟩ (.bool its) := ⟨_, rfl⟩
                          have bo : But (Only bvv) wt wv10 := by rw [hwo]; exact (But.refl (Only bvv) wt).setOf (b := bvv) rfl 17 _
                          obtain ⟨Y11, hY⟩ : ∃ X, X = ({ AVd with sk := k, tk := j, fin := its } : Vd).cells := ⟨_, rfl⟩
                          have LY : Hid (Y11.length = 18) := by rw [hY]; exact rfl
                          have U1 : Hid (Box wv10 bvv Y11) := by rw [hwo, hY]; have h := Uvv.out.one (k := 17) (by rw [LXvv.out]; decide) (.bool its); rw [EXvv.out] at h; exact h
                          replace Ucc := hide (Ucc.out.but bo (fun e => by have e : bcc = bvv := e; have := D_cc_vv.out; omega))
                          replace Uss := hide (Uss.out.but bo (fun e => by have e : bss = bvv := e; have := D_ss_vv.out; omega))
                          replace Urr := hide (Urr.out.but bo (fun e => by have e : brr = bvv := e; have := D_rr_vv.out; omega))
                          replace BB : Hid (Below w.heap.size w wv10) := BB.out.trans (bo.below BB.out.size (fun g hg e => by have e : g = bvv := e; have := ZBvv.out; omega))
                          have EY := hide hY
                          have hwo' := hwo.symm
                          clear hwo bo hY Uvv LXvv EXvv
                          go_upto_region 40 with fail
                          clear hwo' so fo
                          try clear vo
                          try clear Xvv
                          obtain ⟨Xvv, hXX⟩ : ∃ X, X = Y11 := ⟨_, rfl⟩
                          subst hXX
                          have Uvv := U1
                          have LXvv := LY
                          have EXvv := EY
                          clear U1 LY EY
                          clear i1 i2 i3
                          have UVo := hide Uvv.out.1
                          have RE : R = ({ AVd with sk := k, tk := j, fin := its } : Vd) := by rw [JT2.out, FV.out]
                          have HRE := hide RE
                          clear RE
                          obtain ⟨Y13, hY⟩ : ∃ X, X = (({ AVd with sk := k, tk := j, fin := its } : Vd) : Vd).cells := ⟨_, rfl⟩
                          have LY : Hid (Y13.length = 18) := by rw [hY]; exact rfl
                          have OY : Hid (∀ u ∈ Y13, u.oneCell' = true) := by rw [hY]; exact vd_one _
                          obtain ⟨wv12, hwo⟩ : ∃ w1, w1 = wv10.setCells brr 0 Y13 := ⟨_, rfl⟩
                          have bo : But (Only brr) wv10 wv12 := by rw [hwo]; exact But.cells brr Y13 0 wv10
                          have CO := hide Urr.out.1
                          have FO := hide Urr.out.2.1
                          have LO := LXrr
                          have U1 : Hid (Box wv12 brr Y13) := by rw [hwo]; exact Urr.out.all (by rw [LY.out, LXrr.out])
                          replace Ucc := hide (Ucc.out.but bo (fun e => by have e : bcc = brr := e; have := D_cc_rr.out; omega))
                          replace Uss := hide (Uss.out.but bo (fun e => by have e : bss = brr := e; have := D_ss_rr.out; omega))
                          replace Uvv := hide (Uvv.out.but bo (fun e => by have e : bvv = brr := e; have := D_rr_vv.out; omega))
                          replace BB : Hid (Below w.heap.size w wv12) := BB.out.trans (bo.below BB.out.size (fun g hg e => by have e : g = brr := e; have := ZBrr.out; omega))
                          have EY := hide hY
                          have hwo' := hwo.symm
                          clear hwo bo hY Urr LXrr EXrr
                          have UV0 : Hid (CellsAt wv10 bvv 0 Y13) := by rw [show Y13 = Xvv from by rw [EY.out, EXvv.out]]; exact UVo.out
                          go_wp2_with (first | refine wpList_loadA rfl 32 18 aggVd sizVd _ rfl bvv 0 rfl Y13 LY.out UV0.out ?_ | (refine wpList_storeA rfl 32 18 sizVd _ _ rfl brr 0 rfl Y13 Xrr rfl LY.out LO.out CO.out FO.out OY.out ?_; intro hcs; clear hcs; rw [hwo']))
                          refine bodyPost_ret (v := .agg Y13.toArray) (results_A rfl _ _ brr _ rfl (run_loadVarA 32 18 aggVd sizVd brr 0 _ LY.out U1.out.1)) rfl ?_
                          exact ⟨by rw [EY.out, HRE.out], BB.out⟩
                        · have q1 : (k + j == (ln : Int)) = false := by simpa using hsum
                          have HS2 := hide hsum
                          clear hsum
                          have FV : Hid (finB c s = false) := by unfold Hid; rw [FB.out, decide_eq_false HS2.out]; rfl
                          obtain ⟨vo, so⟩ : ∃ v, wt.cell? ⟨bvv, 17, none⟩ = some v := by have h := Uvv.out.1 17 _ (List.getElem?_eq_getElem (by rw [LXvv.out]; decide)); rw [Nat.zero_add] at h; exact ⟨_, h⟩
                          have fo := Uvv.out.2.1 17
                          obtain ⟨wv10, hwo⟩ : ∃ w1, w1 = wt.setCell ⟨bvv, 17, none⟩ (.bool false) := ⟨_, rfl⟩
                          have bo : But (Only bvv) wt wv10 := by rw [hwo]; exact (But.refl (Only bvv) wt).setOf (b := bvv) rfl 17 _
                          obtain ⟨Y11, hY⟩ : ∃ X, X = ({ AVd with sk := k, tk := j, fin := false } : Vd).cells := ⟨_, rfl⟩
                          have LY : Hid (Y11.length = 18) := by rw [hY]; exact rfl
                          have U1 : Hid (Box wv10 bvv Y11) := by rw [hwo, hY]; have h := Uvv.out.one (k := 17) (by rw [LXvv.out]; decide) (.bool false); rw [EXvv.out] at h; exact h
                          replace Ucc := hide (Ucc.out.but bo (fun e => by have e : bcc = bvv := e; have := D_cc_vv.out; omega))
                          replace Uss := hide (Uss.out.but bo (fun e => by have e : bss = bvv := e; have := D_ss_vv.out; omega))
                          replace Urr := hide (Urr.out.but bo (fun e => by have e : brr = bvv := e; have := D_rr_vv.out; omega))
                          replace BB : Hid (Below w.heap.size w wv10) := BB.out.trans (bo.below BB.out.size (fun g hg e => by have e : g = bvv := e; have := ZBvv.out; omega))
                          have EY := hide hY
                          have hwo' := hwo.symm
                          clear hwo bo hY Uvv LXvv EXvv
                          go_upto_region 40 with fail
                          clear hwo' so fo
                          try clear vo
                          try clear Xvv
                          obtain ⟨Xvv, hXX⟩ : ∃ X, X = Y11 := ⟨_, rfl⟩
                          subst hXX
                          have Uvv := U1
                          have LXvv := LY
                          have EXvv := EY
                          clear U1 LY EY
                          clear i1 i2 i3
                          have UVo := hide Uvv.out.1
                          have RE : R = ({ AVd with sk := k, tk := j, fin := false } : Vd) := by rw [JT2.out, FV.out]
                          have HRE := hide RE
                          clear RE
                          obtain ⟨Y13, hY⟩ : ∃ X, X = (({ AVd with sk := k, tk := j, fin := false } : Vd) : Vd).cells := ⟨_, rfl⟩
                          have LY : Hid (Y13.length = 18) := by rw [hY]; exact rfl
                          have OY : Hid (∀ u ∈ Y13, u.oneCell' = true) := by rw [hY]; exact vd_one _
                          obtain ⟨wv12, hwo⟩ : ∃ w1, w1 = wv10.setCells brr 0 Y13 := ⟨_, rfl⟩
                          have bo : But (Only brr) wv10 wv12 := by rw [hwo]; exact But.cells brr Y13 0 wv10
                          have CO := hide Urr.out.1
                          have FO := hide Urr.out.2.1
                          have LO := LXrr
                          have U1 : Hid (Box wv12 brr Y13) := by rw [hwo]; exact Urr.out.all (by rw [LY.out, LXrr.out])
                          replace Ucc := hide (Ucc.out.but bo (fun e => by have e : bcc = brr := e; have := D_cc_rr.out; omega))
                          replace Uss := hide (Uss.out.but bo (fun e => by have e : bss = brr := e; have := D_ss_rr.out; omega))
                          replace Uvv := hide (Uvv.out.but bo (fun e => by have e : bvv = brr := e; have := D_rr_vv.out; omega))
                          replace BB : Hid (Below w.heap.size w wv12) := BB.out.trans (bo.below BB.out.size (fun g hg e => by have e : g = brr := e; have := ZBrr.out; omega))
                          have EY := hide hY
                          have hwo' := hwo.symm
                          clear hwo bo hY Urr LXrr EXrr
                          have UV0 : Hid (CellsAt wv10 bvv 0 Y13) := by rw [show Y13 = Xvv from by rw [EY.out, EXvv.out]]; exact UVo.out
                          go_wp2_with (first | refine wpList_loadA rfl 32 18 aggVd sizVd _ rfl bvv 0 rfl Y13 LY.out UV0.out ?_ | (refine wpList_storeA rfl 32 18 sizVd _ _ rfl brr 0 rfl Y13 Xrr rfl LY.out LO.out CO.out FO.out OY.out ?_; intro hcs; clear hcs; rw [hwo']))
                          refine bodyPost_ret (v := .agg Y13.toArray) (results_A rfl _ _ brr _ rfl (run_loadVarA 32 18 aggVd sizVd brr 0 _ LY.out U1.out.1)) rfl ?_
                          exact ⟨by rw [EY.out, HRE.out], BB.out⟩
end
end Go.Proofs.Ytgdcdgofahhfdaa
