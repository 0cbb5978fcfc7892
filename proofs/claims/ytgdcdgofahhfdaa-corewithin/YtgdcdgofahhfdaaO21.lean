
/-
  CoreWithin: the walk.
-/
import Derived.Test.YtgdcdgofahhfdaaO14
import Derived.Test.YtgdcdgofahhfdaaO20
namespace Go.Proofs.Ytgdcdgofahhfdaa
open Go.RowKit Go.Shelf

set_option maxRecDepth 100000 in
set_option maxHeartbeats 32000000 in
theorem within_walk (c : Ct) (s : Sg) (gv dv : Value) (w : World) (hc : c.Ok) (hs : SgIn w s gv dv) :
    Calls Try.prog 5 #[.agg c.cells.toArray, .agg (s.cells gv dv).toArray] w fun e w' => e = .returned (.bool true) ∧ Below w.heap.size w w' := by
  obtain ⟨ga, gc, rfl⟩ := hs.got.shape
  obtain ⟨da, dc, rfl, _⟩ := hs.dat.shape
  obtain ⟨w1, w2, bcc, bss, hs1, hw1, hs2, hw2, u1, u2, n12, z1, b2⟩ := boxCS w c s (.slice ga s.got.length gc) (.slice da s.dat.length dc)
  rw [show (Value.agg c.cells.toArray) = .agg #[.int .i64 c.st, .int .u32 c.iss, .int .u32 c.una, .int .u32 c.nxt, .bool c.fs, .int .i64 c.wnd, .int .u32 c.wl1, .int .u32 c.wl2, .int .u32 c.irs, .int .u32 c.rcv, .int .u32 c.adv] from rfl]
  rw [show (Value.agg (s.cells (.slice ga s.got.length gc) (.slice da s.dat.length dc)).toArray) = .agg #[.int .i64 s.src, .int .i64 s.dst, .int .u32 s.seq, .int .u32 s.ack, .int .i64 s.flg, .int .i64 s.wnd, .int .i64 s.mss, .bool s.sak, .slice ga s.got.length gc, .slice da s.dat.length dc] from rfl]
  have BB := hide b2
  have HC := hide hc
  have HS := hide hs
  have ZBcc : Hid (w.heap.size ≤ bcc) := z1
  have D_cc_ss : Hid (bcc < bss) := n12
  obtain ⟨Xcc, hXcc⟩ : ∃ X, X = c.cells := ⟨_, rfl⟩
  have LXcc : Hid (Xcc.length = 11) := by rw [hXcc]; exact rfl
  have Ucc : Hid (Box w2 bcc Xcc) := by rw [hXcc]; exact u1
  have EXcc := hide hXcc
  clear hXcc
  obtain ⟨Xss, hXss⟩ : ∃ X, X = s.cells (.slice ga s.got.length gc) (.slice da s.dat.length dc) := ⟨_, rfl⟩
  have LXss : Hid (Xss.length = 10) := by rw [hXss]; exact rfl
  have Uss : Hid (Box w2 bss Xss) := by rw [hXss]; exact u2
  have EXss := hide hXss
  clear hXss
  have hs1' := hs1.symm
  have hw1' := hw1.symm
  have hs2' := hs2.symm
  have hw2' := hw2.symm
  clear hs1 hw1 hs2 hw2 u1 u2 n12 z1 b2 hc hs
  go_enter Try.func5, Try.ntmps5
  go_upto_region 1 with fail
  clear hs1' hw1' hs2' hw2'
  go_wp2_with fail
  refine (cAwake_any w2).mono ?_
  rintro _ wv1 ⟨rfl, bz⟩
  replace Ucc := hide (Ucc.out.later bz)
  replace Uss := hide (Uss.out.later bz)
  replace BB := hide (later BB.out bz)
  clear bz
  obtain ⟨fl, hfl⟩ : ∃ fl, fl = dif c.nxt c.una := ⟨_, rfl⟩
  obtain ⟨wn, hwn⟩ : ∃ wn, wn = dif c.adv c.rcv := ⟨_, rfl⟩
  have D1 := rDiff_any c.nxt c.una HC.out.nxt HC.out.una wv1
  have D2 := rDiff_any c.adv c.rcv HC.out.adv HC.out.rcv wv1
  rw [← hfl] at D1
  rw [← hwn] at D2
  have HD1 := hide D1
  have HD2 := hide D2
  have HFL := hide hfl
  have HWN := hide hwn
  clear D1 D2 hfl hwn
  have k1 : wv1.cell? ⟨bcc, 3, none⟩ = some (.int .u32 c.nxt) := by have h := Ucc.out.1 3 (.int .u32 c.nxt) (by rw [EXcc.out]; rfl); rw [Nat.zero_add] at h; exact h
  have k2 : wv1.cell? ⟨bcc, 2, none⟩ = some (.int .u32 c.una) := by have h := Ucc.out.1 2 (.int .u32 c.una) (by rw [EXcc.out]; rfl); rw [Nat.zero_add] at h; exact h
  have k3 : wv1.cell? ⟨bcc, 10, none⟩ = some (.int .u32 c.adv) := by have h := Ucc.out.1 10 (.int .u32 c.adv) (by rw [EXcc.out]; rfl); rw [Nat.zero_add] at h; exact h
  have k4 : wv1.cell? ⟨bcc, 9, none⟩ = some (.int .u32 c.rcv) := by have h := Ucc.out.1 9 (.int .u32 c.rcv) (by rw [EXcc.out]; rfl); rw [Nat.zero_add] at h; exact h
  go_wp2_with fail
  refine HD1.out.mono ?_
  rintro _ wx ⟨rfl, hwx⟩
  rw [hwx]
  clear hwx wx
  clear HD1
  go_wp2_with fail
  refine HD2.out.mono ?_
  rintro _ wx ⟨rfl, hwx⟩
  rw [hwx]
  clear hwx wx
  clear HD2 k1 k2 k3 k4
  have k1 : wv1.cell? ⟨bss, 4, none⟩ = some (.int .i64 s.flg) := by have h := Uss.out.1 4 (.int .i64 s.flg) (by rw [EXss.out]; rfl); rw [Nat.zero_add] at h; exact h
  have k2 : wv1.cell? ⟨bss, 9, none⟩ = some (.slice da s.dat.length dc) := by have h := Uss.out.1 9 (.slice da s.dat.length dc) (by rw [EXss.out]; rfl); rw [Nat.zero_add] at h; exact h
  obtain ⟨ln, hln⟩ : ∃ ln, ln = s.dat.length := ⟨_, rfl⟩
  have HLN := hide hln
  rw [← hln] at k2
  clear hln
  by_cases q1 : fl < 0
  · go_wp2
    go_ret
    exact ⟨rfl, BB.out⟩
  by_cases q2 : wn < 0
  · go_wp2
    go_ret
    exact ⟨rfl, BB.out⟩
  by_cases q3 : s.flg < 0
  · go_wp2
    go_ret
    exact ⟨rfl, BB.out⟩
  by_cases q4 : 31 < s.flg
  · go_wp2
    go_ret
    exact ⟨rfl, BB.out⟩
  by_cases q5 : 2000 < (ln : Int)
  · go_wp2
    go_ret
    exact ⟨rfl, BB.out⟩
  go_upto_region 6 with fail
  clear k1 k2
  have fl0 : 0 ≤ s.flg := by omega
  have fl1 : s.flg ≤ 31 := by omega
  have f0 : 0 ≤ fl := by omega
  have wn0 : 0 ≤ wn := by omega
  have ln0 : (ln : Int) ≤ 2000 := by omega
  clear q1 q2 q3 q4 q5
  obtain ⟨v, hv⟩ : ∃ v, v = judge c s := ⟨_, rfl⟩
  have WI : c.st ≠ 1 → Wi c s v := fun h => by rw [hv]; exact judge_wi HC.out HS.out.ok h (by rw [← HFL.out]; exact f0) (by rw [← HWN.out]; exact wn0) (by have := HS.out.datl; omega)
  have WS := fun h => judge_ws (c := c) (s := s) h
  rw [← hv] at WS
  have HWI := hide WI
  have HWS := hide WS
  have JD := Judge_any (gv := .slice ga s.got.length gc) (da := da) (dc := dc) (s := s) c rfl (by have := HS.out.datl; omega) wv1
  rw [← hv, ← EXcc.out, ← EXss.out] at JD
  have HJD := hide JD
  clear JD hv WI WS
  go_wp2_with (first | refine wpList_loadA rfl 24 11 aggCt sizCt _ rfl bcc 0 rfl Xcc LXcc.out Ucc.out.1 ?_ | refine wpList_loadA rfl 28 10 aggSg sizSg _ rfl bss 0 rfl Xss LXss.out Uss.out.1 ?_)
  refine HJD.out.mono ?_
  rintro _ wv2 ⟨rfl, bz⟩
  replace Ucc := hide (Ucc.out.later bz)
  replace Uss := hide (Uss.out.later bz)
  replace BB := hide (later BB.out bz)
  clear bz
  clear HJD
  obtain ⟨Xv, hXv⟩ : ∃ X, X = v.cells := ⟨_, rfl⟩
  have LXv : Hid (Xv.length = 18) := by rw [hXv]; exact rfl
  have OXv : Hid (∀ u ∈ Xv, u.oneCell' = true) := by rw [hXv]; exact vd_one _
  try rw [← hXv]
  obtain ⟨uv4, wv3, huv, hwv, cuv, fuv, ccv, bzv, lzv, ffv⟩ := newVd wv2 Xv LXv.out
  obtain ⟨bv, hbv⟩ : ∃ b, b = wv2.heap.size := ⟨_, rfl⟩
  rw [← hbv] at hwv cuv fuv ccv lzv ffv
  have EXv := hide hXv
  have D_cc_v : Hid (bcc < bv) := by have h := Ucc.out.2.2; unfold Hid; omega
  have D_ss_v : Hid (bss < bv) := by have h := Uss.out.2.2; unfold Hid; omega
  have ZBv : Hid (w.heap.size ≤ bv) := by have h := BB.out.size; unfold Hid; omega
  replace Ucc := hide (Ucc.out.later bzv)
  replace Uss := hide (Uss.out.later bzv)
  replace BB := hide (later BB.out bzv)
  have Uv : Hid (Box wv3 bv Xv) := ⟨ccv, ffv, lzv⟩
  have CUv := hide cuv
  have FUv := hide fuv
  have huv' := huv.symm
  simp only [zVdL, zVd, zCt, Vd.cells] at huv'
  have hwv' := hwv.symm
  have hbv' := hbv.symm
  clear hXv huv hwv cuv fuv ccv bzv lzv hbv ffv
  go_upto_region 7 with (refine wpList_storeA rfl 32 18 sizVd _ _ rfl bv 0 rfl Xv zVdL rfl LXv.out rfl CUv.out FUv.out OXv.out ?_; intro hcs; clear hcs; rw [hwv'])
  clear huv' hwv' hbv' CUv FUv OXv
  have UNo := hide Uv.out.1
  obtain ⟨Xnn, hXnn⟩ : ∃ X, X = v.nx.cells := ⟨_, rfl⟩
  have LXnn : Hid (Xnn.length = 11) := by rw [hXnn]; exact rfl
  have OXnn : Hid (∀ u ∈ Xnn, u.oneCell' = true) := by rw [hXnn]; exact ct_one _
  try rw [← hXnn]
  obtain ⟨uv6, wv5, hunn, hwnn, cunn, funn, ccnn, bznn, lznn, ffnn⟩ := newCt wv3 Xnn LXnn.out
  obtain ⟨bnn, hbnn⟩ : ∃ b, b = wv3.heap.size := ⟨_, rfl⟩
  rw [← hbnn] at hwnn cunn funn ccnn lznn ffnn
  have EXnn := hide hXnn
  have D_cc_nn : Hid (bcc < bnn) := by have h := Ucc.out.2.2; unfold Hid; omega
  have D_ss_nn : Hid (bss < bnn) := by have h := Uss.out.2.2; unfold Hid; omega
  have D_v_nn : Hid (bv < bnn) := by have h := Uv.out.2.2; unfold Hid; omega
  have ZBnn : Hid (w.heap.size ≤ bnn) := by have h := BB.out.size; unfold Hid; omega
  replace Ucc := hide (Ucc.out.later bznn)
  replace Uss := hide (Uss.out.later bznn)
  replace Uv := hide (Uv.out.later bznn)
  replace BB := hide (later BB.out bznn)
  have Unn : Hid (Box wv5 bnn Xnn) := ⟨ccnn, ffnn, lznn⟩
  have CUnn := hide cunn
  have FUnn := hide funn
  have hunn' := hunn.symm
  simp only [zCtL, zCt, Ct.cells] at hunn'
  have hwnn' := hwnn.symm
  have hbnn' := hbnn.symm
  clear hXnn hunn hwnn cunn funn ccnn bznn lznn hbnn ffnn
  have UN : Hid (CellsAt wv3 bv 0 Xnn) := by have h := UNo.out; rw [EXv.out, Vd.parts] at h; rw [EXnn.out]; exact (CellsAt.append.1 h).1
  go_upto_region 8 with (first | refine wpList_loadA rfl 24 11 aggCt sizCt _ rfl bv 0 rfl Xnn LXnn.out UN.out ?_ | (refine wpList_storeA rfl 24 11 sizCt _ _ rfl bnn 0 rfl Xnn zCtL rfl LXnn.out rfl CUnn.out FUnn.out OXnn.out ?_; intro hcs; clear hcs; rw [hwnn']))
  clear UN UNo
  clear hunn' hwnn' hbnn' CUnn FUnn OXnn
  obtain ⟨r4, hr4⟩ : ∃ r, r = hasB s.flg 4 := ⟨_, rfl⟩
  have q0 : (s.flg / 4 % 2 == 1) = r4 := by rw [hr4]; rfl
  have R4 := hide hr4
  clear hr4
  have k1 : wv5.cell? ⟨bss, 4, none⟩ = some (.int .i64 s.flg) := by have h := Uss.out.1 4 (.int .i64 s.flg) (by rw [EXss.out]; rfl); rw [Nat.zero_add] at h; exact h
  go_upto_region 9 with fail
  clear k1 q0
  have k1 : wv5.cell? ⟨bv, 11, none⟩ = some (.int .i64 v.rep) := by have h := Uv.out.1 11 (.int .i64 v.rep) (by rw [EXv.out]; rfl); rw [Nat.zero_add] at h; exact h
  have k2 : wv5.cell? ⟨bcc, 0, none⟩ = some (.int .i64 c.st) := by have h := Ucc.out.1 0 (.int .i64 c.st) (by rw [EXcc.out]; rfl); rw [Nat.zero_add] at h; exact h
  have RP : Hid (r4 = true → v.rep ≠ 2 ∧ (c.st = 1 → v.rep = 0)) := fun h => by
    rw [R4.out] at h
    by_cases e : c.st = 1
    · have := (HWS.out e).1 h
      exact ⟨by omega, fun _ => this⟩
    · exact ⟨(HWI.out e).rep h, fun k => absurd k e⟩
  go_cut [83] from 65 to 83 (fun u wx => u = .bool false ∧ wv5 = wx)
  case first =>
    cases r4 with
    | false =>
      go_wp2
      go_meet
      exact ⟨rfl, rfl⟩
    | true =>
      obtain ⟨e1, e2⟩ := RP.out rfl
      have q1 : (v.rep == 2) = false := by simpa using e1
      by_cases e : c.st = 1
      · have q2 : v.rep = 0 := e2 e
        rw [q2] at k1
        have q3 : (c.st == 1) = true := by simpa using e
        clear e1 e2 q1 q2 e
        go_wp2
        go_meet
        exact ⟨rfl, rfl⟩
      · have q3 : (c.st == 1) = false := by simpa using e
        clear e1 e2 e
        go_wp2
        go_meet
        exact ⟨rfl, rfl⟩
  case rest =>
    obtain ⟨rfl, hcw⟩ := hcut
    subst hcw
    clear k1 RP
    by_cases e1 : c.st = 1
    · obtain ⟨_, s1, s2, s3, s4, s5⟩ := HWS.out e1
      have j1 : wv5.cell? ⟨bv, 16, none⟩ = some (.int .i64 v.tk) := by have h := Uv.out.1 16 (.int .i64 v.tk) (by rw [EXv.out]; rfl); rw [Nat.zero_add] at h; exact h
      have j2 : wv5.cell? ⟨bv, 15, none⟩ = some (.int .i64 v.sk) := by have h := Uv.out.1 15 (.int .i64 v.sk) (by rw [EXv.out]; rfl); rw [Nat.zero_add] at h; exact h
      have j3 : wv5.cell? ⟨bv, 17, none⟩ = some (.bool v.fin) := by have h := Uv.out.1 17 (.bool v.fin) (by rw [EXv.out]; rfl); rw [Nat.zero_add] at h; exact h
      have j4 : wv5.cell? ⟨bnn, 3, none⟩ = some (.int .u32 v.nx.nxt) := by have h := Unn.out.1 3 (.int .u32 v.nx.nxt) (by rw [EXnn.out]; rfl); rw [Nat.zero_add] at h; exact h
      have j5 : wv5.cell? ⟨bcc, 3, none⟩ = some (.int .u32 c.nxt) := by have h := Ucc.out.1 3 (.int .u32 c.nxt) (by rw [EXcc.out]; rfl); rw [Nat.zero_add] at h; exact h
      have j6 : wv5.cell? ⟨bnn, 1, none⟩ = some (.int .u32 v.nx.iss) := by have h := Unn.out.1 1 (.int .u32 v.nx.iss) (by rw [EXnn.out]; rfl); rw [Nat.zero_add] at h; exact h
      have j7 : wv5.cell? ⟨bcc, 1, none⟩ = some (.int .u32 c.iss) := by have h := Ucc.out.1 1 (.int .u32 c.iss) (by rw [EXcc.out]; rfl); rw [Nat.zero_add] at h; exact h
      rw [s1] at j1
      rw [s2] at j2
      rw [s3] at j3
      rw [s4] at j4
      rw [s5] at j6
      clear s1 s2 s3 s4 s5
      go_wp2
      go_ret
      exact ⟨rfl, BB.out⟩
    have wi := HWI.out e1
    have HW := hide wi
    have qst : (c.st == 1) = false := by simpa using e1
    clear HWI HWS
    go_upto_region 13 with fail
    clear qst k2
    obtain ⟨fo, hfo⟩ : ∃ fo, fo = dif v.nx.una c.una := ⟨_, rfl⟩
    have D3 := rDiff_any v.nx.una c.una wi.una HC.out.una wv5
    rw [← hfo] at D3
    have HD3 := hide D3
    have fo0 := wi.f0
    have fo1 := wi.f1
    have ak := wi.ack
    rw [← hfo] at fo0 fo1 ak
    rw [← HFL.out] at fo1
    have AK := hide ak
    clear hfo D3 wi ak
    have k1 : wv5.cell? ⟨bnn, 2, none⟩ = some (.int .u32 v.nx.una) := by have h := Unn.out.1 2 (.int .u32 v.nx.una) (by rw [EXnn.out]; rfl); rw [Nat.zero_add] at h; exact h
    have k2 : wv5.cell? ⟨bcc, 2, none⟩ = some (.int .u32 c.una) := by have h := Ucc.out.1 2 (.int .u32 c.una) (by rw [EXcc.out]; rfl); rw [Nat.zero_add] at h; exact h
    go_wp2_with fail
    refine HD3.out.mono ?_
    rintro _ wx ⟨rfl, hwx⟩
    rw [hwx]
    clear hwx wx
    clear HD3 k1 k2
    have k1 : wv5.cell? ⟨bnn, 3, none⟩ = some (.int .u32 v.nx.nxt) := by have h := Unn.out.1 3 (.int .u32 v.nx.nxt) (by rw [EXnn.out]; rfl); rw [Nat.zero_add] at h; exact h
    have k2 : wv5.cell? ⟨bcc, 3, none⟩ = some (.int .u32 c.nxt) := by have h := Ucc.out.1 3 (.int .u32 c.nxt) (by rw [EXcc.out]; rfl); rw [Nat.zero_add] at h; exact h
    have k3 : wv5.cell? ⟨bnn, 9, none⟩ = some (.int .u32 v.nx.rcv) := by have h := Unn.out.1 9 (.int .u32 v.nx.rcv) (by rw [EXnn.out]; rfl); rw [Nat.zero_add] at h; exact h
    have k4 : wv5.cell? ⟨bcc, 9, none⟩ = some (.int .u32 c.rcv) := by have h := Ucc.out.1 9 (.int .u32 c.rcv) (by rw [EXcc.out]; rfl); rw [Nat.zero_add] at h; exact h
    have k5 : wv5.cell? ⟨bnn, 10, none⟩ = some (.int .u32 v.nx.adv) := by have h := Unn.out.1 10 (.int .u32 v.nx.adv) (by rw [EXnn.out]; rfl); rw [Nat.zero_add] at h; exact h
    have k6 : wv5.cell? ⟨bcc, 10, none⟩ = some (.int .u32 c.adv) := by have h := Ucc.out.1 10 (.int .u32 c.adv) (by rw [EXcc.out]; rfl); rw [Nat.zero_add] at h; exact h
    have k7 : wv5.cell? ⟨bnn, 1, none⟩ = some (.int .u32 v.nx.iss) := by have h := Unn.out.1 1 (.int .u32 v.nx.iss) (by rw [EXnn.out]; rfl); rw [Nat.zero_add] at h; exact h
    have k8 : wv5.cell? ⟨bcc, 1, none⟩ = some (.int .u32 c.iss) := by have h := Ucc.out.1 1 (.int .u32 c.iss) (by rw [EXcc.out]; rfl); rw [Nat.zero_add] at h; exact h
    have k9 : wv5.cell? ⟨bnn, 8, none⟩ = some (.int .u32 v.nx.irs) := by have h := Unn.out.1 8 (.int .u32 v.nx.irs) (by rw [EXnn.out]; rfl); rw [Nat.zero_add] at h; exact h
    have k10 : wv5.cell? ⟨bcc, 8, none⟩ = some (.int .u32 c.irs) := by have h := Ucc.out.1 8 (.int .u32 c.irs) (by rw [EXcc.out]; rfl); rw [Nat.zero_add] at h; exact h
    have k11 : wv5.cell? ⟨bv, 13, none⟩ = some (.bool v.ack) := by have h := Uv.out.1 13 (.bool v.ack) (by rw [EXv.out]; rfl); rw [Nat.zero_add] at h; exact h
    have k12 : wv5.cell? ⟨bcc, 0, none⟩ = some (.int .i64 c.st) := by have h := Ucc.out.1 0 (.int .i64 c.st) (by rw [EXcc.out]; rfl); rw [Nat.zero_add] at h; exact h
    rw [HW.out.nxt] at k1
    rw [HW.out.rcv] at k3
    rw [HW.out.adv] at k5
    rw [HW.out.iss] at k7
    rw [HW.out.irs] at k9
    go_upto_region 14 with fail
    go_cut [173] from 119 to 173 (fun u wx => u = .bool false ∧ wv5 = wx)
    case first =>
      have g1 : ¬ fo < 0 := by omega
      have g2 : ¬ fl < fo := by omega
      cases hak : v.ack with
      | false =>
        rw [hak] at k11
        go_wp2
        go_meet
        exact ⟨rfl, rfl⟩
      | true =>
        rw [hak] at k11
        by_cases h0 : fo = 0
        · have h2 : c.st = 2 := AK.out hak h0
          have q1 : (fo == 0) = true := by simpa using h0
          have q2 : (c.st != 2) = false := by simpa using h2
          clear hak h0 h2
          go_wp2
          go_meet
          exact ⟨rfl, rfl⟩
        · have q1 : (fo == 0) = false := by simpa using h0
          clear hak h0
          go_wp2
          go_meet
          exact ⟨rfl, rfl⟩
    case rest =>
      obtain ⟨rfl, hcw⟩ := hcut
      subst hcw
      clear k1 k2 k3 k4 k5 k6 k7 k8 k9 k10 k11 k12 AK fo0 fo1
      obtain ⟨fr, hfr⟩ : ∃ fr, fr = dif s.seq c.rcv + v.sk := ⟨_, rfl⟩
      have T := HW.out.tk
      have T0 := HW.out.t0
      have di := dif_in s.seq c.rcv
      rw [← hfr, ← HWN.out] at T
      rw [← HLN.out] at T0
      have FR : Hid (dif s.seq c.rcv + v.sk = fr) := hfr.symm
      obtain ⟨t1, t2, t3⟩ := T0
      have HT := hide T
      have frb : -2147483648 ≤ fr ∧ fr ≤ 2147485648 := by omega
      clear hfr T
      go_upto_region 16 with fail
      refine region_quiet_C (fun W => Below wv5.heap.size wv5 W) (by kernel_rfl) (by kernel_rfl) (later_drew _) ?_
      go_big_quiet_want
      refine quiet_pure (.pointer (some ⟨bss, 2, none⟩)) (fun W hW => exec_fieldO 28 _ 2 bss 0 2 rfl rfl (fun w => by kernel_rfl)) ?_
      go_big_quiet_on
      simp only [Act.put, List.setIfInBounds_toArray, List.set_cons_succ, List.set_cons_zero]
      go_big_quiet_want
      refine quiet_pure (.int .u32 s.seq) (fun W hW => exec_load1 22 one32 _ rfl bss 2 rfl (.int .u32 s.seq) (by have h := (Uss.out.later hW).1; rw [EXss.out] at h; exact h 2 _ rfl)) ?_
      go_big_quiet_on
      simp only [Act.put, List.setIfInBounds_toArray, List.set_cons_succ, List.set_cons_zero]
      go_big_quiet_want
      refine quiet_pure (.pointer (some ⟨bcc, 9, none⟩)) (fun W hW => exec_fieldO 24 _ 9 bcc 0 9 rfl rfl (fun w => by kernel_rfl)) ?_
      go_big_quiet_on
      simp only [Act.put, List.setIfInBounds_toArray, List.set_cons_succ, List.set_cons_zero]
      go_big_quiet_want
      refine quiet_pure (.int .u32 c.rcv) (fun W hW => exec_load1 22 one32 _ rfl bcc 9 rfl (.int .u32 c.rcv) (by have h := (Ucc.out.later hW).1; rw [EXcc.out] at h; exact h 9 _ rfl)) ?_
      go_big_quiet_on
      simp only [Act.put, List.setIfInBounds_toArray, List.set_cons_succ, List.set_cons_zero]
      go_big_quiet_want
      refine quiet_call 20 #[.int .u32 s.seq, .int .u32 c.rcv] (.int .i64 (dif s.seq c.rcv)) (fun _ => by simp [Act.eval, go_sem]) (fun W hW => (rDiff_any s.seq c.rcv HS.out.ok.seq HC.out.rcv W).mono fun e w' h => ⟨h.1, by rw [h.2]; exact hW⟩) ?_
      go_big_quiet_on
      simp only [Act.put, List.setIfInBounds_toArray, List.set_cons_succ, List.set_cons_zero]
      go_big_quiet_want
      refine quiet_pure (.pointer (some ⟨bv, 15, none⟩)) (fun W hW => exec_fieldO 32 _ 5 bv 0 15 rfl rfl (fun w => by kernel_rfl)) ?_
      go_big_quiet_on
      simp only [Act.put, List.setIfInBounds_toArray, List.set_cons_succ, List.set_cons_zero]
      go_big_quiet_want
      refine quiet_pure (.int .i64 v.sk) (fun W hW => exec_load1 3 one1 _ rfl bv 15 rfl (.int .i64 v.sk) (by have h := (Uv.out.later hW).1; rw [EXv.out] at h; exact h 15 _ rfl)) ?_
      go_big_quiet_on
      simp only [Act.put, List.setIfInBounds_toArray, List.set_cons_succ, List.set_cons_zero]
      go_big_quiet_want
      refine quiet_pure (.int .i64 fr) (fun W hW => by rw [← FR.out]; exact exec_addi _ _ _ _ _ rfl rfl rfl (by omega) (by omega)) ?_
      go_big_quiet_on
      simp only [Act.put, List.setIfInBounds_toArray, List.set_cons_succ, List.set_cons_zero]
      go_big_quiet_step (fail)
      refine wpQuiet_nil ?_
      intro wq bq
      clear di FR
      obtain ⟨wd, hwd⟩ : ∃ wd, wd = wq := ⟨_, rfl⟩
      rw [← hwd] at bq ⊢
      clear hwd
      replace Ucc := hide (Ucc.out.later bq)
      replace Uss := hide (Uss.out.later bq)
      replace Uv := hide (Uv.out.later bq)
      replace Unn := hide (Unn.out.later bq)
      replace BB := hide (later BB.out bq)
      clear bq
      have k1 : wd.cell? ⟨bv, 16, none⟩ = some (.int .i64 v.tk) := by have h := Uv.out.1 16 (.int .i64 v.tk) (by rw [EXv.out]; rfl); rw [Nat.zero_add] at h; exact h
      have k2 : wd.cell? ⟨bv, 15, none⟩ = some (.int .i64 v.sk) := by have h := Uv.out.1 15 (.int .i64 v.sk) (by rw [EXv.out]; rfl); rw [Nat.zero_add] at h; exact h
      have k3 : wd.cell? ⟨bss, 9, none⟩ = some (.slice da s.dat.length dc) := by have h := Uss.out.1 9 (.slice da s.dat.length dc) (by rw [EXss.out]; rfl); rw [Nat.zero_add] at h; exact h
      rw [← HLN.out] at k3
      go_upto_region 17 with fail
      go_cut [217] from 182 to 217 (fun u wx => u = .bool false ∧ wd = wx)
      case first =>
        have g2 : ¬ v.tk < 0 := by omega
        have g3 : ¬ v.sk < 0 := by omega
        have g4 : ¬ (ln : Int) < v.sk + v.tk := by omega
        by_cases h0 : 0 < v.tk
        · obtain ⟨a1, a2⟩ := HT.out h0
          have g5 : ¬ fr < 0 := by omega
          have g6 : ¬ wn < fr + v.tk := by omega
          go_wp2
          go_meet
          exact ⟨rfl, rfl⟩
        · go_wp2
          go_meet
          exact ⟨rfl, rfl⟩
      case rest =>
        obtain ⟨rfl, hcw⟩ := hcut
        subst hcw
        clear k1 k2 k3 HT t1 t2 t3
        have k1 : wd.cell? ⟨bv, 12, none⟩ = some (.int .i64 v.en) := by have h := Uv.out.1 12 (.int .i64 v.en) (by rw [EXv.out]; rfl); rw [Nat.zero_add] at h; exact h
        have k2 : wd.cell? ⟨bss, 2, none⟩ = some (.int .u32 s.seq) := by have h := Uss.out.1 2 (.int .u32 s.seq) (by rw [EXss.out]; rfl); rw [Nat.zero_add] at h; exact h
        have k3 : wd.cell? ⟨bcc, 9, none⟩ = some (.int .u32 c.rcv) := by have h := Ucc.out.1 9 (.int .u32 c.rcv) (by rw [EXcc.out]; rfl); rw [Nat.zero_add] at h; exact h
        go_upto_region 19 with fail
        go_cut [231] from 218 to 231 (fun u wx => u = .bool false ∧ wd = wx)
        case first =>
          by_cases h0 : v.en = 216
          · obtain ⟨a1, a2⟩ := HW.out.en h0
            have a3 : r4 = true := by rw [R4.out]; exact a1
            have q1 : (v.en == 216) = true := by simpa using h0
            subst a3
            rw [a2] at k2
            clear a1 a2
            go_wp2
            go_meet
            exact ⟨rfl, rfl⟩
          · have q1 : (v.en == 216) = false := by simpa using h0
            go_wp2
            go_meet
            exact ⟨rfl, rfl⟩
        case rest =>
          obtain ⟨rfl, hcw⟩ := hcut
          subst hcw
          clear k1
          obtain ⟨n, hn⟩ : ∃ n, n = s.size := ⟨_, rfl⟩
          have SZ := rSize_any s (.slice ga s.got.length gc) da dc wd (by have := HS.out.datl; omega)
          rw [← hn, ← EXss.out] at SZ
          have HSZ := hide SZ
          have sz := size_nn s
          rw [← hn, ← HLN.out] at sz
          have HN := hide hn
          obtain ⟨n0, n1⟩ := sz
          clear hn SZ
          go_upto_region 21 with fail
          go_wp2_with (refine wpList_loadA rfl 28 10 aggSg sizSg _ rfl bss 0 rfl Xss LXss.out Uss.out.1 ?_)
          clear k2 k3
          refine HSZ.out.mono ?_
          rintro _ wv7 ⟨rfl, bz⟩
          replace Ucc := hide (Ucc.out.later bz)
          replace Uss := hide (Uss.out.later bz)
          replace Uv := hide (Uv.out.later bz)
          replace Unn := hide (Unn.out.later bz)
          replace BB := hide (later BB.out bz)
          clear bz
          clear HSZ
          have k2 : wv7.cell? ⟨bss, 2, none⟩ = some (.int .u32 s.seq) := by have h := Uss.out.1 2 (.int .u32 s.seq) (by rw [EXss.out]; rfl); rw [Nat.zero_add] at h; exact h
          have k3 : wv7.cell? ⟨bcc, 9, none⟩ = some (.int .u32 c.rcv) := by have h := Ucc.out.1 9 (.int .u32 c.rcv) (by rw [EXcc.out]; rfl); rw [Nat.zero_add] at h; exact h
          obtain ⟨a1, ha1⟩ : ∃ a, a = wanted c s.seq := ⟨_, rfl⟩
          obtain ⟨sq, hsq⟩ : ∃ sq, sq = (s.seq + (n - 1)) % 4294967296 := ⟨_, rfl⟩
          obtain ⟨a2, ha2⟩ : ∃ a, a = wanted c sq := ⟨_, rfl⟩
          have i1 := rWithin_any s.seq c.rcv wn HS.out.ok.seq HC.out.rcv wv7
          have i2 := rWithin_any sq c.rcv wn (by omega) HC.out.rcv wv7
          rw [show wit s.seq c.rcv wn = a1 from by rw [ha1, HWN.out]; rfl] at i1
          rw [show wit sq c.rcv wn = a2 from by rw [ha2, HWN.out]; rfl] at i2
          have I1 := hide i1
          have I2 := hide i2
          have AC : Hid (accB c s = if 0 < n then a1 || a2 else if 0 < wn then a1 else decide (s.seq = c.rcv)) := by rw [ha1, ha2, hsq, HN.out, HWN.out]; exact rfl
          clear i1 i2 ha1 ha2
          go_wp2_with fail
          refine I1.out.mono ?_
          rintro _ wx ⟨rfl, hwx⟩
          rw [hwx]
          clear hwx wx
          go_wp2_with fail
          rw [show (s.seq + n - 1) % 4294967296 = sq from by rw [hsq]; omega]
          refine I2.out.mono ?_
          rintro _ wx ⟨rfl, hwx⟩
          rw [hwx]
          clear hwx wx
          clear I1 I2 hsq
          obtain ⟨fa, hfa⟩ : ∃ fa, fa = !(accB c s) := ⟨_, rfl⟩
          have HFA := hide hfa
          clear hfa
          go_upto_region 24 with fail
          go_cut [16] from 250 to 286 (fun u wx => u = .bool fa ∧ wv7 = wx)
          case first =>
            by_cases h0 : 0 < n
            · have q1 : (n == 0) = false := by simp; omega
              have ef : fa = (!a1 && !a2) := by rw [HFA.out, AC.out, if_pos h0]; cases a1 <;> cases a2 <;> rfl
              have EF := hide ef
              clear ef
              cases a1 with
              | true =>
                go_wp2
                go_meet
                exact ⟨by rw [EF.out]; rfl, rfl⟩
              | false =>
                cases a2 with
                | true =>
                  go_wp2
                  go_meet
                  exact ⟨by rw [EF.out]; rfl, rfl⟩
                | false =>
                  go_wp2
                  go_meet
                  exact ⟨by rw [EF.out]; rfl, rfl⟩
            · have q1 : (n == 0) = true := by simp; omega
              by_cases h1 : 0 < wn
              · have q2 : (wn == 0) = false := by simp; omega
                have ef : fa = !a1 := by rw [HFA.out, AC.out, if_neg h0, if_pos h1]
                have EF := hide ef
                clear ef
                cases a1 with
                | true =>
                  go_wp2
                  go_meet
                  exact ⟨by rw [EF.out]; rfl, rfl⟩
                | false =>
                  go_wp2
                  go_meet
                  exact ⟨by rw [EF.out]; rfl, rfl⟩
              · have q2 : (wn == 0) = true := by simp; omega
                have ef : fa = !decide (s.seq = c.rcv) := by rw [HFA.out, AC.out, if_neg h0, if_neg h1]
                have EF := hide ef
                clear ef
                by_cases h2 : s.seq = c.rcv
                · have q3 : (s.seq != c.rcv) = false := by simpa using h2
                  have EF2 : Hid (fa = false) := by unfold Hid; rw [EF.out, decide_eq_true h2]; rfl
                  clear h2
                  go_wp2
                  go_meet
                  exact ⟨by rw [EF2.out], rfl⟩
                · have q3 : (s.seq != c.rcv) = true := by simpa using h2
                  have EF2 : Hid (fa = true) := by unfold Hid; rw [EF.out, decide_eq_false h2]; rfl
                  clear h2
                  go_wp2
                  go_meet
                  exact ⟨by rw [EF2.out], rfl⟩
          case rest =>
            obtain ⟨rfl, hcw⟩ := hcut
            subst hcw
            clear k2 k3 AC
            cases fa with
            | false =>
              go_wp2
              go_ret
              exact ⟨rfl, BB.out⟩
            | true =>
              have acc : accB c s = false := by have h := HFA.out; cases e : accB c s with
                | false => rfl
                | true => rw [e] at h; cases h
              have ev := HW.out.far acc
              have EN : Hid (Xnn = Xcc) := by unfold Hid; rw [EXnn.out, EXcc.out, ev]
              have j1 : wv7.cell? ⟨bv, 16, none⟩ = some (.int .i64 v.tk) := by have h := Uv.out.1 16 (.int .i64 v.tk) (by rw [EXv.out]; rfl); rw [Nat.zero_add] at h; exact h
              have j2 : wv7.cell? ⟨bv, 17, none⟩ = some (.bool v.fin) := by have h := Uv.out.1 17 (.bool v.fin) (by rw [EXv.out]; rfl); rw [Nat.zero_add] at h; exact h
              have j3 : wv7.cell? ⟨bv, 12, none⟩ = some (.int .i64 v.en) := by have h := Uv.out.1 12 (.int .i64 v.en) (by rw [EXv.out]; rfl); rw [Nat.zero_add] at h; exact h
              have j4 : wv7.cell? ⟨bv, 13, none⟩ = some (.bool v.ack) := by have h := Uv.out.1 13 (.bool v.ack) (by rw [EXv.out]; rfl); rw [Nat.zero_add] at h; exact h
              have j5 : wv7.cell? ⟨bv, 11, none⟩ = some (.int .i64 v.rep) := by have h := Uv.out.1 11 (.int .i64 v.rep) (by rw [EXv.out]; rfl); rw [Nat.zero_add] at h; exact h
              rw [ev] at j1 j2 j3 j4 j5
              rw [← R4.out] at j5
              have UN2 : Hid (CellsAt wv7 bnn 0 c.cells) := by have h := Unn.out.1; rw [EN.out, EXcc.out] at h; exact h
              have UC2 : Hid (CellsAt wv7 bcc 0 c.cells) := by have h := Ucc.out.1; rw [EXcc.out] at h; exact h
              obtain ⟨X, hX⟩ : ∃ X, X = c.cells := ⟨_, rfl⟩
              have LX : Hid (X.length = 11) := by rw [hX]; exact rfl
              have EQ : Hid (∀ (o : Oper) (ev : Operand → Value) (W : World) (x y : Operand) (t : TypeId), o.op = .binOp .eql 24 x y t → ev x = .agg X.toArray → ev y = .agg X.toArray → (execOp ev o).run Try.prog W = .ok (.value (.bool true)) W) := fun o ev W x y t ho hx hy => by rw [hX] at hx hy; exact exec_eqCt x y t c ho hx hy
              rw [← hX] at UN2 UC2
              clear hX ev acc EN
              cases r4 with
              | true =>
                go_wp2_with (first | refine wpList_loadA rfl 24 11 aggCt sizCt _ rfl bnn 0 rfl X LX.out UN2.out ?_ | refine wpList_loadA rfl 24 11 aggCt sizCt _ rfl bcc 0 rfl X LX.out UC2.out ?_ | refine wpList_val rfl (EQ.out _ _ _ _ _ _ rfl rfl rfl) ?_)
                go_ret
                exact ⟨rfl, BB.out⟩
              | false =>
                go_wp2_with (first | refine wpList_loadA rfl 24 11 aggCt sizCt _ rfl bnn 0 rfl X LX.out UN2.out ?_ | refine wpList_loadA rfl 24 11 aggCt sizCt _ rfl bcc 0 rfl X LX.out UC2.out ?_ | refine wpList_val rfl (EQ.out _ _ _ _ _ _ rfl rfl rfl) ?_)
                go_ret
                exact ⟨rfl, BB.out⟩
end Go.Proofs.Ytgdcdgofahhfdaa
