
/-
  Package core: what single segments mean.
-/
import Derived.Test.YtgdcdgofahhfdaaO14
namespace Go.Proofs.Ytgdcdgofahhfdaa
open Go.RowKit Go.Shelf

section
variable {c : Ct} {s : Sg}
theorem judge_sa (h : c.st = 1) (hf : s.flg = 18) (ha : s.ack = c.nxt) : judge c s = ⟨{ synC c s with st := 3, wl2 := s.ack, una := s.ack }, 1, 0, true, false, 0, 0, false⟩ := by
  have e1 : hasB 18 16 = true := by decide
  have e2 : hasB 18 4 = false := by decide
  have e3 : hasB 18 2 = true := by decide
  simp [judge, judgeR, h, runS, FS3, fStray, fRefuse, fMeets, hf, ha, e1, e2, e3, zVd]
theorem judge_s (h : c.st = 1) (hf : s.flg = 2) : judge c s = ⟨{ synC c s with st := 2, wl2 := c.iss }, 3, 0, false, false, 0, 0, false⟩ := by
  have e1 : hasB 2 16 = false := by decide
  have e2 : hasB 2 4 = false := by decide
  have e3 : hasB 2 2 = true := by decide
  simp [judge, judgeR, h, runS, FS3, fStray, fRefuse, fMeets, hf, e1, e2, e3, zVd]
theorem judge_no (h : c.st ≠ 1) (ha : accB c s = false) (hr : hasB s.flg 4 = false) : judge c s = ⟨c, 1, 0, false, false, 0, 0, false⟩ := by
  simp [judge, judgeR, h, runS, FS7, fAccept, ha, hr, zVd]
theorem judge_op (h : c.st = 2) (ha : accB c s = true) (hf : s.flg = 16) (hfs : c.fs = false) (hk : s.ack = c.nxt) (hd : s.dat = []) : judge c s = ⟨{ c with st := 3, una := s.ack, wnd := s.wnd, wl1 := s.seq, wl2 := s.ack }, 0, 0, true, false, 0, 0, false⟩ := by
  have e1 : hasB 16 16 = true := by decide
  have e2 : hasB 16 4 = false := by decide
  have e3 : hasB 16 2 = false := by decide
  have e4 : hasB 16 1 = false := by decide
  have k1 : skp c s = 0 := by unfold skp lim; rw [hd]; simp; omega
  have k2 : tkn c s = 0 := by unfold tkn; rw [k1, hd]; unfold lim; simp; omega
  have k3 : finB c s = false := by unfold finB; rw [hf, e4]; rfl
  simp [judge, judgeR, h, runS, FS7, fAccept, fReset, fSyn, fAckS, fHears, fThrough, fRecv, ha, hf, hfs, hk, e1, e2, e3, k1, k2, k3, zVd]
end
theorem runS_go {s : Sg} {f : Ct → Sg → Vd → Bool × Ct × Vd} {fs : List (Ct → Sg → Vd → Bool × Ct × Vd)} {c c' : Ct} {v v' : Vd} (h : f c s v = (true, c', v')) : runS s (f :: fs) c v = runS s fs c' v' := by
  show (if (f c s v).1 = true then runS s fs (f c s v).2.1 (f c s v).2.2 else ((f c s v).2.1, (f c s v).2.2)) = _
  rw [h]
  rfl
theorem runS_stop {s : Sg} {f : Ct → Sg → Vd → Bool × Ct × Vd} {fs : List (Ct → Sg → Vd → Bool × Ct × Vd)} {c c' : Ct} {v v' : Vd} (h : f c s v = (false, c', v')) : runS s (f :: fs) c v = (c', v') := by
  show (if (f c s v).1 = true then runS s fs (f c s v).2.1 (f c s v).2.2 else ((f c s v).2.1, (f c s v).2.2)) = _
  rw [h]
  rfl
def unaC (c : Ct) (s : Sg) : Ct := if 0 < dif s.ack c.una then { c with una := s.ack } else c
def hearC (c : Ct) (s : Sg) : Ct := if latB (unaC c s) s = true then { unaC c s with wnd := s.wnd, wl1 := s.seq, wl2 := s.ack } else unaC c s
def hackB (c : Ct) (s : Sg) : Bool := decide (0 < dif s.ack c.una)
def hagB (c : Ct) (s : Sg) : Bool := !hackB c s && agB c s
def thrS (c : Ct) : Int := if c.fs = true ∧ c.una = c.nxt then (if c.st = 4 then 5 else if c.st = 7 then 9 else c.st) else c.st
theorem hears_ok {c : Ct} {s : Sg} {v : Vd} (h2 : c.st ≠ 2) (hc : ¬ (0 < dif s.ack c.nxt ∨ 65535 < dif c.una s.ack)) (hv : v.ack = false ∧ v.ag = false) : fHears c s v = (true, hearC c s, { v with ack := hackB c s, ag := hagB c s }) := by
  obtain ⟨n, r, e, a, g, k, t, f⟩ := v
  obtain ⟨rfl, rfl⟩ := hv
  unfold fHears hearC hagB hackB unaC
  rw [if_neg h2, if_neg hc]
  by_cases h : 0 < dif s.ack c.una
  · rw [if_pos h, if_pos h, decide_eq_true h]
    rfl
  · rw [if_neg h, if_neg h, decide_eq_false h]
    rfl
theorem unaC_same (c : Ct) (s : Sg) : (unaC c s).st = c.st ∧ (unaC c s).fs = c.fs ∧ (unaC c s).nxt = c.nxt ∧ (unaC c s).iss = c.iss ∧ (unaC c s).irs = c.irs ∧ (unaC c s).rcv = c.rcv ∧ (unaC c s).adv = c.adv ∧ (unaC c s).wnd = c.wnd ∧ (unaC c s).wl1 = c.wl1 ∧ (unaC c s).wl2 = c.wl2 := by
  unfold unaC
  split <;> exact ⟨rfl, rfl, rfl, rfl, rfl, rfl, rfl, rfl, rfl, rfl⟩
theorem hearC_same (c : Ct) (s : Sg) : (hearC c s).st = c.st ∧ (hearC c s).fs = c.fs ∧ (hearC c s).nxt = c.nxt ∧ (hearC c s).iss = c.iss ∧ (hearC c s).irs = c.irs ∧ (hearC c s).rcv = c.rcv ∧ (hearC c s).adv = c.adv ∧ (hearC c s).una = (unaC c s).una := by
  obtain ⟨a, b, d, e, f, g, h, _⟩ := unaC_same c s
  unfold hearC
  split <;> exact ⟨a, b, d, e, f, g, h, rfl⟩
theorem skp_same {c c' : Ct} {s : Sg} (h1 : c'.rcv = c.rcv) (h2 : c'.adv = c.adv) : skp c' s = skp c s ∧ tkn c' s = tkn c s ∧ finB c' s = finB c s := by
  unfold finB tkn skp wanted win
  rw [h1, h2]
  exact ⟨rfl, rfl, rfl⟩
section
variable {c : Ct} {s : Sg}
theorem judge_acc0 (h : c.st ≠ 1) (ha : accB c s = false) : judge c s = ⟨c, if hasB s.flg 4 = true then 0 else 1, 0, false, false, 0, 0, false⟩ := by
  have e : judgeR c s = (c, if hasB s.flg 4 = true then zVd else { zVd with rep := 1 }) := by
    unfold judgeR
    rw [if_neg h]
    exact runS_stop (by unfold fAccept; rw [ha]; rfl)
  unfold judge
  rw [e]
  by_cases hr : hasB s.flg 4 = true
  · simp [hr, zVd]
  · simp [hr, zVd]
theorem judge_rst (h : c.st ≠ 1) (ha : accB c s = true) (hr : hasB s.flg 4 = true) : judge c s = if s.seq = c.rcv then ⟨c, 0, if c.st = 2 then 215 else 216, false, false, 0, 0, false⟩ else ⟨c, 1, 0, false, false, 0, 0, false⟩ := by
  have e : judgeR c s = (c, if s.seq = c.rcv then { zVd with en := if c.st = 2 then 215 else 216 } else { zVd with rep := 1 }) := by
    unfold judgeR
    rw [if_neg h]
    unfold FS7
    rw [runS_go (c' := c) (v' := zVd) (by unfold fAccept; rw [ha]; rfl)]
    exact runS_stop (by unfold fReset; rw [if_pos hr]; split <;> rfl)
  unfold judge
  rw [e]
  split <;> rfl
theorem judge_syn (h : c.st ≠ 1) (ha : accB c s = true) (hr : hasB s.flg 4 = false) (hy : hasB s.flg 2 = true) : judge c s = ⟨c, 1, 0, false, false, 0, 0, false⟩ := by
  have e : judgeR c s = (c, { zVd with rep := 1 }) := by
    unfold judgeR
    rw [if_neg h]
    unfold FS7
    rw [runS_go (c' := c) (v' := zVd) (by unfold fAccept; rw [ha]; rfl), runS_go (c' := c) (v' := zVd) (by unfold fReset; rw [hr]; rfl)]
    exact runS_stop (by unfold fSyn; rw [if_pos hy])
  unfold judge
  rw [e]
  rfl
theorem judge_noack (h : c.st ≠ 1) (ha : accB c s = true) (hr : hasB s.flg 4 = false) (hy : hasB s.flg 2 = false) (hk : hasB s.flg 16 = false) : judge c s = ⟨c, 0, 0, false, false, 0, 0, false⟩ := by
  have e : judgeR c s = (c, zVd) := by
    unfold judgeR
    rw [if_neg h]
    unfold FS7
    rw [runS_go (c' := c) (v' := zVd) (by unfold fAccept; rw [ha]; rfl), runS_go (c' := c) (v' := zVd) (by unfold fReset; rw [hr]; rfl), runS_go (c' := c) (v' := zVd) (by unfold fSyn; rw [hy]; rfl)]
    exact runS_stop (by unfold fAckS; rw [hk])
  unfold judge
  rw [e]
  rfl
theorem judgeR_late (h : c.st ≠ 1) (ha : accB c s = true) (hr : hasB s.flg 4 = false) (hy : hasB s.flg 2 = false) (hk : hasB s.flg 16 = true) : judgeR c s = runS s [fHears, fThrough, fRecv] c zVd := by
  unfold judgeR
  rw [if_neg h]
  unfold FS7
  rw [runS_go (c' := c) (v' := zVd) (by unfold fAccept; rw [ha]; rfl), runS_go (c' := c) (v' := zVd) (by unfold fReset; rw [hr]; rfl), runS_go (c' := c) (v' := zVd) (by unfold fSyn; rw [hy]; rfl), runS_go (c' := c) (v' := zVd) (by unfold fAckS; rw [hk])]
theorem thr2 {v : Vd} (h : c.st = 2) : fThrough c s v = (true, c, v) := by
  unfold fThrough
  split
  · rw [if_neg (by omega), if_neg (by omega), if_neg (by omega)]
  · rfl
theorem late_rcvd0 (h : c.st = 2) (hk : s.ack ≠ c.nxt) : runS s [fHears, fThrough, fRecv] c zVd = (c, { zVd with rep := 2 }) := by
  rw [runS_go (c' := c) (v' := zVd) (by unfold fHears; rw [if_pos h]), runS_go (thr2 h)]
  exact runS_stop (by unfold fRecv; rw [if_pos h, if_neg hk])
theorem late_rcvd1 (h : c.st = 2) (hk : s.ack = c.nxt) : runS s [fHears, fThrough, fRecv] c zVd = ({ c with st := 3, una := s.ack, wnd := s.wnd, wl1 := s.seq, wl2 := s.ack }, { zVd with ack := true, sk := skp c s, tk := tkn c s, fin := finB c s }) := by
  rw [runS_go (c' := c) (v' := zVd) (by unfold fHears; rw [if_pos h]), runS_go (thr2 h)]
  exact runS_stop (by unfold fRecv; rw [if_pos h, if_pos hk])
theorem late_bad (h : c.st ≠ 2) (hc : 0 < dif s.ack c.nxt ∨ 65535 < dif c.una s.ack) : runS s [fHears, fThrough, fRecv] c zVd = (c, { zVd with rep := 1 }) :=
  runS_stop (by unfold fHears; rw [if_neg h, if_pos hc])
theorem late_end (h : c.st ≠ 2) (hc : ¬ (0 < dif s.ack c.nxt ∨ 65535 < dif c.una s.ack)) (h8 : c.st = 8) (hf : c.fs = true) (hn : (unaC c s).una = c.nxt) : runS s [fHears, fThrough, fRecv] c zVd = (hearC c s, { zVd with ack := hackB c s, ag := hagB c s, en := 218 }) := by
  obtain ⟨a1, a2, a3, _, _, _, _, a8⟩ := hearC_same c s
  rw [runS_go (hears_ok h hc ⟨rfl, rfl⟩)]
  exact runS_stop (by unfold fThrough; rw [if_pos ⟨by rw [a2]; exact hf, by rw [a8, a3]; exact hn⟩, a1, if_neg (by omega), if_neg (by omega), if_pos h8])
theorem late_on (h : c.st ≠ 2) (hc : ¬ (0 < dif s.ack c.nxt ∨ 65535 < dif c.una s.ack)) (h8 : ¬ (c.st = 8 ∧ c.fs = true ∧ (unaC c s).una = c.nxt)) : runS s [fHears, fThrough, fRecv] c zVd = ({ hearC c s with st := thrS (hearC c s) }, if thrS (hearC c s) = 3 ∨ thrS (hearC c s) = 4 ∨ thrS (hearC c s) = 5 then { zVd with ack := hackB c s, ag := hagB c s, sk := skp c s, tk := tkn c s, fin := finB c s } else { zVd with ack := hackB c s, ag := hagB c s }) := by
  obtain ⟨a1, a2, a3, _, _, a6, a7, a8⟩ := hearC_same c s
  have T : fThrough (hearC c s) s { zVd with ack := hackB c s, ag := hagB c s } = (true, { hearC c s with st := thrS (hearC c s) }, { zVd with ack := hackB c s, ag := hagB c s }) := by
    unfold fThrough thrS
    by_cases k : (hearC c s).fs = true ∧ (hearC c s).una = (hearC c s).nxt
    · rw [if_pos k, if_pos k]
      by_cases k4 : (hearC c s).st = 4
      · rw [if_pos k4, if_pos k4]
      · rw [if_neg k4, if_neg k4]
        by_cases k7 : (hearC c s).st = 7
        · rw [if_pos k7, if_pos k7]
        · rw [if_neg k7, if_neg k7, if_neg (fun k8 => h8 ⟨by rw [← a1]; exact k8, by rw [← a2]; exact k.1, by rw [← a8, ← a3]; exact k.2⟩)]
    · rw [if_neg k, if_neg k]
  have n2 : thrS (hearC c s) ≠ 2 := by
    unfold thrS
    rw [a1]
    split
    · split
      · omega
      · split <;> omega
    · exact h
  have K := skp_same (c := c) (c' := { hearC c s with st := thrS (hearC c s) }) (s := s) a6 a7
  rw [runS_go (hears_ok h hc ⟨rfl, rfl⟩), runS_go T]
  refine runS_stop ?_
  unfold fRecv
  rw [if_neg n2, K.1, K.2.1, K.2.2]
  split <;> rfl
/-- what ends a connection that is open is a Rst with the very number that is wanted -/
theorem judge_wild (h : c.st = 3) (hs : s.seq ≠ c.rcv) : (judge c s).en = 0 := by
  have h1 : c.st ≠ 1 := by omega
  have h2 : c.st ≠ 2 := by omega
  cases ha : accB c s with
  | false => rw [judge_acc0 h1 ha]
  | true =>
    cases hr : hasB s.flg 4 with
    | true => rw [judge_rst h1 ha hr, if_neg hs]
    | false =>
      cases hy : hasB s.flg 2 with
      | true => rw [judge_syn h1 ha hr hy]
      | false =>
        cases hk : hasB s.flg 16 with
        | false => rw [judge_noack h1 ha hr hy hk]
        | true =>
          unfold judge
          rw [judgeR_late h1 ha hr hy hk]
          by_cases hc : 0 < dif s.ack c.nxt ∨ 65535 < dif c.una s.ack
          · rw [late_bad h2 hc]
            rfl
          · rw [late_on h2 hc (fun k => by omega)]
            split <;> rfl
end
end Go.Proofs.Ytgdcdgofahhfdaa
