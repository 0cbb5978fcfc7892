
/-
  CoreCloses: what the segments of an end mean.
-/
import Derived.Test.YtgdcdgofahhfdaaO16
namespace Go.Proofs.Ytgdcdgofahhfdaa
open Go.RowKit Go.Shelf

theorem d_up {n : Int} (_ : 0 ≤ n ∧ n < 4294967296) : dif ((n + 1) % 4294967296) n = 1 := by unfold dif; split <;> omega
theorem d_dn {n : Int} (_ : 0 ≤ n ∧ n < 4294967296) : dif n ((n + 1) % 4294967296) = -1 := by unfold dif; split <;> omega
theorem d_w {n : Int} (_ : 0 ≤ n ∧ n < 4294967296) : dif ((n + 100) % 4294967296) n = 100 := by unfold dif; split <;> omega
theorem d_w2 {n : Int} (_ : 0 ≤ n ∧ n < 4294967296) : dif ((n + 100) % 4294967296) ((n + 1) % 4294967296) = 99 := by unfold dif; split <;> omega
theorem d_w3 {n : Int} (_ : 0 ≤ n ∧ n < 4294967296) : dif ((n + 1) % 4294967296) ((n + 100) % 4294967296) = -99 := by unfold dif; split <;> omega
theorem n_ne {n : Int} (_ : 0 ≤ n ∧ n < 4294967296) : n ≠ (n + 1) % 4294967296 := by omega
theorem wit_at (n m : Int) (h : 0 < m) : wit n n m = true := by unfold wit; exact decide_eq_true (by omega)
def mF (q k : Int) : Sg := ⟨0, 0, q, k, 17, 9, 0, false, [], []⟩
theorem mF_size (q k : Int) : (mF q k).size = 1 := rfl
theorem mA_size (q k wnd : Int) : (mA q k wnd).size = 0 := rfl
theorem lim_z (n : Int) : lim n 0 = 0 := by unfold lim; omega
theorem skp_z {c : Ct} {s : Sg} (h : s.dat = []) : skp c s = 0 ∧ tkn c s = 0 := by
  have k : skp c s = 0 := by unfold skp; rw [h]; exact lim_z _
  refine ⟨k, ?_⟩
  unfold tkn
  rw [k, h]
  exact lim_z _
/-- an acceptable segment that goes on to the end -/
theorem judge_on {c c1 : Ct} {s : Sg} {n : Int} {t : Bool} (h1 : c.st ≠ 1) (h2 : c.st ≠ 2) (ha : accB c s = true) (hr : hasB s.flg 4 = false) (hy : hasB s.flg 2 = false) (hk : hasB s.flg 16 = true) (hd : s.dat = [])
    (hc : ¬ (0 < dif s.ack c.nxt ∨ 65535 < dif c.una s.ack)) (h8 : ¬ (c.st = 8 ∧ c.fs = true ∧ (unaC c s).una = c.nxt)) (hh : hearC c s = c1) (ht : thrS c1 = n) (hf : (if n = 3 ∨ n = 4 ∨ n = 5 then finB c s else false) = t) :
    judge c s = ⟨{ c1 with st := n }, 0, 0, hackB c s, hagB c s, 0, 0, t⟩ := by
  unfold judge
  rw [judgeR_late h1 ha hr hy hk, late_on h2 hc h8, hh, ht, (skp_z hd).1, (skp_z hd).2]
  subst hf
  split <;> rfl
section
variable {i p q r l : Int}
theorem c2 (hp : 0 ≤ p ∧ p < 4294967296) (hq : 0 ≤ q ∧ q < 4294967296) (hl : 0 < dif q l) : judge ⟨4, i, p, ((p + 1) % 4294967296), true, 9, l, p, r, q, ((q + 100) % 4294967296)⟩ (mF q p) = ⟨⟨4, i, p, ((p + 1) % 4294967296), true, 9, q, p, r, q, ((q + 100) % 4294967296)⟩, 0, 0, false, false, 0, 0, true⟩ := by
  have z1 := d_up hp
  have z2 := d_dn hp
  have z3 := d_up hq
  have z4 := d_dn hq
  have z5 := d_w hq
  have z6 := d_w2 hq
  have z7 := n_ne hp
  have ha : accB ⟨4, i, p, ((p + 1) % 4294967296), true, 9, l, p, r, q, ((q + 100) % 4294967296)⟩ (mF q p) = true := by
    unfold accB wanted win
    rw [mF_size]
    simp [mF, z5, wit_at]
  have hh : hearC ⟨4, i, p, ((p + 1) % 4294967296), true, 9, l, p, r, q, ((q + 100) % 4294967296)⟩ (mF q p) = ⟨4, i, p, ((p + 1) % 4294967296), true, 9, q, p, r, q, ((q + 100) % 4294967296)⟩ := by
    unfold hearC latB unaC
    simp [mF, dif_self, hl]
  have hcc : ¬ (0 < dif (mF q p).ack (⟨4, i, p, ((p + 1) % 4294967296), true, 9, l, p, r, q, ((q + 100) % 4294967296)⟩ : Ct).nxt ∨ 65535 < dif (⟨4, i, p, ((p + 1) % 4294967296), true, 9, l, p, r, q, ((q + 100) % 4294967296)⟩ : Ct).una (mF q p).ack) := by
    simp [mF, dif_self, z2]
  have e1 : hackB ⟨4, i, p, ((p + 1) % 4294967296), true, 9, l, p, r, q, ((q + 100) % 4294967296)⟩ (mF q p) = false := by
    unfold hackB
    simp [mF, dif_self]
  have e2 : hagB ⟨4, i, p, ((p + 1) % 4294967296), true, 9, l, p, r, q, ((q + 100) % 4294967296)⟩ (mF q p) = false := by
    unfold hagB hackB agB
    rw [mF_size]
    simp [mF, dif_self]
  rw [judge_on (c1 := ⟨4, i, p, ((p + 1) % 4294967296), true, 9, q, p, r, q, ((q + 100) % 4294967296)⟩) (n := 4) (t := true) (by simp) (by simp) ha rfl rfl rfl rfl hcc (by simp) hh (by unfold thrS; simp [z7]) ?_, e1, e2]
  unfold finB wanted win
  rw [(skp_z (s := mF q p) rfl).1, (skp_z (s := mF q p) rfl).2]
  simp [mF, hasB, z5, wit_at, Int.emod_eq_of_lt hq.1 hq.2]
theorem c2b (hp : 0 ≤ p ∧ p < 4294967296) (hq : 0 ≤ q ∧ q < 4294967296) : judge ⟨4, i, p, ((p + 1) % 4294967296), true, 9, q, p, r, q, ((q + 100) % 4294967296)⟩ (mF q p) = ⟨⟨4, i, p, ((p + 1) % 4294967296), true, 9, q, p, r, q, ((q + 100) % 4294967296)⟩, 0, 0, false, false, 0, 0, true⟩ := by
  have z1 := d_up hp
  have z2 := d_dn hp
  have z3 := d_up hq
  have z4 := d_dn hq
  have z5 := d_w hq
  have z6 := d_w2 hq
  have z7 := n_ne hp
  have ha : accB ⟨4, i, p, ((p + 1) % 4294967296), true, 9, q, p, r, q, ((q + 100) % 4294967296)⟩ (mF q p) = true := by
    unfold accB wanted win
    rw [mF_size]
    simp [mF, z5, wit_at]
  have hh : hearC ⟨4, i, p, ((p + 1) % 4294967296), true, 9, q, p, r, q, ((q + 100) % 4294967296)⟩ (mF q p) = ⟨4, i, p, ((p + 1) % 4294967296), true, 9, q, p, r, q, ((q + 100) % 4294967296)⟩ := by
    unfold hearC latB unaC
    simp [mF, dif_self]
  have hcc : ¬ (0 < dif (mF q p).ack (⟨4, i, p, ((p + 1) % 4294967296), true, 9, q, p, r, q, ((q + 100) % 4294967296)⟩ : Ct).nxt ∨ 65535 < dif (⟨4, i, p, ((p + 1) % 4294967296), true, 9, q, p, r, q, ((q + 100) % 4294967296)⟩ : Ct).una (mF q p).ack) := by
    simp [mF, dif_self, z2]
  have e1 : hackB ⟨4, i, p, ((p + 1) % 4294967296), true, 9, q, p, r, q, ((q + 100) % 4294967296)⟩ (mF q p) = false := by
    unfold hackB
    simp [mF, dif_self]
  have e2 : hagB ⟨4, i, p, ((p + 1) % 4294967296), true, 9, q, p, r, q, ((q + 100) % 4294967296)⟩ (mF q p) = false := by
    unfold hagB hackB agB
    rw [mF_size]
    simp [mF, dif_self]
  rw [judge_on (c1 := ⟨4, i, p, ((p + 1) % 4294967296), true, 9, q, p, r, q, ((q + 100) % 4294967296)⟩) (n := 4) (t := true) (by simp) (by simp) ha rfl rfl rfl rfl hcc (by simp) hh (by unfold thrS; simp [z7]) ?_, e1, e2]
  unfold finB wanted win
  rw [(skp_z (s := mF q p) rfl).1, (skp_z (s := mF q p) rfl).2]
  simp [mF, hasB, z5, wit_at, Int.emod_eq_of_lt hq.1 hq.2]
theorem c3 (hp : 0 ≤ p ∧ p < 4294967296) (hq : 0 ≤ q ∧ q < 4294967296) : judge ⟨7, i, p, ((p + 1) % 4294967296), true, 9, q, p, r, ((q + 1) % 4294967296), ((q + 100) % 4294967296)⟩ (mA ((q + 1) % 4294967296) ((p + 1) % 4294967296) 9) = ⟨⟨9, i, ((p + 1) % 4294967296), ((p + 1) % 4294967296), true, 9, ((q + 1) % 4294967296), ((p + 1) % 4294967296), r, ((q + 1) % 4294967296), ((q + 100) % 4294967296)⟩, 0, 0, true, false, 0, 0, false⟩ := by
  have z1 := d_up hp
  have z2 := d_dn hp
  have z3 := d_up hq
  have z4 := d_dn hq
  have z5 := d_w hq
  have z6 := d_w2 hq
  have z7 := n_ne hp
  have ha : accB ⟨7, i, p, ((p + 1) % 4294967296), true, 9, q, p, r, ((q + 1) % 4294967296), ((q + 100) % 4294967296)⟩ (mA ((q + 1) % 4294967296) ((p + 1) % 4294967296) 9) = true := by
    unfold accB wanted win
    rw [mA_size]
    simp [mA, z6, wit_at]
  have hh : hearC ⟨7, i, p, ((p + 1) % 4294967296), true, 9, q, p, r, ((q + 1) % 4294967296), ((q + 100) % 4294967296)⟩ (mA ((q + 1) % 4294967296) ((p + 1) % 4294967296) 9) = ⟨7, i, ((p + 1) % 4294967296), ((p + 1) % 4294967296), true, 9, ((q + 1) % 4294967296), ((p + 1) % 4294967296), r, ((q + 1) % 4294967296), ((q + 100) % 4294967296)⟩ := by
    unfold hearC latB unaC
    simp [mA, dif_self, z1, z3]
  have hcc : ¬ (0 < dif (mA ((q + 1) % 4294967296) ((p + 1) % 4294967296) 9).ack (⟨7, i, p, ((p + 1) % 4294967296), true, 9, q, p, r, ((q + 1) % 4294967296), ((q + 100) % 4294967296)⟩ : Ct).nxt ∨ 65535 < dif (⟨7, i, p, ((p + 1) % 4294967296), true, 9, q, p, r, ((q + 1) % 4294967296), ((q + 100) % 4294967296)⟩ : Ct).una (mA ((q + 1) % 4294967296) ((p + 1) % 4294967296) 9).ack) := by
    simp [mA, dif_self, z2]
  have e1 : hackB ⟨7, i, p, ((p + 1) % 4294967296), true, 9, q, p, r, ((q + 1) % 4294967296), ((q + 100) % 4294967296)⟩ (mA ((q + 1) % 4294967296) ((p + 1) % 4294967296) 9) = true := by
    unfold hackB
    simp [mA, z1]
  have e2 : hagB ⟨7, i, p, ((p + 1) % 4294967296), true, 9, q, p, r, ((q + 1) % 4294967296), ((q + 100) % 4294967296)⟩ (mA ((q + 1) % 4294967296) ((p + 1) % 4294967296) 9) = false := by
    unfold hagB hackB agB
    rw [mA_size]
    simp [mA, z1]
  rw [judge_on (c1 := ⟨7, i, ((p + 1) % 4294967296), ((p + 1) % 4294967296), true, 9, ((q + 1) % 4294967296), ((p + 1) % 4294967296), r, ((q + 1) % 4294967296), ((q + 100) % 4294967296)⟩) (n := 9) (t := false) (by simp) (by simp) ha rfl rfl rfl rfl hcc (by simp) hh (by unfold thrS; simp) ?_, e1, e2]
  simp
theorem c4 (hp : 0 ≤ p ∧ p < 4294967296) (hq : 0 ≤ q ∧ q < 4294967296) : judge ⟨3, i, p, p, false, 9, q, p, r, q, ((q + 100) % 4294967296)⟩ (mF q p) = ⟨⟨3, i, p, p, false, 9, q, p, r, q, ((q + 100) % 4294967296)⟩, 0, 0, false, false, 0, 0, true⟩ := by
  have z1 := d_up hp
  have z2 := d_dn hp
  have z3 := d_up hq
  have z4 := d_dn hq
  have z5 := d_w hq
  have z6 := d_w2 hq
  have z7 := n_ne hp
  have ha : accB ⟨3, i, p, p, false, 9, q, p, r, q, ((q + 100) % 4294967296)⟩ (mF q p) = true := by
    unfold accB wanted win
    rw [mF_size]
    simp [mF, z5, wit_at]
  have hh : hearC ⟨3, i, p, p, false, 9, q, p, r, q, ((q + 100) % 4294967296)⟩ (mF q p) = ⟨3, i, p, p, false, 9, q, p, r, q, ((q + 100) % 4294967296)⟩ := by
    unfold hearC latB unaC
    simp [mF, dif_self]
  have hcc : ¬ (0 < dif (mF q p).ack (⟨3, i, p, p, false, 9, q, p, r, q, ((q + 100) % 4294967296)⟩ : Ct).nxt ∨ 65535 < dif (⟨3, i, p, p, false, 9, q, p, r, q, ((q + 100) % 4294967296)⟩ : Ct).una (mF q p).ack) := by
    simp [mF, dif_self]
  have e1 : hackB ⟨3, i, p, p, false, 9, q, p, r, q, ((q + 100) % 4294967296)⟩ (mF q p) = false := by
    unfold hackB
    simp [mF, dif_self]
  have e2 : hagB ⟨3, i, p, p, false, 9, q, p, r, q, ((q + 100) % 4294967296)⟩ (mF q p) = false := by
    unfold hagB hackB agB
    rw [mF_size]
    simp [mF, dif_self]
  rw [judge_on (c1 := ⟨3, i, p, p, false, 9, q, p, r, q, ((q + 100) % 4294967296)⟩) (n := 3) (t := true) (by simp) (by simp) ha rfl rfl rfl rfl hcc (by simp) hh (by unfold thrS; simp) ?_, e1, e2]
  unfold finB wanted win
  rw [(skp_z (s := mF q p) rfl).1, (skp_z (s := mF q p) rfl).2]
  simp [mF, hasB, z5, wit_at, Int.emod_eq_of_lt hq.1 hq.2]
theorem c5 (hp : 0 ≤ p ∧ p < 4294967296) (hq : 0 ≤ q ∧ q < 4294967296) (hl : 0 < dif q l) : judge ⟨4, i, p, ((p + 1) % 4294967296), true, 9, l, p, r, q, ((q + 100) % 4294967296)⟩ (mA q ((p + 1) % 4294967296) 9) = ⟨⟨5, i, ((p + 1) % 4294967296), ((p + 1) % 4294967296), true, 9, q, ((p + 1) % 4294967296), r, q, ((q + 100) % 4294967296)⟩, 0, 0, true, false, 0, 0, false⟩ := by
  have z1 := d_up hp
  have z2 := d_dn hp
  have z3 := d_up hq
  have z4 := d_dn hq
  have z5 := d_w hq
  have z6 := d_w2 hq
  have z7 := n_ne hp
  have ha : accB ⟨4, i, p, ((p + 1) % 4294967296), true, 9, l, p, r, q, ((q + 100) % 4294967296)⟩ (mA q ((p + 1) % 4294967296) 9) = true := by
    unfold accB wanted win
    rw [mA_size]
    simp [mA, z5, wit_at]
  have hh : hearC ⟨4, i, p, ((p + 1) % 4294967296), true, 9, l, p, r, q, ((q + 100) % 4294967296)⟩ (mA q ((p + 1) % 4294967296) 9) = ⟨4, i, ((p + 1) % 4294967296), ((p + 1) % 4294967296), true, 9, q, ((p + 1) % 4294967296), r, q, ((q + 100) % 4294967296)⟩ := by
    unfold hearC latB unaC
    simp [mA, dif_self, z1, hl]
  have hcc : ¬ (0 < dif (mA q ((p + 1) % 4294967296) 9).ack (⟨4, i, p, ((p + 1) % 4294967296), true, 9, l, p, r, q, ((q + 100) % 4294967296)⟩ : Ct).nxt ∨ 65535 < dif (⟨4, i, p, ((p + 1) % 4294967296), true, 9, l, p, r, q, ((q + 100) % 4294967296)⟩ : Ct).una (mA q ((p + 1) % 4294967296) 9).ack) := by
    simp [mA, dif_self, z2]
  have e1 : hackB ⟨4, i, p, ((p + 1) % 4294967296), true, 9, l, p, r, q, ((q + 100) % 4294967296)⟩ (mA q ((p + 1) % 4294967296) 9) = true := by
    unfold hackB
    simp [mA, z1]
  have e2 : hagB ⟨4, i, p, ((p + 1) % 4294967296), true, 9, l, p, r, q, ((q + 100) % 4294967296)⟩ (mA q ((p + 1) % 4294967296) 9) = false := by
    unfold hagB hackB agB
    rw [mA_size]
    simp [mA, z1]
  rw [judge_on (c1 := ⟨4, i, ((p + 1) % 4294967296), ((p + 1) % 4294967296), true, 9, q, ((p + 1) % 4294967296), r, q, ((q + 100) % 4294967296)⟩) (n := 5) (t := false) (by simp) (by simp) ha rfl rfl rfl rfl hcc (by simp) hh (by unfold thrS; simp) ?_, e1, e2]
  simp [finB, mA, hasB]
theorem c6 (hp : 0 ≤ p ∧ p < 4294967296) (hq : 0 ≤ q ∧ q < 4294967296) : judge ⟨5, i, ((p + 1) % 4294967296), ((p + 1) % 4294967296), true, 9, q, ((p + 1) % 4294967296), r, q, ((q + 100) % 4294967296)⟩ (mF q ((p + 1) % 4294967296)) = ⟨⟨5, i, ((p + 1) % 4294967296), ((p + 1) % 4294967296), true, 9, q, ((p + 1) % 4294967296), r, q, ((q + 100) % 4294967296)⟩, 0, 0, false, false, 0, 0, true⟩ := by
  have z1 := d_up hp
  have z2 := d_dn hp
  have z3 := d_up hq
  have z4 := d_dn hq
  have z5 := d_w hq
  have z6 := d_w2 hq
  have z7 := n_ne hp
  have ha : accB ⟨5, i, ((p + 1) % 4294967296), ((p + 1) % 4294967296), true, 9, q, ((p + 1) % 4294967296), r, q, ((q + 100) % 4294967296)⟩ (mF q ((p + 1) % 4294967296)) = true := by
    unfold accB wanted win
    rw [mF_size]
    simp [mF, z5, wit_at]
  have hh : hearC ⟨5, i, ((p + 1) % 4294967296), ((p + 1) % 4294967296), true, 9, q, ((p + 1) % 4294967296), r, q, ((q + 100) % 4294967296)⟩ (mF q ((p + 1) % 4294967296)) = ⟨5, i, ((p + 1) % 4294967296), ((p + 1) % 4294967296), true, 9, q, ((p + 1) % 4294967296), r, q, ((q + 100) % 4294967296)⟩ := by
    unfold hearC latB unaC
    simp [mF, dif_self]
  have hcc : ¬ (0 < dif (mF q ((p + 1) % 4294967296)).ack (⟨5, i, ((p + 1) % 4294967296), ((p + 1) % 4294967296), true, 9, q, ((p + 1) % 4294967296), r, q, ((q + 100) % 4294967296)⟩ : Ct).nxt ∨ 65535 < dif (⟨5, i, ((p + 1) % 4294967296), ((p + 1) % 4294967296), true, 9, q, ((p + 1) % 4294967296), r, q, ((q + 100) % 4294967296)⟩ : Ct).una (mF q ((p + 1) % 4294967296)).ack) := by
    simp [mF, dif_self]
  have e1 : hackB ⟨5, i, ((p + 1) % 4294967296), ((p + 1) % 4294967296), true, 9, q, ((p + 1) % 4294967296), r, q, ((q + 100) % 4294967296)⟩ (mF q ((p + 1) % 4294967296)) = false := by
    unfold hackB
    simp [mF, dif_self]
  have e2 : hagB ⟨5, i, ((p + 1) % 4294967296), ((p + 1) % 4294967296), true, 9, q, ((p + 1) % 4294967296), r, q, ((q + 100) % 4294967296)⟩ (mF q ((p + 1) % 4294967296)) = false := by
    unfold hagB hackB agB
    rw [mF_size]
    simp [mF, dif_self]
  rw [judge_on (c1 := ⟨5, i, ((p + 1) % 4294967296), ((p + 1) % 4294967296), true, 9, q, ((p + 1) % 4294967296), r, q, ((q + 100) % 4294967296)⟩) (n := 5) (t := true) (by simp) (by simp) ha rfl rfl rfl rfl hcc (by simp) hh (by unfold thrS; simp) ?_, e1, e2]
  unfold finB wanted win
  rw [(skp_z (s := mF q ((p + 1) % 4294967296)) rfl).1, (skp_z (s := mF q ((p + 1) % 4294967296)) rfl).2]
  simp [mF, hasB, z5, wit_at, Int.emod_eq_of_lt hq.1 hq.2]
theorem c7 (hp : 0 ≤ p ∧ p < 4294967296) (hq : 0 ≤ q ∧ q < 4294967296) : (judge ⟨8, i, p, ((p + 1) % 4294967296), true, 9, q, p, r, ((q + 1) % 4294967296), ((q + 100) % 4294967296)⟩ (mA ((q + 1) % 4294967296) ((p + 1) % 4294967296) 9)).en = 218 := by
  have z1 := d_up hp
  have z2 := d_dn hp
  have z6 := d_w2 hq
  have ha : accB ⟨8, i, p, ((p + 1) % 4294967296), true, 9, q, p, r, ((q + 1) % 4294967296), ((q + 100) % 4294967296)⟩ (mA ((q + 1) % 4294967296) ((p + 1) % 4294967296) 9) = true := by
    unfold accB wanted win
    rw [mA_size]
    simp [mA, z6, wit_at]
  unfold judge
  rw [judgeR_late (by simp) ha rfl rfl rfl, late_end (by simp) (by simp [mA, dif_self, z2]) rfl rfl (by unfold unaC; simp [mA, z1])]
theorem e1 {x y : Int} {k : Bool} (hq : 0 ≤ q ∧ q < 4294967296) {l2 : Int} : endC ⟨4, i, x, y, k, 9, l, l2, r, q, ((q + 100) % 4294967296)⟩ = ⟨7, i, x, y, k, 9, l, l2, r, ((q + 1) % 4294967296), ((q + 100) % 4294967296)⟩ := by
  unfold endC endS
  simp [d_w3 hq]
theorem e2 {x y : Int} {k : Bool} (hq : 0 ≤ q ∧ q < 4294967296) {l2 : Int} : endC ⟨3, i, x, y, k, 9, l, l2, r, q, ((q + 100) % 4294967296)⟩ = ⟨6, i, x, y, k, 9, l, l2, r, ((q + 1) % 4294967296), ((q + 100) % 4294967296)⟩ := by
  unfold endC endS
  simp [d_w3 hq]
theorem e3 {x y : Int} {k : Bool} (hq : 0 ≤ q ∧ q < 4294967296) {l2 : Int} : endC ⟨5, i, x, y, k, 9, l, l2, r, q, ((q + 100) % 4294967296)⟩ = ⟨9, i, x, y, k, 9, l, l2, r, ((q + 1) % 4294967296), ((q + 100) % 4294967296)⟩ := by
  unfold endC endS
  simp [d_w3 hq]
theorem sh1 {c : Ct} (h : c.st = 3) (hf : c.fs = false) : shutC c = { c with fs := true, nxt := (c.nxt + 1) % 4294967296, st := 4 } ∧ shutE c = 0 := by
  have e : shutE c = 0 := by unfold shutE; rw [if_pos ⟨hf, .inr (.inl h)⟩]
  refine ⟨?_, e⟩
  unfold shutC
  rw [if_pos e, if_neg (by omega)]
theorem sh2 {c : Ct} (h : c.st = 6) (hf : c.fs = false) : shutC c = { c with fs := true, nxt := (c.nxt + 1) % 4294967296, st := 8 } ∧ shutE c = 0 := by
  have e : shutE c = 0 := by unfold shutE; rw [if_pos ⟨hf, .inr (.inr h)⟩]
  refine ⟨?_, e⟩
  unfold shutC
  rw [if_pos e, if_pos h]
/-- open, with a window of 100 numbers -/
def cO (f g l : Int) : Ct := ⟨3, f, (f + 1) % 4294967296, (f + 1) % 4294967296, false, 9, l, (f + 1) % 4294967296, g, (g + 1) % 4294967296, ((g + 1) % 4294967296 + 100) % 4294967296⟩
def cY (f g : Int) : Ct := { mY0 f g 9 with adv := ((f + 1) % 4294967296 + 100) % 4294967296 }
theorem c1 (f g : Int) : judge (cY f g) (mA ((f + 1) % 4294967296) ((g + 1) % 4294967296) 9) = vOf (cO g f ((f + 1) % 4294967296)) 0 true := by
  rw [judge_op rfl ?_ rfl rfl rfl rfl]
  · rfl
  · have h1 : win (cY f g) = 100 := d_w (by omega)
    unfold accB
    rw [mA_size, h1, if_neg (by decide), if_pos (by decide)]
    unfold wanted
    rw [h1]
    exact wit_at _ _ (by decide)
end
end Go.Proofs.Ytgdcdgofahhfdaa
