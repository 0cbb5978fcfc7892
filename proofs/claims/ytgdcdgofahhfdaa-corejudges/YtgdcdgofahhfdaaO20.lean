
/-
  CoreWithin: what holds of any segment, for connections whose numbers fit.
-/
import Derived.Test.YtgdcdgofahhfdaaO15
namespace Go.Proofs.Ytgdcdgofahhfdaa
open Go.RowKit Go.Shelf

theorem take_in {seq rcv adv n : Int} (h1 : u32In seq) (h2 : u32In rcv) (h3 : u32In adv) (hn : 0 ≤ n) (hw : 0 ≤ dif adv rcv) (hm : n ≤ 140737488351232) :
    0 < lim (dif adv ((seq + lim (dif rcv seq) n) % 4294967296)) (n - lim (dif rcv seq) n) →
    0 ≤ dif seq rcv + lim (dif rcv seq) n ∧ dif seq rcv + lim (dif rcv seq) n + lim (dif adv ((seq + lim (dif rcv seq) n) % 4294967296)) (n - lim (dif rcv seq) n) ≤ dif adv rcv := by
  obtain ⟨a0, a1⟩ := h1
  obtain ⟨b0, b1⟩ := h2
  obtain ⟨c0, c1⟩ := h3
  obtain ⟨D, hD⟩ : ∃ D, D = dif rcv seq := ⟨_, rfl⟩
  obtain ⟨k, hk⟩ : ∃ k, k = lim D n := ⟨_, rfl⟩
  rw [← hD, ← hk]
  obtain ⟨E, hE⟩ : ∃ E, E = dif adv ((seq + k) % 4294967296) := ⟨_, rfl⟩
  obtain ⟨F, hF⟩ : ∃ F, F = dif seq rcv := ⟨_, rfl⟩
  obtain ⟨G, hG⟩ : ∃ G, G = dif adv rcv := ⟨_, rfl⟩
  rw [← hE, ← hF, ← hG]
  rw [← hG] at hw
  unfold lim at hk ⊢
  intro ht
  have kn : k < n := by omega
  unfold dif at hD hF hG hE
  by_cases d : 0 ≤ D
  · have ek : k = D := by omega
    have e1 : (seq + k) % 4294967296 = rcv := by split at hD <;> omega
    rw [e1] at hE
    have e2 : E = G := by rw [hE, hG]
    have e3 : F = -D := by split at hD <;> split at hF <;> omega
    omega
  · have ek : k = 0 := by omega
    have e1 : (seq + k) % 4294967296 = seq := by omega
    rw [e1] at hE
    have e3 : (F = -D ∧ D ≠ -2147483648) ∨ D = -2147483648 := by split at hD <;> split at hF <;> omega
    have e4 : -2147483648 ≤ D := by split at hD <;> omega
    rcases e3 with ⟨e3, e5⟩ | e3
    · have e6 : E = G - F := by split at hD <;> split at hF <;> split at hG <;> split at hE <;> omega
      omega
    · have e6 : E ≤ 0 := by split at hD <;> split at hG <;> split at hE <;> omega
      omega
/-- what a verdict on a connection whose numbers fit is like -/
structure Wi (c : Ct) (s : Sg) (v : Vd) : Prop where
  rep : hasB s.flg 4 = true → v.rep ≠ 2
  nxt : v.nx.nxt = c.nxt
  rcv : v.nx.rcv = c.rcv
  adv : v.nx.adv = c.adv
  iss : v.nx.iss = c.iss
  irs : v.nx.irs = c.irs
  una : u32In v.nx.una
  f0 : 0 ≤ dif v.nx.una c.una
  f1 : dif v.nx.una c.una ≤ dif c.nxt c.una
  ack : v.ack = true → dif v.nx.una c.una = 0 → c.st = 2
  tk : 0 < v.tk → 0 ≤ dif s.seq c.rcv + v.sk ∧ dif s.seq c.rcv + v.sk + v.tk ≤ dif c.adv c.rcv
  t0 : 0 ≤ v.tk ∧ 0 ≤ v.sk ∧ v.sk + v.tk ≤ s.dat.length
  en : v.en = 216 → hasB s.flg 4 = true ∧ s.seq = c.rcv
  far : accB c s = false → v = ⟨c, if hasB s.flg 4 = true then 0 else 1, 0, false, false, 0, 0, false⟩
theorem dif_le {a n u : Int} (h1 : u32In a) (h2 : u32In n) (h3 : u32In u) (hf : 0 ≤ dif n u) (ha : ¬ 0 < dif a n) (hu : 0 < dif a u) : dif a u ≤ dif n u := by
  obtain ⟨a0, a1⟩ := h1
  obtain ⟨b0, b1⟩ := h2
  obtain ⟨c0, c1⟩ := h3
  unfold dif at *
  split at hf <;> split at ha <;> split at hu <;> omega
section
variable {c : Ct} {s : Sg}
/-- a verdict that leaves the connection as it is, and takes nothing -/
theorem wi_same (hc : c.Ok) (hf : 0 ≤ dif c.nxt c.una) {r e : Int} {g : Bool} (hr : hasB s.flg 4 = true → r ≠ 2) (he : e = 216 → hasB s.flg 4 = true ∧ s.seq = c.rcv) (hfar : accB c s = false → (⟨c, r, e, false, g, 0, 0, false⟩ : Vd) = ⟨c, if hasB s.flg 4 = true then 0 else 1, 0, false, false, 0, 0, false⟩) : Wi c s ⟨c, r, e, false, g, 0, 0, false⟩ where
  rep := hr
  nxt := rfl
  rcv := rfl
  adv := rfl
  iss := rfl
  irs := rfl
  una := hc.una
  f0 := by show 0 ≤ dif c.una c.una; unfold dif; rw [Int.sub_self]; decide
  f1 := by show dif c.una c.una ≤ _; have : dif c.una c.una = 0 := by { unfold dif; rw [Int.sub_self]; decide }; rw [this]; exact hf
  ack := fun h => by cases h
  tk := fun h => by exact absurd h (by show ¬ (0 : Int) < 0; decide)
  t0 := ⟨Int.le_refl _, Int.le_refl _, by show (0 : Int) + 0 ≤ _; omega⟩
  en := he
  far := hfar
theorem judge_wi (hc : c.Ok) (hs : s.Ok) (h1 : c.st ≠ 1) (hf : 0 ≤ dif c.nxt c.una) (hw : 0 ≤ dif c.adv c.rcv) (hm : (s.dat.length : Int) ≤ 140737488351232) : Wi c s (judge c s) := by
  cases ha : accB c s with
  | false =>
    rw [judge_acc0 h1 ha]
    refine wi_same hc hf (fun h => by rw [if_pos h]; decide) (fun h => by cases h) (fun _ => rfl)
  | true =>
    have nf : ∀ v : Vd, accB c s = false → v = ⟨c, if hasB s.flg 4 = true then 0 else 1, 0, false, false, 0, 0, false⟩ := fun v h => by rw [ha] at h; cases h
    cases hr : hasB s.flg 4 with
    | true =>
      rw [judge_rst h1 ha hr]
      by_cases hq : s.seq = c.rcv
      · rw [if_pos hq]
        exact wi_same hc hf (fun _ => by decide) (fun _ => ⟨hr, hq⟩) (nf _)
      · rw [if_neg hq]
        exact wi_same hc hf (fun _ => by decide) (fun h => by cases h) (nf _)
    | false =>
      have nr : ∀ r : Int, hasB s.flg 4 = true → r ≠ 2 := fun r h => by rw [hr] at h; cases h
      cases hy : hasB s.flg 2 with
      | true => rw [judge_syn h1 ha hr hy]; exact wi_same hc hf (nr _) (fun h => by cases h) (nf _)
      | false =>
        cases hk : hasB s.flg 16 with
        | false => rw [judge_noack h1 ha hr hy hk]; exact wi_same hc hf (nr _) (fun h => by cases h) (nf _)
        | true =>
          have T := take_in hs.seq hc.rcv hc.adv (n := s.dat.length) (by omega) hw hm
          have k0 := lim_in (n := dif c.rcv s.seq) (m := s.dat.length) (by omega)
          have k1 := lim_in (n := dif c.adv ((s.seq + skp c s) % 4294967296)) (m := s.dat.length - skp c s) (by have := k0.2; unfold skp; omega)
          have t0 : 0 ≤ tkn c s ∧ 0 ≤ skp c s ∧ skp c s + tkn c s ≤ s.dat.length := ⟨k1.1, k0.1, by have := k1.2; unfold tkn; omega⟩
          unfold judge
          rw [judgeR_late h1 ha hr hy hk]
          by_cases h2 : c.st = 2
          · by_cases hn : s.ack = c.nxt
            · rw [late_rcvd1 h2 hn]
              exact ⟨nr _, rfl, rfl, rfl, rfl, rfl, hs.ack, by show 0 ≤ dif s.ack c.una; rw [hn]; exact hf, by show dif s.ack c.una ≤ _; rw [hn]; exact Int.le_refl _, fun _ _ => h2, T, t0, (fun h => by cases h), nf _⟩
            · rw [late_rcvd0 h2 hn]
              exact wi_same hc hf (nr _) (fun h => by cases h) (nf _)
          · by_cases hcc : 0 < dif s.ack c.nxt ∨ 65535 < dif c.una s.ack
            · rw [late_bad h2 hcc]
              exact wi_same hc hf (nr _) (fun h => by cases h) (nf _)
            · obtain ⟨_, _, a3, a4, a5, a6, a7, a8⟩ := hearC_same c s
              have U : u32In (unaC c s).una ∧ 0 ≤ dif (unaC c s).una c.una ∧ dif (unaC c s).una c.una ≤ dif c.nxt c.una ∧ (hackB c s = true → dif (unaC c s).una c.una = 0 → c.st = 2) := by
                unfold unaC hackB
                by_cases h : 0 < dif s.ack c.una
                · rw [if_pos h]
                  exact ⟨hs.ack, by show 0 ≤ dif s.ack c.una; omega, dif_le hs.ack hc.nxt hc.una hf (fun k => hcc (.inl k)) h, fun _ k => by have k : dif s.ack c.una = 0 := k; omega⟩
                · rw [if_neg h]
                  have z : dif c.una c.una = 0 := by unfold dif; rw [Int.sub_self]; decide
                  exact ⟨hc.una, by rw [z]; decide, by rw [z]; exact hf, fun k => by rw [decide_eq_false h] at k; cases k⟩
              obtain ⟨u1, u2, u3, u4⟩ := U
              by_cases h8 : c.st = 8 ∧ c.fs = true ∧ (unaC c s).una = c.nxt
              · rw [late_end h2 hcc h8.1 h8.2.1 h8.2.2]
                exact ⟨nr _, a3, a6, a7, a4, a5, by rw [← a8] at u1; exact u1, by rw [← a8] at u2; exact u2, by rw [← a8] at u3; exact u3, by rw [← a8] at u4; exact u4, fun h => absurd h (by show ¬ (0 : Int) < 0; decide), ⟨Int.le_refl _, Int.le_refl _, by show (0 : Int) + 0 ≤ _; omega⟩, (fun h => by cases h), nf _⟩
              · rw [late_on h2 hcc h8]
                by_cases ht : thrS (hearC c s) = 3 ∨ thrS (hearC c s) = 4 ∨ thrS (hearC c s) = 5
                · rw [if_pos ht]
                  exact ⟨nr _, a3, a6, a7, a4, a5, by rw [← a8] at u1; exact u1, by rw [← a8] at u2; exact u2, by rw [← a8] at u3; exact u3, by rw [← a8] at u4; exact u4, T, t0, (fun h => by cases h), nf _⟩
                · rw [if_neg ht]
                  exact ⟨nr _, a3, a6, a7, a4, a5, by rw [← a8] at u1; exact u1, by rw [← a8] at u2; exact u2, by rw [← a8] at u3; exact u3, by rw [← a8] at u4; exact u4, fun h => absurd h (by show ¬ (0 : Int) < 0; decide), ⟨Int.le_refl _, Int.le_refl _, by show (0 : Int) + 0 ≤ _; omega⟩, (fun h => by cases h), nf _⟩
/-- of one that has sent its Syn -/
theorem judge_ws (h : c.st = 1) : (hasB s.flg 4 = true → (judge c s).rep = 0) ∧ (judge c s).tk = 0 ∧ (judge c s).sk = 0 ∧ (judge c s).fin = false ∧ (judge c s).nx.nxt = c.nxt ∧ (judge c s).nx.iss = c.iss := by
  have e : judgeR c s = runS s FS3 c zVd := by unfold judgeR; rw [if_pos h]
  unfold judge
  rw [e]
  unfold FS3
  by_cases h1 : hasB s.flg 16 = true ∧ s.ack ≠ c.nxt
  · rw [runS_stop (c' := c) (v' := if hasB s.flg 4 = true then zVd else { zVd with rep := 2 }) (by unfold fStray; rw [if_pos h1])]
    by_cases h4 : hasB s.flg 4 = true
    · rw [if_pos h4]; exact ⟨fun _ => rfl, rfl, rfl, rfl, rfl, rfl⟩
    · rw [if_neg h4]; exact ⟨fun k => absurd k h4, rfl, rfl, rfl, rfl, rfl⟩
  · rw [runS_go (c' := c) (v' := zVd) (by unfold fStray; rw [if_neg h1])]
    by_cases h4 : hasB s.flg 4 = true
    · rw [runS_stop (c' := c) (v' := if hasB s.flg 16 = true then { zVd with en := 215 } else zVd) (by unfold fRefuse; rw [if_pos h4])]
      split <;> exact ⟨fun _ => rfl, rfl, rfl, rfl, rfl, rfl⟩
    · rw [runS_go (c' := c) (v' := zVd) (by unfold fRefuse; rw [if_neg h4])]
      by_cases h2 : hasB s.flg 2 = true
      · by_cases h6 : hasB s.flg 16 = true
        · rw [runS_stop (by unfold fMeets; rw [if_pos h2, if_pos h6])]
          exact ⟨fun k => absurd k h4, rfl, rfl, rfl, rfl, rfl⟩
        · rw [runS_stop (by unfold fMeets; rw [if_pos h2, if_neg h6])]
          exact ⟨fun k => absurd k h4, rfl, rfl, rfl, rfl, rfl⟩
      · rw [runS_stop (by unfold fMeets; rw [if_neg h2])]
        exact ⟨fun k => absurd k h4, rfl, rfl, rfl, rfl, rfl⟩
end
end Go.Proofs.Ytgdcdgofahhfdaa
