
/-
  A wheel's slots and the timers in the order in which they were armed: what they have to do with one another.
-/
import Derived.Test.YtglbobobifejmaaQA
namespace Go.Proofs.Ytglbobobifejmaa

/-- the slots SL hold the timers L, which stand in the order in which they were armed -/
structure Rel (L : List (Int × Int)) (SL : Nat → List (Int × Int)) : Prop where
  home : ∀ s, s < 64 → ∀ p ∈ SL s, 0 ≤ p.2 ∧ p.2 % 64 = (s : Int)
  srt : ∀ s, s < 64 → (SL s).Pairwise (fun p q => p.2 ≤ q.2)
  tick : ∀ t : Int, 0 ≤ t → (SL (t % 64).toNat).filter (fun p => decide (p.2 = t)) = L.filter (fun p => decide (p.2 = t))
  count : tot SL 64 = L.length
  ids : ∀ s, s < 64 → (SL s).Pairwise (fun p q => p.1 ≠ q.1)
  apart : ∀ s t, s < 64 → t < 64 → s ≠ t → ∀ p ∈ SL s, ∀ q ∈ SL t, p.1 ≠ q.1
  uniq : L.Pairwise (fun p q => p.1 ≠ q.1)
  pos : ∀ p ∈ L, 0 ≤ p.2

theorem t64 (t : Int) (_ : 0 ≤ t) : (t % 64).toNat < 64 := by omega

section
variable {L : List (Int × Int)} {SL : Nat → List (Int × Int)}
theorem Rel.mem (h : Rel L SL) (p : Int × Int) (hp : 0 ≤ p.2) : p ∈ L ↔ p ∈ SL (p.2 % 64).toNat := by
  have e := h.tick p.2 hp
  have h1 : p ∈ SL (p.2 % 64).toNat ↔ p ∈ (SL (p.2 % 64).toNat).filter (fun q => decide (q.2 = p.2)) := by simp
  have h2 : p ∈ L ↔ p ∈ L.filter (fun q => decide (q.2 = p.2)) := by simp
  rw [h1, h2, e]
theorem Rel.of_slot (h : Rel L SL) {s : Nat} (hs : s < 64) {p : Int × Int} (hp : p ∈ SL s) : p ∈ L := by
  obtain ⟨h1, h2⟩ := h.home s hs p hp
  rw [h.mem p h1, show (p.2 % 64).toNat = s by omega]
  exact hp
theorem Rel.to_slot (h : Rel L SL) {p : Int × Int} (hp : p ∈ L) : (p.2 % 64).toNat < 64 ∧ p ∈ SL (p.2 % 64).toNat := ⟨by have := h.pos p hp; omega, (h.mem p (h.pos p hp)).1 hp⟩

theorem erase_filter {l : List (Int × Int)} (h : l.Pairwise (fun p q => p.1 ≠ q.1)) {j : Nat} {id t : Int} (hj : l[j]? = some (id, t)) : l.eraseIdx j = l.filter (fun p => decide (p.1 ≠ id)) := by
  induction l generalizing j with
  | nil => simp at hj
  | cons a r ih =>
    rw [List.pairwise_cons] at h
    cases j with
    | zero =>
      simp only [List.getElem?_cons_zero, Option.some.injEq] at hj
      subst hj
      simp only [List.eraseIdx_cons_zero]
      rw [List.filter_cons, if_neg (by simp)]
      exact (List.filter_eq_self.2 (fun q hq => by have := h.1 q hq; simp only [ne_eq, decide_not, Bool.not_eq_eq_eq_not, Bool.not_true, decide_eq_false_iff_not]; exact fun e => this e.symm)).symm
    | succ j =>
      simp only [List.getElem?_cons_succ] at hj
      rw [List.eraseIdx_cons_succ, List.filter_cons, if_pos (by have := h.1 _ (List.mem_of_getElem? hj); simpa using this), ih h.2 hj]
theorem filter_len {l : List (Int × Int)} (h : l.Pairwise (fun p q => p.1 ≠ q.1)) {id t : Int} (hm : (id, t) ∈ l) : (l.filter (fun p => decide (p.1 ≠ id))).length + 1 = l.length := by
  obtain ⟨j, hj⟩ := List.getElem?_of_mem hm
  have hl := (List.getElem?_eq_some_iff.1 hj).1
  rw [← erase_filter h hj, List.length_eraseIdx, if_pos hl]
  omega
theorem filter_same {l : List (Int × Int)} {id : Int} (h : ∀ p ∈ l, p.1 ≠ id) : l.filter (fun p => decide (p.1 ≠ id)) = l := List.filter_eq_self.2 (fun q hq => by simpa using h q hq)

theorem tot_upd (SL : Nat → List (Int × Int)) (s : Nat) (l : List (Int × Int)) (k : Nat) : tot (upd SL s l) k + (if s < k then (SL s).length else 0) = tot SL k + (if s < k then l.length else 0) := by
  induction k with
  | zero => simp [tot]
  | succ k ih =>
    unfold tot
    by_cases e : s = k
    · subst e
      rw [if_neg (by omega), if_neg (by omega)] at ih
      rw [if_pos (by omega), if_pos (by omega), upd_same]
      omega
    · rw [upd_other _ _ _ _ (fun q => e q.symm)]
      by_cases hs : s < k
      · rw [if_pos hs, if_pos hs] at ih
        rw [if_pos (by omega), if_pos (by omega)]
        omega
      · rw [if_neg hs, if_neg hs] at ih
        rw [if_neg (by omega), if_neg (by omega)]
        omega
theorem tot_upd64 (SL : Nat → List (Int × Int)) (s : Nat) (hs : s < 64) (l : List (Int × Int)) : tot (upd SL s l) 64 + (SL s).length = tot SL 64 + l.length := by
  have := tot_upd SL s l 64
  rw [if_pos hs, if_pos hs] at this
  exact this
theorem len_le_tot (SL : Nat → List (Int × Int)) (k s : Nat) (h : s < k) : (SL s).length ≤ tot SL k := by
  induction k with
  | zero => omega
  | succ k ih =>
    unfold tot
    by_cases e : s = k
    · subst e; omega
    · have := ih (by omega); omega

/-- a slot's timers in part: what is left of all -/
theorem Rel.part (h : Rel L SL) (f : Int × Int → Bool) (SL' : Nat → List (Int × Int)) (hf : ∀ s, s < 64 → SL' s = (SL s).filter f) (hc : tot SL' 64 = (L.filter f).length) : Rel (L.filter f) SL' := by
  refine ⟨fun s hs p hp => ?_, fun s hs => ?_, fun t ht => ?_, hc, fun s hs => ?_, fun s t hs ht hne p hp q hq => ?_, h.uniq.filter _, fun p hp => h.pos p (List.mem_filter.1 hp).1⟩
  · rw [hf s hs] at hp; exact h.home s hs p (List.mem_filter.1 hp).1
  · rw [hf s hs]; exact (h.srt s hs).filter _
  · rw [hf _ (t64 t ht), List.filter_filter, List.filter_filter]
    have e := h.tick t ht
    have c : ∀ l : List (Int × Int), l.filter (fun a => decide (a.2 = t) && f a) = (l.filter (fun p => decide (p.2 = t))).filter f := fun l => by rw [List.filter_filter]; congr 1; funext a; rw [Bool.and_comm]
    rw [c, c, e]
  · rw [hf s hs]; exact (h.ids s hs).filter _
  · rw [hf s hs] at hp; rw [hf t ht] at hq
    exact h.apart s t hs ht hne p (List.mem_filter.1 hp).1 q (List.mem_filter.1 hq).1

theorem Rel.cancel (h : Rel L SL) {s j : Nat} {id t : Int} (hs : s < 64) (hj : (SL s)[j]? = some (id, t)) : Rel (L.filter (fun p => decide (p.1 ≠ id))) (upd SL s ((SL s).eraseIdx j)) := by
  have hm := h.of_slot hs (List.mem_of_getElem? hj)
  have hl := (List.getElem?_eq_some_iff.1 hj).1
  refine h.part _ _ (fun s' hs' => ?_) ?_
  · by_cases e : s' = s
    · subst e; rw [upd_same]; exact erase_filter (h.ids s' hs) hj
    · rw [upd_other _ _ _ _ e]
      exact (filter_same (fun p hp => h.apart s' s hs' hs e p hp _ (List.mem_of_getElem? hj))).symm
  · have h1 := tot_upd64 SL s hs ((SL s).eraseIdx j)
    have h2 := filter_len h.uniq hm
    have h3 := h.count
    rw [List.length_eraseIdx, if_pos hl] at h1
    omega
theorem Rel.none (h : Rel L SL) {id : Int} (hn : ∀ s, s < 64 → ∀ p ∈ SL s, p.1 ≠ id) : ∀ p ∈ L, p.1 ≠ id := fun p hp => by
  obtain ⟨h1, h2⟩ := h.to_slot hp
  exact hn _ h1 p h2

theorem plc_split (l : List (Int × Int)) (t : Int) (h : l.Pairwise (fun p q => p.2 ≤ q.2)) : (∀ p ∈ l.take (plc l t), p.2 ≤ t) ∧ ∀ p ∈ l.drop (plc l t), t < p.2 := by
  induction l with
  | nil => simp [plc]
  | cons a r ih =>
    rw [List.pairwise_cons] at h
    obtain ⟨h1, h2⟩ := ih h.2
    by_cases c : t < a.2
    · have e : plc (a :: r) t = 0 := by unfold plc; rw [List.findIdx_cons]; simp [c]
      rw [e]
      refine ⟨by simp, fun p hp => ?_⟩
      simp only [List.drop_zero, List.mem_cons] at hp
      rcases hp with rfl | hp
      · exact c
      · have := h.1 p hp; omega
    · have e : plc (a :: r) t = plc r t + 1 := by unfold plc; rw [List.findIdx_cons]; simp [c]
      rw [e]
      refine ⟨fun p hp => ?_, fun p hp => ?_⟩
      · simp only [List.take_succ_cons, List.mem_cons] at hp
        rcases hp with rfl | hp
        · omega
        · exact h1 p hp
      · simp only [List.drop_succ_cons] at hp
        exact h2 p hp
end
end Go.Proofs.Ytglbobobifejmaa
