
/-
  A table of ticks by ids, beside the timers.
-/
import Derived.Test.YtglbobobifejmaaQP
namespace Go.Proofs.Ytglbobobifejmaa
open Go.RowKit

theorem same_id {L : List (Int × Int)} (hu : L.Pairwise (fun p q => p.1 ≠ q.1)) {p q : Int × Int} (hp : p ∈ L) (hq : q ∈ L) (e : p.1 = q.1) : p = q := by
  induction L with
  | nil => cases hp
  | cons x l ih =>
    rw [List.pairwise_cons] at hu
    rcases List.mem_cons.1 hp with h1 | h1 <;> rcases List.mem_cons.1 hq with h2 | h2
    · rw [h1, h2]
    · exact absurd (by rw [← h1]; exact e) (hu.1 q h2)
    · exact absurd (by rw [← h2]; exact e.symm) (hu.1 p h1)
    · exact ih hu.2 h1 h2
theorem OutOf.mem {L O : List (Int × Int)} {t : Int} (h : OutOf L t O) (p : Int × Int) : p ∈ O ↔ p ∈ L ∧ p.2 ≤ t := by
  have h1 := h.tick p.2
  have h2 : p ∈ O ↔ p ∈ O.filter (fun q => decide (q.2 = p.2)) := by simp [List.mem_filter]
  rw [h2, h1]
  simp [List.mem_filter]
theorem pair_ticks {R : Int × Int → Int × Int → Prop} : ∀ {O : List (Int × Int)}, (∀ τ, (O.filter (fun p => decide (p.2 = τ))).Pairwise R) → (∀ p ∈ O, ∀ q ∈ O, p.2 ≠ q.2 → R p q) → O.Pairwise R
  | [], _, _ => List.Pairwise.nil
  | p :: l, h, k => by
    refine List.Pairwise.cons (fun q hq => ?_) (pair_ticks (fun τ => (h τ).sublist (List.Sublist.filter _ (List.sublist_cons_self ..))) (fun a ha c hc => k a (List.mem_cons_of_mem _ ha) c (List.mem_cons_of_mem _ hc)))
    by_cases e : p.2 = q.2
    · have h1 := h p.2
      rw [List.filter_cons_of_pos (by simp), List.pairwise_cons] at h1
      exact h1.1 q (List.mem_filter.2 ⟨hq, by simp [e]⟩)
    · exact k p (List.mem_cons_self ..) q (List.mem_cons_of_mem _ hq) e
theorem OutOf.uniq {L O : List (Int × Int)} {t : Int} (h : OutOf L t O) (hu : L.Pairwise (fun p q => p.1 ≠ q.1)) : O.Pairwise (fun p q => p.1 ≠ q.1) := by
  refine pair_ticks (fun τ => ?_) (fun p hp q hq e e2 => ?_)
  · rw [h.tick τ]
    exact hu.sublist (List.filter_sublist.trans List.filter_sublist)
  · have := same_id hu ((h.mem p).1 hp).1 ((h.mem q).1 hq).1 e2
    rw [this] at e; exact e rfl
/-- what came and what stays -/
theorem OutOf.both {L O : List (Int × Int)} {t : Int} (h : OutOf L t O) (p : Int × Int) : p ∈ O ++ stay L t ↔ p ∈ L := by
  rw [List.mem_append, h.mem p]
  unfold stay
  rw [List.mem_filter]
  constructor
  · rintro (h | h)
    · exact h.1
    · exact h.1
  · intro hp
    by_cases e : p.2 ≤ t
    · exact .inl ⟨hp, e⟩
    · exact .inr ⟨hp, by simp; omega⟩
theorem OutOf.uniq2 {L O : List (Int × Int)} {t : Int} (h : OutOf L t O) (hu : L.Pairwise (fun p q => p.1 ≠ q.1)) : (O ++ stay L t).Pairwise (fun p q => p.1 ≠ q.1) := by
  rw [List.pairwise_append]
  refine ⟨h.uniq hu, hu.sublist List.filter_sublist, fun p hp q hq e => ?_⟩
  have hq2 := List.mem_filter.1 hq
  have hp2 := (h.mem p).1 hp
  have := same_id hu hp2.1 hq2.1 e
  rw [this] at hp2
  have h1 : t < q.2 := by simpa using hq2.2
  omega

/-- THE TABLE d (of m ids) TELLS THE TIMERS L -/
structure Tb (L : List (Int × Int)) (m : Nat) (d : Nat → Int) : Prop where
  mem : ∀ p ∈ L, ∃ k : Nat, k < m ∧ p = ((k : Int), d k) ∧ 0 < d k
  all : ∀ k, k < m → d k ≠ 0 → ((k : Int), d k) ∈ L
theorem Tb.pos {L : List (Int × Int)} {m : Nat} {d : Nat → Int} (h : Tb L m d) {k : Nat} (hk : k < m) (h0 : d k ≠ 0) : 0 < d k := by
  obtain ⟨j, _, e, hp⟩ := h.mem _ (h.all k hk h0)
  simp only [Prod.mk.injEq] at e
  have : j = k := by omega
  subst this; exact hp
theorem Tb.of {L L' : List (Int × Int)} {m : Nat} {d : Nat → Int} (h : Tb L m d) (e : ∀ p, p ∈ L' ↔ p ∈ L) : Tb L' m d :=
  ⟨fun p hp => h.mem p ((e p).1 hp), fun k hk h0 => (e _).2 (h.all k hk h0)⟩
theorem Tb.nil (m : Nat) : Tb [] m (fun _ => 0) := ⟨(fun _ h => by cases h), fun _ _ h => absurd rfl h⟩
theorem Tb.cancel {L : List (Int × Int)} {m : Nat} {d : Nat → Int} (h : Tb L m d) (k : Nat) : Tb (noId L (k : Int)) m (upd d k 0) := by
  refine ⟨fun p hp => ?_, fun j hj h0 => ?_⟩
  · obtain ⟨h1, h2⟩ := List.mem_filter.1 hp
    obtain ⟨j, hj, e, hd⟩ := h.mem p h1
    have : j ≠ k := fun q => by rw [e, q] at h2; simp at h2
    exact ⟨j, hj, by rw [upd_other _ _ _ _ this]; exact e, by rw [upd_other _ _ _ _ this]; exact hd⟩
  · by_cases e : j = k
    · rw [e, upd_same] at h0; exact absurd rfl h0
    · rw [upd_other _ _ _ _ e] at h0 ⊢
      exact List.mem_filter.2 ⟨h.all j hj h0, by simp; omega⟩
theorem Tb.arm {L : List (Int × Int)} {m : Nat} {d : Nat → Int} (h : Tb L m d) (k : Nat) (hk : k < m) (t : Int) (ht : 0 < t) : Tb (noId L (k : Int) ++ [((k : Int), t)]) m (upd d k t) := by
  have hc := h.cancel k
  refine ⟨fun p hp => ?_, fun j hj h0 => ?_⟩
  · rcases List.mem_append.1 hp with hp | hp
    · obtain ⟨j, hj, e, hd⟩ := hc.mem p hp
      have : j ≠ k := fun q => by rw [q, upd_same] at hd; omega
      rw [upd_other _ _ _ _ this] at e hd
      exact ⟨j, hj, by rw [upd_other _ _ _ _ this]; exact e, by rw [upd_other _ _ _ _ this]; exact hd⟩
    · simp only [List.mem_cons, List.not_mem_nil, or_false] at hp
      exact ⟨k, hk, by rw [upd_same]; exact hp, by rw [upd_same]; exact ht⟩
  · by_cases e : j = k
    · subst e; rw [upd_same]; simp
    · rw [upd_other _ _ _ _ e] at h0 ⊢
      have := hc.all j hj (by rw [upd_other _ _ _ _ e]; exact h0)
      rw [upd_other _ _ _ _ e] at this
      exact List.mem_append.2 (.inl this)
theorem Tb.due {L : List (Int × Int)} {m : Nat} {d : Nat → Int} (h : Tb L m d) (hu : L.Pairwise (fun p q => p.1 ≠ q.1)) (k : Nat) (hk : k < m) : (dueOf L (k : Int)).getD 0 = d k ∧ (dueOf L (k : Int)).isSome = decide (0 < d k) := by
  by_cases e : d k = 0
  · rw [find_no (L := L) (id := (k : Int)) (fun p hp q => by
      obtain ⟨j, _, e1, hd⟩ := h.mem p hp
      rw [e1] at q
      simp only at q
      have : j = k := by omega
      subst this; omega), e]
    exact ⟨rfl, rfl⟩
  · rw [find_of hu (h.all k hk e)]
    exact ⟨rfl, (decide_eq_true (h.pos hk e)).symm⟩
theorem Tb.has {L : List (Int × Int)} {m : Nat} {d : Nat → Int} (h : Tb L m d) (hu : L.Pairwise (fun p q => p.1 ≠ q.1)) (k : Nat) (hk : k < m) : has L (k : Int) = decide (0 < d k) := by
  rw [← has_due]; exact (h.due hu k hk).2

/-- how many ids are due -/
def cnt (d : Nat → Int) : Nat → Nat
  | 0 => 0
  | k + 1 => cnt d k + if 0 < d k then 1 else 0
theorem cnt_le (d : Nat → Int) (k : Nat) : cnt d k ≤ k := by
  induction k with
  | zero => exact Nat.le_refl _
  | succ k ih => simp only [cnt]; split <;> omega
theorem cnt_lt {d : Nat → Int} {m k : Nat} (hk : k < m) (h0 : ¬ 0 < d k) : cnt d m < m := by
  induction m with
  | zero => omega
  | succ m ih =>
    simp only [cnt]
    by_cases e : k = m
    · subst e; rw [if_neg h0]; have := cnt_le d k; omega
    · have := ih (by omega)
      split <;> omega
def tabL (d : Nat → Int) : Nat → List (Int × Int)
  | 0 => []
  | k + 1 => tabL d k ++ if 0 < d k then [((k : Int), d k)] else []
theorem tab_len (d : Nat → Int) (k : Nat) : (tabL d k).length = cnt d k := by
  induction k with
  | zero => rfl
  | succ k ih => simp only [tabL, cnt, List.length_append, ih]; split <;> rfl
theorem tab_mem (d : Nat → Int) (m : Nat) (p : Int × Int) : p ∈ tabL d m ↔ ∃ k : Nat, k < m ∧ p = ((k : Int), d k) ∧ 0 < d k := by
  induction m with
  | zero => exact ⟨(fun h => by cases h), fun ⟨k, h, _⟩ => absurd h (Nat.not_lt_zero _)⟩
  | succ m ih =>
    simp only [tabL, List.mem_append, ih]
    constructor
    · rintro (⟨k, h1, h2⟩ | h)
      · exact ⟨k, by omega, h2⟩
      · split at h
        · simp only [List.mem_cons, List.not_mem_nil, or_false] at h
          exact ⟨m, by omega, h, by assumption⟩
        · cases h
    · rintro ⟨k, h1, h2, h3⟩
      by_cases e : k = m
      · subst e; rw [if_pos h3]; exact .inr (by rw [h2]; simp)
      · exact .inl ⟨k, by omega, h2, h3⟩
theorem tab_ids (d : Nat → Int) (m : Nat) : (tabL d m).Pairwise (fun p q => p.1 ≠ q.1) := by
  induction m with
  | zero => exact List.Pairwise.nil
  | succ m ih =>
    simp only [tabL]
    rw [List.pairwise_append]
    refine ⟨ih, by split <;> simp, fun p hp q hq => ?_⟩
    obtain ⟨k, hk, e, _⟩ := (tab_mem d m p).1 hp
    split at hq
    · simp only [List.mem_cons, List.not_mem_nil, or_false] at hq
      rw [e, hq]; show (k : Int) ≠ (m : Int); omega
    · cases hq
theorem Tb.len {L : List (Int × Int)} {m : Nat} {d : Nat → Int} (h : Tb L m d) (hu : L.Pairwise (fun p q => p.1 ≠ q.1)) : L.length = cnt d m := by
  rw [← tab_len]
  refine len_of_ids hu (tab_ids d m) (fun p => ?_)
  rw [tab_mem]
  constructor
  · exact h.mem p
  · rintro ⟨k, h1, h2, h3⟩
    rw [h2]; exact h.all k h1 (by omega)

theorem noId_head {p : Int × Int} {l : List (Int × Int)} (hu : (p :: l).Pairwise (fun p q => p.1 ≠ q.1)) : noId (p :: l) p.1 = l := by
  unfold noId
  rw [List.filter_cons_of_neg (by simp)]
  rw [List.pairwise_cons] at hu
  exact filter_same (fun q hq => (hu.1 q hq).symm)
/-- the first of those that come is the next -/
theorem first_out {L O : List (Int × Int)} {t : Int} (h : OutOf L t O) {r : Option Int} (hr : LeastIs L r) {p : Int × Int} (hp : O[0]? = some p) : r = some p.2 := by
  have hpm := List.mem_of_getElem? hp
  have hpL := ((h.mem p).1 hpm)
  cases r with
  | none => rw [hr.1 rfl] at hpL; exact absurd hpL.1 (List.not_mem_nil)
  | some x =>
    obtain ⟨⟨q, hq, ex⟩, hx⟩ := hr.2 x rfl
    have h1 := hx p hpL.1
    have hqO : q ∈ O := (h.mem q).2 ⟨hq, by omega⟩
    have h2 : p.2 ≤ q.2 := by
      cases O with
      | nil => cases hqO
      | cons y l =>
        have : y = p := by simpa using hp
        subst this
        have hs := h.srt
        rw [List.pairwise_cons] at hs
        rcases List.mem_cons.1 hqO with e | e
        · rw [e]; omega
        · exact hs.1 q e
    exact congrArg some (by omega)
end Go.Proofs.Ytglbobobifejmaa
