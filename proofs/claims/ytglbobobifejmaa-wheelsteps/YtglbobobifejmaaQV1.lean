
/-
  What comes, by numbers.
-/
import Derived.Test.YtglbobobifejmaaQU
namespace Go.Proofs.Ytglbobobifejmaa

theorem len_of_ids : ∀ {l1 l2 : List (Int × Int)}, l1.Pairwise (fun p q => p.1 ≠ q.1) → l2.Pairwise (fun p q => p.1 ≠ q.1) → (∀ p, p ∈ l1 ↔ p ∈ l2) → l1.length = l2.length
  | [], l2, _, _, h => by
    cases l2 with
    | nil => rfl
    | cons a r => exact absurd ((h a).2 (by simp)) (by simp)
  | a :: r, l2, h1, h2, h => by
    rw [List.pairwise_cons] at h1
    have ha : a ∈ l2 := (h a).1 (by simp)
    have hl := filter_len h2 (id := a.1) (t := a.2) ha
    have := len_of_ids (l1 := r) (l2 := l2.filter (fun p => decide (p.1 ≠ a.1))) h1.2 (h2.filter _) (fun p => by
      rw [List.mem_filter]
      constructor
      · intro hp
        exact ⟨(h p).1 (List.mem_cons_of_mem _ hp), by have := h1.1 p hp; simpa using fun e => this e.symm⟩
      · rintro ⟨hp, hne⟩
        rcases List.mem_cons.1 ((h p).2 hp) with e | e
        · rw [e] at hne; simp at hne
        · exact e)
    rw [List.length_cons]
    omega

/-- all slots up to k, one behind the other -/
def flatS (SL : Nat → List (Int × Int)) : Nat → List (Int × Int)
  | 0 => []
  | k + 1 => flatS SL k ++ SL k
theorem flat_len (SL : Nat → List (Int × Int)) (k : Nat) : (flatS SL k).length = tot SL k := by
  induction k with
  | zero => rfl
  | succ k ih => unfold flatS tot; rw [List.length_append, ih]
theorem flat_mem (SL : Nat → List (Int × Int)) (k : Nat) (p : Int × Int) : p ∈ flatS SL k ↔ ∃ s, s < k ∧ p ∈ SL s := by
  induction k with
  | zero => simp [flatS]
  | succ k ih =>
    unfold flatS
    rw [List.mem_append, ih]
    constructor
    · rintro (⟨s, h1, h2⟩ | h)
      · exact ⟨s, by omega, h2⟩
      · exact ⟨k, by omega, h⟩
    · rintro ⟨s, h1, h2⟩
      by_cases e : s = k
      · subst e; exact .inr h2
      · exact .inl ⟨s, by omega, h2⟩
theorem flat_ids (SL : Nat → List (Int × Int)) (hi : ∀ s, s < 64 → (SL s).Pairwise (fun p q => p.1 ≠ q.1)) (ha : ∀ s t, s < 64 → t < 64 → s ≠ t → ∀ p ∈ SL s, ∀ q ∈ SL t, p.1 ≠ q.1) (k : Nat) (hk : k ≤ 64) : (flatS SL k).Pairwise (fun p q => p.1 ≠ q.1) := by
  induction k with
  | zero => exact List.Pairwise.nil
  | succ k ih =>
    unfold flatS
    refine List.pairwise_append.2 ⟨ih (by omega), hi k (by omega), fun p hp q hq => ?_⟩
    obtain ⟨s, h1, h2⟩ := (flat_mem SL k p).1 hp
    exact ha s k (by omega) (by omega) (by omega) p h2 q hq

section
variable {L : List (Int × Int)} {SL : Nat → List (Int × Int)}
theorem Rel.part_len (h : Rel L SL) (f : Int × Int → Bool) (SL' : Nat → List (Int × Int)) (hf : ∀ s, s < 64 → SL' s = (SL s).filter f) : tot SL' 64 = (L.filter f).length := by
  rw [← flat_len]
  refine len_of_ids (flat_ids SL' (fun s hs => by rw [hf s hs]; exact (h.ids s hs).filter _) (fun s t hs ht hne p hp q hq => by
    rw [hf s hs] at hp; rw [hf t ht] at hq
    exact h.apart s t hs ht hne p (List.mem_filter.1 hp).1 q (List.mem_filter.1 hq).1) 64 (Nat.le_refl _)) (h.uniq.filter _) (fun p => ?_)
  rw [flat_mem, List.mem_filter]
  constructor
  · rintro ⟨s, hs, hp⟩
    rw [hf s hs, List.mem_filter] at hp
    exact ⟨h.of_slot hs hp.1, hp.2⟩
  · rintro ⟨hp, hfp⟩
    obtain ⟨h1, h2⟩ := h.to_slot hp
    exact ⟨_, h1, by rw [hf _ h1, List.mem_filter]; exact ⟨h2, hfp⟩⟩
theorem Rel.rest (h : Rel L SL) (t : Int) : Rel (L.filter (fun p => decide (t < p.2))) (mixS SL t 64) := by
  have hf : ∀ s, s < 64 → mixS SL t 64 s = (SL s).filter (fun p => decide (t < p.2)) := fun s hs => by unfold mixS; rw [if_pos hs]
  exact h.part _ _ hf (h.part_len _ _ hf)

/-- O are those of L up to a tick, by rising ticks, those of one tick in the order in which they were armed -/
structure OutOf (L : List (Int × Int)) (t : Int) (O : List (Int × Int)) : Prop where
  srt : O.Pairwise (fun p q => p.2 ≤ q.2)
  tick : ∀ τ, O.filter (fun p => decide (p.2 = τ)) = (L.filter (fun p => decide (p.2 ≤ t))).filter (fun p => decide (p.2 = τ))
theorem OutOf.same {t : Int} {O O' : List (Int × Int)} (h : OutOf L t O) (k : OutOf L t O') : O = O' := by_ticks h.srt k.srt (fun τ => (h.tick τ).trans (k.tick τ).symm)
theorem cm_tick (SL : Nat → List (Int × Int)) (hh : ∀ s, s < 64 → ∀ p ∈ SL s, 0 ≤ p.2 ∧ p.2 % 64 = (s : Int)) (t τ : Int) (k : Nat) (hk : k ≤ 64) :
    (cmK SL t k).filter (fun p => decide (p.2 = τ)) = if 0 ≤ τ ∧ (τ % 64).toNat < k then ((SL (τ % 64).toNat).filter (fun p => decide (p.2 ≤ t))).filter (fun p => decide (p.2 = τ)) else [] := by
  induction k with
  | zero => rw [if_neg (by omega)]; rfl
  | succ k ih =>
    unfold cmK
    rw [List.filter_append, ih (by omega)]
    by_cases e : 0 ≤ τ ∧ (τ % 64).toNat = k
    · rw [if_neg (by omega), if_pos (by omega), e.2, List.nil_append]
    · have en : ((SL k).filter (fun p => decide (p.2 ≤ t))).filter (fun p => decide (p.2 = τ)) = [] := List.filter_eq_nil_iff.2 (fun q hq => by
        have hq := (List.mem_filter.1 hq).1
        have := hh k (by omega) q hq
        simp only [decide_eq_true_eq]
        intro e2
        apply e
        rw [← e2]
        omega)
      rw [en, List.append_nil]
      by_cases c : 0 ≤ τ ∧ (τ % 64).toNat < k
      · rw [if_pos c, if_pos (by omega)]
      · rw [if_neg c, if_neg (by omega)]
theorem Rel.cm (h : Rel L SL) (t τ : Int) : (cmK SL t 64).filter (fun p => decide (p.2 = τ)) = (L.filter (fun p => decide (p.2 ≤ t))).filter (fun p => decide (p.2 = τ)) := by
  rw [cm_tick SL h.home t τ 64 (Nat.le_refl _)]
  have sw : ∀ l : List (Int × Int), (l.filter (fun p => decide (p.2 ≤ t))).filter (fun p => decide (p.2 = τ)) = (l.filter (fun p => decide (p.2 = τ))).filter (fun p => decide (p.2 ≤ t)) := fun l => by
    rw [List.filter_filter, List.filter_filter]; congr 1; funext a; rw [Bool.and_comm]
  by_cases c : 0 ≤ τ
  · rw [if_pos ⟨c, t64 τ c⟩, sw, sw, h.tick τ c]
  · rw [if_neg (fun e => c e.1)]
    exact (List.filter_eq_nil_iff.2 (fun q hq => by
      have := h.pos q (List.mem_filter.1 hq).1
      simp; omega)).symm

/-- tags told by their members -/
theorem tags_same : ∀ {l1 l2 : List Tg}, l1.Pairwise (fun x y => x.tag < y.tag) → l2.Pairwise (fun x y => x.tag < y.tag) → (∀ x, x ∈ l1 ↔ x ∈ l2) → l1 = l2
  | [], [], _, _, _ => rfl
  | [], b :: r, _, _, h => absurd ((h b).2 (by simp)) (by simp)
  | a :: r, [], _, _, h => absurd ((h a).1 (by simp)) (by simp)
  | a :: r, b :: r', h1, h2, h => by
    rw [List.pairwise_cons] at h1 h2
    have ea : a = b := by
      rcases List.mem_cons.1 ((h a).1 (by simp)) with e | e
      · exact e
      · rcases List.mem_cons.1 ((h b).2 (by simp)) with e' | e'
        · exact e'.symm
        · have := h2.1 a e; have := h1.1 b e'; omega
    subst ea
    refine congrArg _ (tags_same h1.2 h2.2 (fun x => ?_))
    constructor
    · intro hx
      rcases List.mem_cons.1 ((h x).1 (List.mem_cons_of_mem _ hx)) with e | e
      · have := h1.1 x hx; rw [e] at this; omega
      · exact e
    · intro hx
      rcases List.mem_cons.1 ((h x).2 (List.mem_cons_of_mem _ hx)) with e | e
      · have := h2.1 x hx; rw [e] at this; omega
      · exact e
/-- a list with its places as tags -/
def tagF (C : List (Int × Int)) : Nat → Tg := fun i => ⟨((C[i]?).getD (0, 0)).1, ((C[i]?).getD (0, 0)).2, i⟩
def listF (f : Nat → Tg) (n : Nat) : List (Int × Int) := (List.range n).map (fun i => ((f i).id, (f i).tm))
theorem listF_tag (C : List (Int × Int)) : listF (tagF C) C.length = C := by
  unfold listF
  apply List.ext_getElem?
  intro i
  rw [List.getElem?_map]
  by_cases h : i < C.length
  · rw [List.getElem?_range h, List.getElem?_eq_getElem h]
    simp [tagF, List.getElem?_eq_getElem h]
  · rw [List.getElem?_eq_none (by simpa using h), List.getElem?_eq_none (by omega)]; rfl
theorem sorted_out {C : List (Int × Int)} {f' : Nat → Tg} (hp : Pm 0 C.length (tagF C) f') (hs : Srt f' 0 C.length) : (listF f' C.length).Pairwise (fun p q => p.2 ≤ q.2) ∧ ∀ τ, (listF f' C.length).filter (fun p => decide (p.2 = τ)) = C.filter (fun p => decide (p.2 = τ)) := by
  obtain ⟨s, t, h1, h2, h3, h4⟩ := hp
  have hsb : ∀ i, i < C.length ↔ s i < C.length := fun i => by
    constructor
    · intro h
      apply Classical.byContradiction
      intro c
      have := h4 (s i) (by omega)
      have e : s i = i := by have := congrArg t this; rw [h2, h2] at this; exact this
      omega
    · intro h
      apply Classical.byContradiction
      intro c
      have := h4 i (by omega)
      omega
  refine ⟨?_, fun τ => ?_⟩
  · unfold listF
    rw [List.pairwise_map, List.pairwise_iff_getElem]
    intro i j hi hj hij
    simp only [List.length_range] at hi hj
    simp only [List.getElem_range]
    have := hs i j (Nat.zero_le _) hij hj
    unfold Tg.lt at this
    omega
  · obtain ⟨T', eT'⟩ : ∃ T', (List.range C.length).map f' = T' := ⟨_, rfl⟩
    obtain ⟨T, eT⟩ : ∃ T, (List.range C.length).map (tagF C) = T := ⟨_, rfl⟩
    have e1 : listF f' C.length = T'.map (fun x => (x.id, x.tm)) := by rw [← eT', List.map_map]; rfl
    have e2 : C = T.map (fun x => (x.id, x.tm)) := by rw [← eT, List.map_map]; exact (listF_tag C).symm
    have key : T'.filter (fun x => decide (x.tm = τ)) = T.filter (fun x => decide (x.tm = τ)) := by
      refine tags_same ?_ ?_ (fun x => ?_)
      · rw [← eT', List.filter_map, List.pairwise_map, List.pairwise_filter]
        rw [List.pairwise_iff_getElem]
        intro i j hi hj hij
        simp only [List.length_range] at hi hj
        simp only [List.getElem_range, Function.comp_apply, decide_eq_true_eq]
        intro q1 q2
        have := hs i j (Nat.zero_le _) hij hj
        unfold Tg.lt at this
        omega
      · rw [← eT, List.filter_map, List.pairwise_map, List.pairwise_filter]
        rw [List.pairwise_iff_getElem]
        intro i j hi hj hij
        simp only [List.getElem_range, tagF]
        exact fun _ _ => hij
      · rw [List.mem_filter, List.mem_filter]
        refine and_congr_left fun _ => ?_
        rw [← eT', ← eT]
        simp only [List.mem_map, List.mem_range]
        constructor
        · rintro ⟨i, hi, rfl⟩
          exact ⟨s i, (hsb i).1 hi, (h1 i).symm⟩
        · rintro ⟨i, hi, rfl⟩
          refine ⟨t i, (hsb (t i)).2 (by rw [h3]; exact hi), by rw [h1, h3]⟩
    rw [e1]
    conv => rhs; rw [e2]
    rw [List.filter_map, List.filter_map]
    exact congrArg _ key
end
end Go.Proofs.Ytglbobobifejmaa
