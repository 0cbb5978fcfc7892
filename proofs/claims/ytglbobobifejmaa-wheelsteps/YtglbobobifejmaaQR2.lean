
/-
  Arming, and what is told by ticks.
-/
import Derived.Test.YtglbobobifejmaaQR
namespace Go.Proofs.Ytglbobobifejmaa

section
variable {L : List (Int × Int)} {SL : Nat → List (Int × Int)}
theorem insAt_filter (l : List (Int × Int)) (k : Nat) (p : Int × Int) (f : Int × Int → Bool) : (insAt l k p).filter f = (l.take k).filter f ++ (if f p = true then [p] else []) ++ (l.drop k).filter f := by
  unfold insAt
  rw [List.filter_append, List.filter_append]
  congr 2
  by_cases h : f p = true
  · rw [if_pos h]; simp [h]
  · rw [if_neg h]; simp [h]
theorem Rel.arm (h : Rel L SL) (id t : Int) (ht : 0 ≤ t) (hn : ∀ p ∈ L, p.1 ≠ id) : Rel (L ++ [(id, t)]) (upd SL (t % 64).toNat (insAt (SL (t % 64).toNat) (plc (SL (t % 64).toNat) t) (id, t))) := by
  obtain ⟨s, hs⟩ : ∃ s, (t % 64).toNat = s := ⟨_, rfl⟩
  have s64 := t64 t ht
  rw [hs] at s64 ⊢
  have sp := plc_split (SL s) t (h.srt s s64)
  have hle := plc_le (SL s) t
  have hmem : ∀ q, q ∈ insAt (SL s) (plc (SL s) t) (id, t) → q = (id, t) ∨ q ∈ SL s := fun q hq => by
    unfold insAt at hq
    simp only [List.mem_append, List.mem_cons, List.not_mem_nil, or_false] at hq
    rcases hq with (hq | hq) | hq
    · exact .inr (List.mem_of_mem_take hq)
    · exact .inl hq
    · exact .inr (List.mem_of_mem_drop hq)
  have hid : ∀ s', s' < 64 → ∀ q ∈ SL s', q.1 ≠ id := fun s' hs' q hq => hn q (h.of_slot hs' hq)
  refine ⟨fun s' hs' p hp => ?_, fun s' hs' => ?_, fun τ hτ => ?_, ?_, fun s' hs' => ?_, fun s1 s2 h1 h2 hne p hp q hq => ?_, ?_, fun p hp => ?_⟩
  · by_cases e : s' = s
    · subst e
      rw [upd_same] at hp
      rcases hmem p hp with rfl | hp
      · exact ⟨ht, by show t % 64 = _; omega⟩
      · exact h.home s' hs' p hp
    · rw [upd_other _ _ _ _ e] at hp; exact h.home s' hs' p hp
  · by_cases e : s' = s
    · subst e
      rw [upd_same]
      have hp := h.srt s' hs'
      rw [← List.take_append_drop (plc (SL s') t) (SL s')] at hp
      obtain ⟨p1, p2, p3⟩ := List.pairwise_append.1 hp
      unfold insAt
      refine List.pairwise_append.2 ⟨List.pairwise_append.2 ⟨p1, List.pairwise_singleton _ _, fun a ha b hb => ?_⟩, p2, fun a ha b hb => ?_⟩
      · simp only [List.mem_cons, List.not_mem_nil, or_false] at hb
        rw [hb]; exact sp.1 a ha
      · rcases List.mem_append.1 ha with ha | ha
        · exact p3 a ha b hb
        · simp only [List.mem_cons, List.not_mem_nil, or_false] at ha
          rw [ha]; have := sp.2 b hb; show t ≤ b.2; omega
    · rw [upd_other _ _ _ _ e]; exact h.srt s' hs'
  · rw [List.filter_append]
    have ek := h.tick τ hτ
    by_cases e : (τ % 64).toNat = s
    · rw [e] at ek ⊢
      rw [upd_same, insAt_filter]
      have es : (SL s).filter (fun p => decide (p.2 = τ)) = ((SL s).take (plc (SL s) t)).filter (fun p => decide (p.2 = τ)) ++ ((SL s).drop (plc (SL s) t)).filter (fun p => decide (p.2 = τ)) := by rw [← List.filter_append, List.take_append_drop]
      by_cases eτ : t = τ
      · have ed : ((SL s).drop (plc (SL s) t)).filter (fun p => decide (p.2 = τ)) = [] := List.filter_eq_nil_iff.2 (fun q hq => by have := sp.2 q hq; simp; omega)
        rw [ed, List.append_nil] at es
        rw [ed, List.append_nil, ← es, ek, if_pos (by simpa using eτ)]
        congr 1
        simp [eτ]
      · rw [if_neg (by simpa using eτ), List.append_nil, ← es, ek]
        simp [eτ]
    · rw [upd_other _ _ _ _ e, ek]
      have : t ≠ τ := fun q => e (by rw [← q]; exact hs)
      simp [this]
  · have h1 := tot_upd64 SL s s64 (insAt (SL s) (plc (SL s) t) (id, t))
    have h2 := h.count
    rw [insAt_len _ _ _ hle] at h1
    rw [List.length_append]
    simp
    omega
  · by_cases e : s' = s
    · subst e
      rw [upd_same]
      have hp := h.ids s' hs'
      rw [← List.take_append_drop (plc (SL s') t) (SL s')] at hp
      obtain ⟨p1, p2, p3⟩ := List.pairwise_append.1 hp
      unfold insAt
      refine List.pairwise_append.2 ⟨List.pairwise_append.2 ⟨p1, List.pairwise_singleton _ _, fun a ha b hb => ?_⟩, p2, fun a ha b hb => ?_⟩
      · simp only [List.mem_cons, List.not_mem_nil, or_false] at hb
        rw [hb]; exact hid s' hs' a (List.mem_of_mem_take ha)
      · rcases List.mem_append.1 ha with ha | ha
        · exact p3 a ha b hb
        · simp only [List.mem_cons, List.not_mem_nil, or_false] at ha
          rw [ha]; exact fun q => hid s' hs' b (List.mem_of_mem_drop hb) q.symm
    · rw [upd_other _ _ _ _ e]; exact h.ids s' hs'
  · by_cases e1 : s1 = s
    · subst e1
      rw [upd_same] at hp
      rw [upd_other _ _ _ _ (fun q => hne q.symm)] at hq
      rcases hmem p hp with rfl | hp
      · exact fun q' => hid s2 h2 q hq q'.symm
      · exact h.apart s1 s2 h1 h2 hne p hp q hq
    · rw [upd_other _ _ _ _ e1] at hp
      by_cases e2 : s2 = s
      · subst e2
        rw [upd_same] at hq
        rcases hmem q hq with rfl | hq
        · exact hid s1 h1 p hp
        · exact h.apart s1 s2 h1 h2 hne p hp q hq
      · rw [upd_other _ _ _ _ e2] at hq
        exact h.apart s1 s2 h1 h2 hne p hp q hq
  · refine List.pairwise_append.2 ⟨h.uniq, List.pairwise_singleton _ _, fun a ha b hb => ?_⟩
    simp only [List.mem_cons, List.not_mem_nil, or_false] at hb
    rw [hb]; exact hn a ha
  · rcases List.mem_append.1 hp with hp | hp
    · exact h.pos p hp
    · simp only [List.mem_cons, List.not_mem_nil, or_false] at hp
      rw [hp]; exact ht

/-- timers by rising ticks are told by those of each tick -/
theorem by_ticks : ∀ {l1 l2 : List (Int × Int)}, l1.Pairwise (fun p q => p.2 ≤ q.2) → l2.Pairwise (fun p q => p.2 ≤ q.2) → (∀ t, l1.filter (fun p => decide (p.2 = t)) = l2.filter (fun p => decide (p.2 = t))) → l1 = l2
  | [], [], _, _, _ => rfl
  | [], b :: r, _, _, h => by have := h b.2; simp at this
  | a :: r, [], _, _, h => by have := h a.2; simp at this
  | a :: r, b :: r', h1, h2, h => by
    have ha := h a.2
    have hb := h b.2
    rw [List.pairwise_cons] at h1 h2
    have ma : a ∈ b :: r' := (List.mem_filter.1 (by rw [← ha]; simp : a ∈ (b :: r').filter (fun p => decide (p.2 = a.2)))).1
    have mb : b ∈ a :: r := (List.mem_filter.1 (by rw [hb]; simp : b ∈ (a :: r).filter (fun p => decide (p.2 = b.2)))).1
    have e : a.2 = b.2 := by
      have u : b.2 ≤ a.2 := by
        rcases List.mem_cons.1 ma with q | q
        · rw [q]; exact Int.le_refl _
        · exact h2.1 a q
      have v : a.2 ≤ b.2 := by
        rcases List.mem_cons.1 mb with q | q
        · rw [q]; exact Int.le_refl _
        · exact h1.1 b q
      omega
    rw [List.filter_cons, List.filter_cons, if_pos (by simp), if_pos (by simp [e])] at ha
    have eab : a = b := (List.cons.inj ha).1
    subst eab
    refine congrArg _ (by_ticks h1.2 h2.2 (fun t => ?_))
    have ht := h t
    rw [List.filter_cons, List.filter_cons] at ht
    by_cases c : decide (a.2 = t) = true
    · rw [if_pos c, if_pos c] at ht; exact (List.cons.inj ht).2
    · rw [if_neg c, if_neg c] at ht; exact ht
end
end Go.Proofs.Ytglbobobifejmaa
