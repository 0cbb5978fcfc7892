
/-
  Two of the program's wheels in one memory; going on step by step.
-/
import Derived.Test.YtglbobobifejmaaQOrder
namespace Go.Proofs.Ytglbobobifejmaa
open Go.RowKit

/-- the wheels at b (n1, L1) and c (n2, L2) lie apart, in blocks of K, none of them in the block A -/
def Twin (K : Nat → Prop) (w : World) (b c : Nat) (n1 : Int) (L1 : List (Int × Int)) (n2 : Int) (L2 : List (Int × Int)) (A : Option Nat) : Prop :=
  ∃ ρ σ, Wh ρ w b n1 L1 ∧ Wh σ w c n2 L2 ∧ (∀ g, ρ g ≠ 0 → σ g = 0) ∧ (∀ g, ρ g ≠ 0 → K g) ∧ (∀ g, σ g ≠ 0 → K g) ∧ ∀ k, A = some k → ρ k = 0 ∧ σ k = 0
theorem Wh.lt {ρ : Nat → Nat} {w : World} {b : Nat} {now : Int} {L : List (Int × Int)} (h : Wh ρ w b now L) : ∀ g, ρ g ≠ 0 → g < w.heap.size := by
  obtain ⟨V, SL, hA, _⟩ := h; exact hA.lt
theorem Wh.but {ρ : Nat → Nat} {w w' : World} {b : Nat} {now : Int} {L : List (Int × Int)} (h : Wh ρ w b now L) {J : Nat → Prop} (hb : But J w w') (hj : ∀ g, J g → ρ g = 0) : Wh ρ w' b now L := by
  obtain ⟨V, SL, hA, hR, hl⟩ := h; exact ⟨V, SL, hA.but hb hj, hR, hl⟩
section
variable {K : Nat → Prop} {w : World} {b c : Nat} {n1 n2 : Int} {L1 L2 : List (Int × Int)} {A : Option Nat}
theorem Twin.swap (h : Twin K w b c n1 L1 n2 L2 A) : Twin K w c b n2 L2 n1 L1 A := by
  obtain ⟨ρ, σ, h1, h2, h3, h4, h5, h6⟩ := h
  exact ⟨σ, ρ, h2, h1, fun g e => Classical.byContradiction fun q => e (h3 g q), h5, h4, fun k hk => ⟨(h6 k hk).2, (h6 k hk).1⟩⟩
theorem Twin.uniq (h : Twin K w b c n1 L1 n2 L2 A) : L1.Pairwise (fun p q => p.1 ≠ q.1) := by
  obtain ⟨ρ, σ, ⟨V, SL, _, hR, _⟩, _⟩ := h; exact hR.uniq
theorem Twin.len64 (h : Twin K w b c n1 L1 n2 L2 A) : L1.length ≤ 64 := by
  obtain ⟨ρ, σ, ⟨V, SL, _, _, hl⟩, _⟩ := h; exact hl
theorem Twin.but (h : Twin K w b c n1 L1 n2 L2 A) {w' : World} {J : Nat → Prop} (hb : But J w w') (hj : ∀ g, J g → ¬ K g) : Twin K w' b c n1 L1 n2 L2 A := by
  obtain ⟨ρ, σ, h1, h2, h3, h4, h5, h6⟩ := h
  exact ⟨ρ, σ, h1.but hb (fun g e => Classical.byContradiction fun q => hj g e (h4 g q)), h2.but hb (fun g e => Classical.byContradiction fun q => hj g e (h5 g q)), h3, h4, h5, h6⟩
theorem Twin.arm (h : Twin K w b c n1 L1 n2 L2 none) (hn : ∀ g, w.heap.size ≤ g → K g) (h0 : 0 ≤ n1) (id t : Int) : Calls Try.prog 11 #[.pointer (some ⟨b, 0, none⟩), .int .i64 id, .int .i64 t] w fun e w' => e = .returned (.int .i64 (arE n1 L1 id t)) ∧ Twin K w' b c n1 (arL n1 L1 id t) n2 L2 none ∧ But K w w' := by
  obtain ⟨ρ, σ, h1, h2, h3, h4, h5, _⟩ := h
  have lt := h2.lt
  refine (arm_any h1 h0 id t).mono ?_
  rintro e w' ⟨rfl, ρ', k1, k2, k3⟩
  refine ⟨rfl, ⟨ρ', σ, k1, h2.but k3 (fun g e => h3 g e), fun g e => ?_, fun g e => ?_, h5, (fun k hk => by cases hk)⟩, k3.mono h4⟩
  · rcases k2.new g e with q | q
    · exact h3 g q
    · exact Classical.byContradiction fun q2 => by have := lt g q2; omega
  · rcases k2.new g e with q | q
    · exact h4 g q
    · exact hn g q
theorem Twin.cancel (h : Twin K w b c n1 L1 n2 L2 none) (id : Int) : Calls Try.prog 13 #[.pointer (some ⟨b, 0, none⟩), .int .i64 id] w fun e w' => e = .returned (.int .i64 (if has L1 id = true then 0 else 7)) ∧ Twin K w' b c n1 (noId L1 id) n2 L2 none ∧ But K w w' := by
  obtain ⟨ρ, σ, h1, h2, h3, h4, h5, h6⟩ := h
  refine (cancel_any h1 id).mono ?_
  rintro e w' ⟨rfl, k1, k3⟩
  exact ⟨rfl, ⟨ρ, σ, k1, h2.but k3 (fun g e => h3 g e), h3, h4, h5, h6⟩, k3.mono h4⟩
theorem Twin.len (h : Twin K w b c n1 L1 n2 L2 A) : Calls Try.prog 23 #[.pointer (some ⟨b, 0, none⟩)] w fun e w' => e = .returned (.int .i64 (L1.length : Int)) ∧ w' = w := by
  obtain ⟨ρ, σ, h1, _⟩ := h; exact len_any h1
theorem Twin.adv (h : Twin K w b c n1 L1 n2 L2 A) (t : Int) (hg : adBad n1 t = false) : Calls Try.prog 17 #[.pointer (some ⟨b, 0, none⟩), .int .i64 t] w fun e w' => ∃ O v, e = .returned (.tuple #[v, .int .i64 0]) ∧ OutOf L1 t O ∧ w'.ownsRow w.heap.size 49 2 v O.length (flt O) ∧ Twin K w' b c t (stay L1 t) n2 L2 A ∧ (A = none → Twin K w' b c t (stay L1 t) n2 L2 v.ownBlock) ∧ But (fun g => K g ∧ A ≠ some g) w w' := by
  obtain ⟨ρ, σ, h1, h2, h3, h4, h5, h6⟩ := h
  have lt1 := h1.lt
  have lt2 := h2.lt
  refine (advance_any h1 t).mono ?_
  rintro e w' (⟨q, _⟩ | ⟨_, O, v, rfl, k1, k2, k3, k4⟩)
  · rw [hg] at q; cases q
  · have s2 := h2.but k4 (fun g e => h3 g e)
    refine ⟨O, v, rfl, k1, k2, ⟨ρ, σ, k3, s2, h3, h4, h5, h6⟩, fun _ => ⟨ρ, σ, k3, s2, h3, h4, h5, fun k hk => ?_⟩, k4.mono (fun g e => ⟨h4 g e, fun q => e (h6 g q).1⟩)⟩
    have := (row_own_ge k2 k hk).1
    exact ⟨Classical.byContradiction fun q => by have := lt1 k q; omega, Classical.byContradiction fun q => by have := lt2 k q; omega⟩
end
/-- at the beginning -/
theorem Twin.new {n : Nat} {w1 w2 w3 : World} {now : Int} (hn : n ≤ w1.heap.size) (h1 : On w1.heap.size w2 w1.heap.size now []) (h2 : On w2.heap.size w3 w2.heap.size now []) (b3 : Below w2.heap.size w2 w3) : Twin (fun g => n ≤ g ∧ g ≠ w3.heap.size) w3 w1.heap.size w2.heap.size now [] now [] none := by
  obtain ⟨ρ, a1, a2⟩ := h1
  obtain ⟨σ, c1, c2⟩ := h2
  have l1 := a1.lt
  have l2 := c1.lt
  have h12 : w1.heap.size < w2.heap.size := by obtain ⟨V, SL, hA, _⟩ := a1; exact hA.blt
  have h23 := b3.size
  refine ⟨ρ, σ, ?_, c1, fun g e => Classical.byContradiction fun q => ?_, fun g e => ?_, fun g e => ?_, (fun k hk => by cases hk)⟩
  · obtain ⟨V, SL, hA, hR, hl⟩ := a1; exact ⟨V, SL, hA.later b3, hR, hl⟩
  · have := l1 g e; have := c2 g q; omega
  · have := l1 g e; have := a2 g e; exact ⟨by omega, by omega⟩
  · have := l2 g e; have := c2 g e; exact ⟨by omega, by omega⟩

theorem split_next : ∀ {O : List (Int × Int)} (τ : Int), O.Pairwise (fun p q => p.2 ≤ q.2) → O.filter (fun p => decide (τ < p.2)) = O.filter (fun p => decide (p.2 = τ + 1)) ++ O.filter (fun p => decide (τ + 1 < p.2))
  | [], _, _ => rfl
  | p :: l, τ, h => by
    rw [List.pairwise_cons] at h
    have ih := split_next τ h.2
    by_cases e1 : p.2 = τ + 1
    · rw [List.filter_cons_of_pos (by simp; omega), List.filter_cons_of_pos (by simp; omega), List.filter_cons_of_neg (by simp; omega), ih]; rfl
    · by_cases e2 : τ + 1 < p.2
      · have : l.filter (fun p => decide (p.2 = τ + 1)) = [] := by
          rw [List.filter_eq_nil_iff]
          intro q hq
          have := h.1 q hq
          simp; omega
        rw [this] at ih
        rw [List.filter_cons_of_pos (by simp; omega), List.filter_cons_of_neg (by simp; omega), List.filter_cons_of_pos (by simp; omega), this, ih]; rfl
      · rw [List.filter_cons_of_neg (by simp; omega), List.filter_cons_of_neg (by simp; omega), List.filter_cons_of_neg (by simp; omega), ih]
theorem stay_stay (L : List (Int × Int)) (s t : Int) (h : s ≤ t) : stay (stay L s) t = stay L t := by
  unfold stay
  rw [List.filter_filter]
  apply List.filter_congr
  intro p _
  by_cases e : t < p.2
  · simp [e]; omega
  · simp [e]
/-- what one tick brings is what stands next in all -/
theorem one_tick {L O O1 : List (Int × Int)} {τ far : Int} (h : OutOf L far O) (h1 : OutOf (stay L τ) (τ + 1) O1) (hf : τ + 1 ≤ far) : O.filter (fun p => decide (τ < p.2)) = O1 ++ O.filter (fun p => decide (τ + 1 < p.2)) := by
  rw [split_next τ h.srt]
  congr 1
  rw [h.tick (τ + 1)]
  have all1 : ∀ p ∈ O1, p.2 = τ + 1 := fun p hp => by
    obtain ⟨a, c⟩ := (h1.mem p).1 hp
    have := (List.mem_filter.1 a).2
    simp only [decide_eq_true_eq] at this
    omega
  have e1 := h1.tick (τ + 1)
  rw [List.filter_eq_self.2 (fun p hp => by simpa using all1 p hp)] at e1
  rw [e1]
  unfold stay
  simp only [List.filter_filter]
  apply List.filter_congr
  intro p _
  by_cases e : p.2 = τ + 1
  · simp [e]; omega
  · simp [e]
theorem one_tick_all {L O1 : List (Int × Int)} {τ : Int} (h1 : OutOf (stay L τ) (τ + 1) O1) : ∀ p ∈ O1, p.2 = τ + 1 := fun p hp => by
  obtain ⟨a, c⟩ := (h1.mem p).1 hp
  have := (List.mem_filter.1 a).2
  simp only [decide_eq_true_eq] at this
  omega
end Go.Proofs.Ytglbobobifejmaa
