
/-
  symMergeCmpFunc: what it does to places.
-/
import Derived.Test.YtglbobobifejmaaQ4
namespace Go.Proofs.Ytglbobobifejmaa
open Go.RowKit

theorem Srt.le {f : Nat → Tg} {a b : Nat} (h : Srt f a b) {i j : Nat} (h1 : a ≤ i) (h2 : i ≤ j) (h3 : j < b) : f i = f j ∨ (f i).lt (f j) := by
  by_cases e : i = j
  · rw [e]; exact .inl rfl
  · exact .inr (h i j h1 (by omega) h3)
theorem lt_of_le_lt {x y z : Tg} (h : x = y ∨ x.lt y) (k : y.lt z) : x.lt z := by
  rcases h with rfl | h
  · exact k
  · exact Tg.lt_trans h k
theorem lt_of_lt_le {x y z : Tg} (h : x.lt y) (k : y = z ∨ y.lt z) : x.lt z := by
  rcases k with rfl | k
  · exact h
  · exact Tg.lt_trans h k

theorem RowT.drew {B : Nat} {w : World} {g n cap : Nat} {f : Nat → Tg} (h : RowT B w g n cap f) : RowT B w.drew g n cap f := h.later ⟨rfl, rfl, rfl, Nat.le_refl _, fun _ _ => rfl⟩

/-- the first one goes up to the place k -/
def mvR (f : Nat → Tg) (a k : Nat) : Nat → Tg := fun x => if a ≤ x ∧ x < k then f (x + 1) else if x = k then f a else f x
theorem mvR_zero (f : Nat → Tg) (a : Nat) : mvR f a a = f := by
  funext x; unfold mvR; rw [if_neg (by omega)]; split
  · rename_i e; rw [e]
  · rfl
theorem mvR_succ (f : Nat → Tg) (a k : Nat) (h : a ≤ k) : swp (mvR f a k) k (k + 1) = mvR f a (k + 1) := by
  funext x
  unfold swp mvR
  by_cases e1 : x = k
  · subst e1
    rw [if_pos rfl, if_neg (by omega), if_neg (by omega), if_pos (by omega)]
  · rw [if_neg e1]
    by_cases e2 : x = k + 1
    · subst e2
      rw [if_pos rfl, if_neg (by omega), if_pos rfl, if_neg (by omega), if_pos rfl]
    · rw [if_neg e2]
      by_cases h1 : a ≤ x ∧ x < k
      · rw [if_pos h1, if_pos (show a ≤ x ∧ x < k + 1 by omega)]
      · rw [if_neg h1, if_neg e1, if_neg (show ¬ (a ≤ x ∧ x < k + 1) by omega), if_neg e2]
theorem mvR_srt {f : Nat → Tg} {a b i : Nat} (hs : Srt f (a + 1) b) (h1 : a + 1 ≤ i) (h2 : i ≤ b) (lo : ∀ x, a + 1 ≤ x → x < i → (f x).lt (f a)) (hi : ∀ x, i ≤ x → x < b → (f a).lt (f x)) : Srt (mvR f a (i - 1)) a b := by
  intro p q hp hpq hq
  unfold mvR
  by_cases e1 : a ≤ p ∧ p < i - 1
  · rw [if_pos e1]
    by_cases e2 : a ≤ q ∧ q < i - 1
    · rw [if_pos e2]; exact hs _ _ (by omega) (by omega) (by omega)
    · rw [if_neg e2]
      by_cases e3 : q = i - 1
      · rw [if_pos e3]; exact lo _ (by omega) (by omega)
      · rw [if_neg e3]; exact Tg.lt_trans (lo _ (by omega) (by omega)) (hi q (by omega) hq)
  · rw [if_neg e1]
    by_cases e2 : p = i - 1
    · rw [if_pos e2, if_neg (by omega), if_neg (by omega)]; exact hi q (by omega) hq
    · rw [if_neg e2, if_neg (by omega), if_neg (by omega)]; exact hs _ _ (by omega) hpq hq

/-- the last one goes down to the place k -/
def mvL (f : Nat → Tg) (m k : Nat) : Nat → Tg := fun x => if x = k then f m else if k < x ∧ x ≤ m then f (x - 1) else f x
theorem mvL_zero (f : Nat → Tg) (m : Nat) : mvL f m m = f := by
  funext x; unfold mvL; split
  · rename_i e; rw [e]
  · rw [if_neg (by omega)]
theorem mvL_succ (f : Nat → Tg) (m k : Nat) (h : k + 1 ≤ m) : swp (mvL f m (k + 1)) (k + 1) k = mvL f m k := by
  funext x
  unfold swp mvL
  by_cases e1 : x = k + 1
  · subst e1
    rw [if_pos rfl, if_neg (by omega), if_neg (by omega), if_neg (by omega), if_pos (by omega), Nat.add_sub_cancel]
  · rw [if_neg e1]
    by_cases e2 : x = k
    · subst e2
      rw [if_pos rfl, if_pos rfl, if_pos rfl]
    · rw [if_neg e2, if_neg e1, if_neg e2]
      by_cases h1 : k + 1 < x ∧ x ≤ m
      · rw [if_pos h1, if_pos (show k < x ∧ x ≤ m by omega)]
      · rw [if_neg h1, if_neg (show ¬ (k < x ∧ x ≤ m) by omega)]
theorem mvL_srt {f : Nat → Tg} {a m i : Nat} (hs : Srt f a m) (h1 : a ≤ i) (h2 : i ≤ m) (lo : ∀ x, a ≤ x → x < i → (f x).lt (f m)) (hi : ∀ x, i ≤ x → x < m → (f m).lt (f x)) : Srt (mvL f m i) a (m + 1) := by
  intro p q hp hpq hq
  unfold mvL
  by_cases e1 : p = i
  · rw [if_pos e1, if_neg (by omega), if_pos (by omega)]; exact hi _ (by omega) (by omega)
  · rw [if_neg e1]
    by_cases e2 : i < p ∧ p ≤ m
    · rw [if_pos e2, if_neg (by omega), if_pos (by omega)]; exact hs _ _ (by omega) (by omega) (by omega)
    · rw [if_neg e2]
      by_cases e3 : q = i
      · rw [if_pos e3]; exact lo p hp (by omega)
      · rw [if_neg e3]
        by_cases e4 : i < q ∧ q ≤ m
        · rw [if_pos e4]; exact Tg.lt_trans (lo p hp (by omega)) (hi _ (by omega) (by omega))
        · rw [if_neg e4]; exact hs _ _ hp hpq (by omega)

/-- two runs, one behind the other, the tags of the first below those of the second -/
structure Two (f : Nat → Tg) (a m b : Nat) : Prop where
  l : Srt f a m
  r : Srt f m b
  t : ∀ i j, a ≤ i → i < m → m ≤ j → j < b → (f i).tag < (f j).tag
theorem Two.lt {f : Nat → Tg} {a m b : Nat} (h : Two f a m b) {i j : Nat} (h1 : a ≤ i) (h2 : i < m) (h3 : m ≤ j) (h4 : j < b) (hc : ¬ (f j).tm < (f i).tm) : (f i).lt (f j) := by
  have := h.t i j h1 h2 h3 h4
  unfold Tg.lt; omega

/-- what the search has found: the lower half and the upper half -/
theorem rot_in (f : Nat → Tg) {s m e mid : Nat} (hs : s ≤ m) (he : m ≤ e) (hm : e = mid + m - s) (hsm : s ≤ mid) (x : Nat) : rot f s m e x = if s ≤ x ∧ x < mid then f (x + (m - s)) else if mid ≤ x ∧ x < e then f (x - (mid - s)) else f x := by
  unfold rot
  rw [show s + (e - m) = mid by omega, show e - m = mid - s by omega]
theorem Two.halves {f : Nat → Tg} {a m b s e mid : Nat} (h : Two f a m b) (h1 : a ≤ s) (h2 : s ≤ m) (h3 : m ≤ e) (h4 : e ≤ b) (h5 : e = mid + m - s) (h6 : s ≤ mid) (h7 : mid ≤ b)
    (c1 : a < s → e < b → (f (s - 1)).lt (f e)) (c2 : m < e → s < m → (f (e - 1)).lt (f s)) :
    Two (rot f s m e) a s mid ∧ Two (rot f s m e) mid e b ∧ ∀ x y, a ≤ x → x < mid → mid ≤ y → y < b → (rot f s m e x).lt (rot f s m e y) := by
  have R := rot_in f h2 h3 h5 h6
  have ra : ∀ x, x < s → rot f s m e x = f x := fun x hx => by rw [R, if_neg (by omega), if_neg (by omega)]
  have rb : ∀ x, s ≤ x → x < mid → rot f s m e x = f (x + (m - s)) := fun x g1 g2 => by rw [R, if_pos ⟨g1, g2⟩]
  have rc : ∀ x, mid ≤ x → x < e → rot f s m e x = f (x - (mid - s)) := fun x g1 g2 => by rw [R, if_neg (by omega), if_pos ⟨g1, g2⟩]
  have rd : ∀ x, e ≤ x → rot f s m e x = f x := fun x hx => by rw [R, if_neg (by omega), if_neg (by omega)]
  refine ⟨⟨fun i j g1 g2 g3 => ?_, fun i j g1 g2 g3 => ?_, fun i j g1 g2 g3 g4 => ?_⟩, ⟨fun i j g1 g2 g3 => ?_, fun i j g1 g2 g3 => ?_, fun i j g1 g2 g3 g4 => ?_⟩, fun x y g1 g2 g3 g4 => ?_⟩
  · rw [ra i (by omega), ra j g3]; exact h.l i j g1 g2 (by omega)
  · rw [rb i g1 (by omega), rb j (by omega) g3]; exact h.r _ _ (by omega) (by omega) (by omega)
  · rw [ra i g2, rb j g3 g4]; exact h.t _ _ g1 (by omega) (by omega) (by omega)
  · rw [rc i g1 (by omega), rc j (by omega) g3]; exact h.l _ _ (by omega) (by omega) (by omega)
  · rw [rd i g1, rd j (by omega)]; exact h.r _ _ (by omega) g2 g3
  · rw [rc i g1 g2, rd j g3]; exact h.t _ _ (by omega) (by omega) (by omega) g4
  · by_cases x1 : x < s
    · rw [ra x x1]
      by_cases y1 : y < e
      · rw [rc y g3 y1]; exact h.l _ _ g1 (by omega) (by omega)
      · rw [rd y (by omega)]
        exact lt_of_le_lt (h.l.le g1 (j := s - 1) (by omega) (by omega)) (lt_of_lt_le (c1 (by omega) (by omega)) (h.r.le (i := e) h3 (by omega) g4))
    · rw [rb x (by omega) g2]
      by_cases y1 : y < e
      · rw [rc y g3 y1]
        exact lt_of_le_lt (h.r.le (i := x + (m - s)) (j := e - 1) (by omega) (by omega) (by omega)) (lt_of_lt_le (c2 (by omega) (by omega)) (h.l.le (i := s) h1 (by omega) (by omega)))
      · rw [rd y (by omega)]; exact h.r _ _ (by omega) (by omega) g4
/-- both halves by rising ticks: the whole -/
theorem halves_done {f g h : Nat → Tg} {a mid b : Nat} (p1 : Pm a mid f g) (s1 : Srt g a mid) (p2 : Pm mid b g h) (s2 : Srt h mid b) (hx : ∀ x y, a ≤ x → x < mid → mid ≤ y → y < b → (f x).lt (f y)) (hm : a ≤ mid) (hb : mid ≤ b) : Srt h a b ∧ Pm a b f h := by
  refine ⟨fun i j g1 g2 g3 => ?_, (p1.mono (Nat.le_refl _) hb).trans (p2.mono hm (Nat.le_refl _))⟩
  by_cases i1 : i < mid
  · have ei : h i = g i := p2.out (by omega)
    by_cases j1 : j < mid
    · rw [ei, p2.out (i := j) (by omega)]; exact s1 i j g1 g2 j1
    · obtain ⟨j', k1, k2, e2⟩ := p2.at (i := j) (by omega) g3
      obtain ⟨i', k3, k4, e3⟩ := p1.at (i := i) g1 i1
      rw [ei, e2, e3, p1.out (i := j') (by omega)]; exact hx i' j' k3 k4 k1 k2
  · exact s2 i j (by omega) g2 g3
theorem Two.srt_l {f : Nat → Tg} {a m b : Nat} (h : Two f a m b) (e : a = m ∨ m = b) : Srt f a b := by
  rcases e with rfl | rfl
  · exact h.r
  · exact h.l
end Go.Proofs.Ytglbobobifejmaa
