
/-
  Sorting: elements with tags, places as numbers, what is laid in memory.
-/
import Derived.Test.YtglbobobifejmaaQBase
namespace Go.Proofs.Ytglbobobifejmaa
open Go.RowKit

/-- a timer, and the place at which it stood first -/
structure Tg where
  id : Int
  tm : Int
  tag : Nat
def Tg.lt (x y : Tg) : Prop := x.tm < y.tm ∨ (x.tm = y.tm ∧ x.tag < y.tag)
theorem Tg.lt_trans {x y z : Tg} (h : x.lt y) (k : y.lt z) : x.lt z := by
  unfold Tg.lt at *; omega
theorem Tg.lt_irrefl (x : Tg) : ¬ x.lt x := by unfold Tg.lt; omega
theorem Tg.lt_total {x y : Tg} (h : x.tag ≠ y.tag) : x.lt y ∨ y.lt x := by unfold Tg.lt; omega

/-- by rising ticks from a up to b -/
def Srt (f : Nat → Tg) (a b : Nat) : Prop := ∀ i j, a ≤ i → i < j → j < b → (f i).lt (f j)

/-- f' is f with its places from a up to b changed about -/
def Pm (a b : Nat) (f f' : Nat → Tg) : Prop := ∃ s t : Nat → Nat, (∀ i, f' i = f (s i)) ∧ (∀ i, t (s i) = i) ∧ (∀ i, s (t i) = i) ∧ ∀ i, ¬ (a ≤ i ∧ i < b) → s i = i
theorem Pm.refl (a b : Nat) (f : Nat → Tg) : Pm a b f f := ⟨id, id, fun _ => rfl, fun _ => rfl, fun _ => rfl, fun _ _ => rfl⟩
theorem Pm.trans {a b : Nat} {f g h : Nat → Tg} (p : Pm a b f g) (q : Pm a b g h) : Pm a b f h := by
  obtain ⟨s, t, h1, h2, h3, h4⟩ := p
  obtain ⟨u, v, k1, k2, k3, k4⟩ := q
  exact ⟨fun i => s (u i), fun i => v (t i), fun i => by rw [k1, h1], fun i => by show v (t (s (u i))) = i; rw [h2, k2], fun i => by show s (u (v (t i))) = i; rw [k3, h3], fun i hi => by show s (u i) = i; rw [k4 i hi, h4 i hi]⟩
theorem Pm.mono {a b c d : Nat} {f g : Nat → Tg} (p : Pm a b f g) (h1 : c ≤ a) (h2 : b ≤ d) : Pm c d f g := by
  obtain ⟨s, t, k1, k2, k3, k4⟩ := p
  exact ⟨s, t, k1, k2, k3, fun i hi => k4 i (fun e => hi ⟨by omega, by omega⟩)⟩
theorem Pm.out {a b : Nat} {f g : Nat → Tg} (p : Pm a b f g) {i : Nat} (h : ¬ (a ≤ i ∧ i < b)) : g i = f i := by
  obtain ⟨s, t, k1, _, _, k4⟩ := p
  rw [k1, k4 i h]
/-- a place goes to a place -/
theorem Pm.at {a b : Nat} {f g : Nat → Tg} (p : Pm a b f g) {i : Nat} (h1 : a ≤ i) (h2 : i < b) : ∃ j, a ≤ j ∧ j < b ∧ g i = f j := by
  obtain ⟨s, t, k1, k2, k3, k4⟩ := p
  by_cases hs : a ≤ s i ∧ s i < b
  · exact ⟨s i, hs.1, hs.2, k1 i⟩
  · have := k4 (s i) hs
    have e : s i = i := by have h := k2 (s i); rw [this] at h; rw [k2] at h; exact h.symm
    exact absurd ⟨by omega, by omega⟩ hs
theorem Pm.back {a b : Nat} {f g : Nat → Tg} (p : Pm a b f g) : Pm a b g f := by
  obtain ⟨s, t, k1, k2, k3, k4⟩ := p
  refine ⟨t, s, fun i => by rw [k1, k3], k3, k2, fun i hi => ?_⟩
  have := k2 i; rw [k4 i hi] at this; exact this

/-- two places are changed -/
def swp (f : Nat → Tg) (i j : Nat) : Nat → Tg := fun x => if x = i then f j else if x = j then f i else f x
def sw (i j x : Nat) : Nat := if x = i then j else if x = j then i else x
theorem sw_sw (i j x : Nat) : sw i j (sw i j x) = x := by
  unfold sw
  by_cases e1 : x = i
  · subst e1; rw [if_pos rfl]; by_cases e : j = x
    · subst e; rw [if_pos rfl]
    · rw [if_neg e, if_pos rfl]
  · rw [if_neg e1]; by_cases e2 : x = j
    · subst e2; rw [if_pos rfl, if_pos rfl]
    · rw [if_neg e2, if_neg e1, if_neg e2]
theorem swp_pm {a b : Nat} (f : Nat → Tg) {i j : Nat} (hi : a ≤ i ∧ i < b) (hj : a ≤ j ∧ j < b) : Pm a b f (swp f i j) := by
  refine ⟨sw i j, sw i j, fun x => ?_, sw_sw i j, sw_sw i j, fun x hx => ?_⟩
  · unfold swp sw
    by_cases e1 : x = i
    · rw [if_pos e1, if_pos e1]
    · rw [if_neg e1, if_neg e1]
      by_cases e2 : x = j
      · rw [if_pos e2, if_pos e2]
      · rw [if_neg e2, if_neg e2]
  · unfold sw; rw [if_neg (fun e => hx ⟨by omega, by omega⟩), if_neg (fun e => hx ⟨by omega, by omega⟩)]

/-- the cells -/
def cells2 (f : Nat → Tg) : Nat → List Value
  | 0 => []
  | n + 1 => cells2 f n ++ [.int .i64 (f n).id, .int .i64 (f n).tm]
theorem cells2_len (f : Nat → Tg) (n : Nat) : (cells2 f n).length = n * 2 := by
  induction n with
  | zero => rfl
  | succ n ih => simp [cells2, ih]; omega
theorem cells2_at (f : Nat → Tg) (n i : Nat) (h : i < n) : (cells2 f n)[i * 2]? = some (.int .i64 (f i).id) ∧ (cells2 f n)[i * 2 + 1]? = some (.int .i64 (f i).tm) := by
  induction n with
  | zero => omega
  | succ n ih =>
    have hl := cells2_len f n
    by_cases e : i = n
    · subst e
      refine ⟨?_, ?_⟩
      · show (cells2 f i ++ _)[i * 2]? = _
        rw [List.getElem?_append_right (by omega), hl, Nat.sub_self]; rfl
      · show (cells2 f i ++ _)[i * 2 + 1]? = _
        rw [List.getElem?_append_right (by omega), hl, show i * 2 + 1 - i * 2 = 1 by omega]; rfl
    · have := ih (by omega)
      refine ⟨?_, ?_⟩
      · show (cells2 f n ++ _)[i * 2]? = _
        rw [List.getElem?_append_left (by omega)]; exact this.1
      · show (cells2 f n ++ _)[i * 2 + 1]? = _
        rw [List.getElem?_append_left (by omega)]; exact this.2
theorem cells2_same {f g : Nat → Tg} (n : Nat) (h : ∀ i, i < n → f i = g i) : cells2 f n = cells2 g n := by
  induction n with
  | zero => rfl
  | succ n ih => simp only [cells2]; rw [ih (fun i hi => h i (by omega)), h n (by omega)]
/-- one place is written -/
theorem cells2_set (f : Nat → Tg) (n i : Nat) (h : i < n) (x : Tg) : ((cells2 f n).set (i * 2) (.int .i64 x.id)).set (i * 2 + 1) (.int .i64 x.tm) = cells2 (fun k => if k = i then x else f k) n := by
  induction n with
  | zero => omega
  | succ n ih =>
    have hl := cells2_len f n
    by_cases e : i = n
    · subst e
      simp only [cells2, if_true]
      rw [cells2_same (f := fun k => if k = i then x else f k) (g := f) i (fun k hk => by rw [if_neg (by omega)])]
      rw [List.set_append_right _ _ (by omega), hl, Nat.sub_self, List.set_append_right _ _ (by omega), hl, show i * 2 + 1 - i * 2 = 1 by omega]
      rfl
    · have := ih (by omega)
      simp only [cells2]
      rw [if_neg (fun h => e h.symm), List.set_append_left _ _ (by omega), List.set_append_left _ _ (by rw [List.length_set]; omega), this]

/-- THE SLICE OF n TIMERS f, at the beginning of the block g, which is the call's own -/
def RowT (B : Nat) (w : World) (g n cap : Nat) (f : Nat → Tg) : Prop := w.ownsRow B 49 2 (.slice (some ⟨g, 0, none⟩) n cap) n (cells2 f n)
theorem RowT.c0 {B : Nat} {w : World} {g n cap : Nat} {f : Nat → Tg} (h : RowT B w g n cap f) {i : Nat} (hi : i < n) : w.cell? ⟨g, i * 2, none⟩ = some (.int .i64 (f i).id) := by
  rw [World.ownsRow.cellAt h _ (by omega)]; exact (cells2_at f n i hi).1
theorem RowT.c1 {B : Nat} {w : World} {g n cap : Nat} {f : Nat → Tg} (h : RowT B w g n cap f) {i : Nat} (hi : i < n) : w.cell? ⟨g, i * 2 + 1, none⟩ = some (.int .i64 (f i).tm) := by
  rw [World.ownsRow.cellAt h _ (by omega)]; exact (cells2_at f n i hi).2
theorem RowT.fz {B : Nat} {w : World} {g n cap : Nat} {f : Nat → Tg} (h : RowT B w g n cap f) (k : Nat) : w.frozen? ⟨g, k, none⟩ = false := World.ownsRow.frozenAt h k
theorem RowT.put {B : Nat} {w : World} {g n cap : Nat} {f : Nat → Tg} (h : RowT B w g n cap f) {i : Nat} (hi : i < n) (x : Tg) : RowT B ((w.setCell ⟨g, i * 2, none⟩ (.int .i64 x.id)).setCell ⟨g, i * 2 + 1, none⟩ (.int .i64 x.tm)) g n cap (fun k => if k = i then x else f k) := by
  unfold RowT
  rw [← cells2_set f n i hi x]
  exact (World.ownsRow.stored (World.ownsRow.stored h _ _).1 _ _).1
theorem row_keep {B : Nat} {e : TypeId} {sz : Nat} {w w' : World} {v : Value} {n : Nat} {xs : List Value} (h : w.ownsRow B e sz v n xs) {K : Nat → Prop} (hb : But K w w') (hk : ∀ k, v.ownBlock = some k → ¬ K k) : w'.ownsRow B e sz v n xs := by
  obtain ⟨h1, h2 | ⟨g, cap, cur, rfl, hg, hh, rr⟩⟩ := h
  · exact ⟨h1, .inl h2⟩
  · exact ⟨h1, .inr ⟨g, cap, cur, rfl, hg, by rw [hb.block g (Array.getElem?_eq_some_iff.1 hh).1 (hk g rfl)]; exact hh, rr⟩⟩
theorem RowT.later {B : Nat} {w w' : World} {g n cap : Nat} {f : Nat → Tg} (h : RowT B w g n cap f) (hb : Below w.heap.size w w') : RowT B w' g n cap f := row_keep h (But.of_below (K := fun _ => False) hb) (fun _ _ => id)
/-- two places are changed, in memory -/
theorem RowT.swap {B : Nat} {w : World} {g n cap : Nat} {f : Nat → Tg} (h : RowT B w g n cap f) {i j : Nat} (hi : i < n) (hj : j < n) :
    RowT B ((((w.setCell ⟨g, i * 2, none⟩ (.int .i64 (f j).id)).setCell ⟨g, i * 2 + 1, none⟩ (.int .i64 (f j).tm)).setCell ⟨g, j * 2, none⟩ (.int .i64 (f i).id)).setCell ⟨g, j * 2 + 1, none⟩ (.int .i64 (f i).tm)) g n cap (swp f i j) := by
  have h1 := (h.put hi (f j)).put hj (f i)
  unfold RowT at h1 ⊢
  rw [cells2_same (f := swp f i j) (g := fun k => if k = j then f i else if k = i then f j else f k) n (fun k _ => by
    unfold swp
    by_cases e : k = i
    · subst e; rw [if_pos rfl]; by_cases e2 : k = j
      · subst e2; rw [if_pos rfl]
      · rw [if_neg e2, if_pos rfl]
    · rw [if_neg e]
      by_cases e2 : k = j
      · rw [if_pos e2, if_pos e2]
      · rw [if_neg e2, if_neg e2, if_neg e])]
  exact h1
def Only (g : Nat) : Nat → Prop := fun x => x = g
theorem RowT.swapB {w : World} {g : Nat} (i j : Nat) (a b c d : Value) : But (Only g) w ((((w.setCell ⟨g, i * 2, none⟩ a).setCell ⟨g, i * 2 + 1, none⟩ b).setCell ⟨g, j * 2, none⟩ c).setCell ⟨g, j * 2 + 1, none⟩ d) :=
  ((((But.refl (Only g) w).setCell (p := ⟨g, i * 2, none⟩) (.inr rfl) a).setCell (p := ⟨g, i * 2 + 1, none⟩) (.inr rfl) b).setCell (p := ⟨g, j * 2, none⟩) (.inr rfl) c).setCell (p := ⟨g, j * 2 + 1, none⟩) (.inr rfl) d
end Go.Proofs.Ytglbobobifejmaa
