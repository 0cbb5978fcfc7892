
/-
  What take needs.
-/
import Derived.Test.YtglbobobifejmaaQM
import Derived.Test.YtglbobobifejmaaQD2
import Derived.Test.YtglbobobifejmaaQI2
namespace Go.Proofs.Ytglbobobifejmaa
open Go.RowKit

/-- slots of which the first k have been gone through -/
def mixS (SL : Nat → List (Int × Int)) (to_ : Int) (k : Nat) : Nat → List (Int × Int) := fun s => if s < k then (SL s).filter (fun p => decide (to_ < p.2)) else SL s
def cmK (SL : Nat → List (Int × Int)) (to_ : Int) : Nat → List (Int × Int)
  | 0 => []
  | k + 1 => cmK SL to_ k ++ (SL k).filter (fun p => decide (p.2 ≤ to_))
theorem mixS_zero (SL : Nat → List (Int × Int)) (t : Int) : mixS SL t 0 = SL := by funext s; simp [mixS]
theorem mixS_at (SL : Nat → List (Int × Int)) (t : Int) (k : Nat) : mixS SL t k k = SL k := by simp [mixS]
theorem mixS_succ (SL : Nat → List (Int × Int)) (t : Int) (k : Nat) (l : List (Int × Int)) (h : l = (SL k).filter (fun p => decide (t < p.2))) : upd (mixS SL t k) k l = mixS SL t (k + 1) := by
  funext s
  by_cases e : s = k
  · subst e; rw [upd_same, h]; simp [mixS]
  · rw [upd_other _ _ _ _ e]
    unfold mixS
    by_cases c : s < k
    · rw [if_pos c, if_pos (by omega)]
    · rw [if_neg c, if_neg (by omega)]
theorem cut_some {l : List (Int × Int)} (h : l.Pairwise (fun p q => p.2 ≤ q.2)) {t : Int} {i : Nat} {p : Int × Int} (hp : l[i]? = some p) (h1 : t < p.2) (h2 : ∀ q ∈ l.take i, q.2 ≤ t) : l.filter (fun p => decide (p.2 ≤ t)) = l.take i ∧ l.filter (fun p => decide (t < p.2)) = l.drop i := by
  have hi := (List.getElem?_eq_some_iff.1 hp).1
  have h3 : ∀ q ∈ l.drop i, t < q.2 := fun q hq => by
    have e : l.drop i = p :: l.drop (i + 1) := by
      rw [List.drop_eq_getElem_cons hi]
      congr 1
      rw [List.getElem?_eq_getElem hi] at hp
      exact Option.some.inj hp
    have hd := h.drop (i := i)
    rw [e] at hq hd
    rw [List.pairwise_cons] at hd
    rcases List.mem_cons.1 hq with rfl | hq
    · exact h1
    · have := hd.1 q hq; omega
  have s : l = l.take i ++ l.drop i := (List.take_append_drop i l).symm
  refine ⟨?_, ?_⟩
  · conv => lhs; rw [s]
    rw [List.filter_append, List.filter_eq_self.2 (fun q hq => by simpa using h2 q hq), List.filter_eq_nil_iff.2 (fun q hq => by have := h3 q hq; simp; omega), List.append_nil]
  · conv => lhs; rw [s]
    rw [List.filter_append, List.filter_eq_nil_iff.2 (fun q hq => by have := h2 q hq; simp; omega), List.filter_eq_self.2 (fun q hq => by simpa using h3 q hq), List.nil_append]
theorem cut_all {l : List (Int × Int)} {t : Int} (h2 : ∀ q ∈ l, q.2 ≤ t) : l.filter (fun p => decide (p.2 ≤ t)) = l ∧ l.filter (fun p => decide (t < p.2)) = [] :=
  ⟨List.filter_eq_self.2 (fun q hq => by simpa using h2 q hq), List.filter_eq_nil_iff.2 (fun q hq => by have := h2 q hq; simp; omega)⟩
theorem cm_len (SL : Nat → List (Int × Int)) (t : Int) (k : Nat) : (cmK SL t k).length ≤ tot SL k := by
  induction k with
  | zero => exact Nat.le_refl _
  | succ k ih =>
    unfold cmK tot
    rw [List.length_append]
    have := List.length_filter_le (fun p : Int × Int => decide (p.2 ≤ t)) (SL k)
    omega
theorem tot_mono (SL : Nat → List (Int × Int)) {a b : Nat} (h : a ≤ b) : tot SL a ≤ tot SL b := by
  induction b with
  | zero => have : a = 0 := by omega
            subst this; exact Nat.le_refl _
  | succ b ih =>
    by_cases e : a = b + 1
    · subst e; exact Nat.le_refl _
    · have h1 := ih (by omega)
      exact Nat.le_trans h1 (Nat.le_add_right _ _)

section
variable {ρ : Nat → Nat} {w w' : World} {b : Nat} {now : Int} {V : Nat → Value} {SL : Nat → List (Int × Int)}
theorem WhAt.but (h : WhAt ρ w b now V SL) {K : Nat → Prop} (hb : But K w w') (hk : ∀ g, K g → ρ g = 0) : WhAt ρ w' b now V SL := by
  have nb : ¬ K b := fun e => by have := hk b e; have := h.rb; omega
  exact ⟨fun g e => Nat.lt_of_lt_of_le (h.lt g e) hb.size, h.rb, (hb.cell (p := ⟨b, 0, none⟩) h.blt nb).trans h.now, fun s hs => (hb.cell (p := ⟨b, 1 + s, none⟩) h.blt nb).trans (h.cell s hs),
    fun s hs => (h.row s hs).keep hb (fun k hk' e => by have := h.role s hs k hk'; have := hk k e; omega), h.role, fun i => (hb.frozen (p := ⟨b, i, none⟩) h.blt nb).trans (h.fz i), h.len⟩
theorem WhAt.nil (h : WhAt ρ w b now V SL) (s : Nat) (hs : s < 64) : WhAt ρ (w.setCell ⟨b, 1 + s, none⟩ (.slice none 0 0)) b now (upd V s (.slice none 0 0)) (upd SL s []) :=
  h.put s hs (But.refl _ _) (World.ownsRow_nil _ _ _ _) (fun k hk => by cases hk) (Nat.zero_le _)
theorem row_own_keep {B : Nat} {v : Value} {n : Nat} {xs : List Value} (h : w.ownsRow B 49 2 v n xs) {K : Nat → Prop} (hb : But K w w') (hk : ∀ k, v.ownBlock = some k → ¬ K k) : w'.ownsRow B 49 2 v n xs := by
  obtain ⟨h1, h2 | ⟨g, cap, cur, rfl, hg, hh, rr⟩⟩ := h
  · exact ⟨h1, .inl h2⟩
  · exact ⟨h1, .inr ⟨g, cap, cur, rfl, hg, by rw [hb.block g (Array.getElem?_eq_some_iff.1 hh).1 (hk g rfl)]; exact hh, rr⟩⟩
theorem row_own_ge {B : Nat} {v : Value} {n : Nat} {xs : List Value} (h : w.ownsRow B 49 2 v n xs) : ∀ k, v.ownBlock = some k → B ≤ k ∧ k < w.heap.size := fun k hk => by
  obtain ⟨_, ⟨rfl, _⟩ | ⟨g, cap, cur, rfl, hg, hh, rr⟩⟩ := h
  · cases hk
  · have : g = k := by simpa [Value.ownBlock] using hk
    subst this
    exact ⟨hg, (Array.getElem?_eq_some_iff.1 hh).1⟩

set_option maxRecDepth 100000 in
set_option maxHeartbeats 1000000 in
/-- none of them: the slot itself -/
theorem Delete_same {g c n : Nat} (hnc : n ≤ c) (hm : c ≤ maxLen) :
    Calls Try.prog 27 #[.slice (some ⟨g, 0, none⟩) n c, .int .i64 0, .int .i64 0] w fun e w' => e = .returned (.slice (some ⟨g, 0, none⟩) n c) ∧ w' = w := by
  have x3 : (c : Int) ≤ 9223372036854775807 := by unfold maxLen at hm; omega
  have x4 : (n : Int) ≤ c := by omega
  go_enter Try.func27, Try.ntmps27
  go_wp2
  all_goals go_ret
  all_goals exact ⟨rfl, rfl⟩

/-- the first i of a slot are taken out, and some are left -/
theorem Delete_cut {v : Value} {l : List (Int × Int)} (h : RowL w v l) (i : Nat) (hi : i < l.length) (hl : l.length ≤ 64) :
    Calls Try.prog 27 #[v, .int .i64 0, .int .i64 (i : Int)] w fun e w' => ∃ g n c, e = .returned (.slice (some ⟨g, 0, none⟩) n c) ∧ RowL w' (.slice (some ⟨g, 0, none⟩) n c) (l.drop i) ∧ (∀ k, (Value.slice (some ⟨g, 0, none⟩) n c).ownBlock = some k → v.ownBlock = some k) ∧ But (fun k => v.ownBlock = some k) w w' := by
  obtain ⟨a, c, e, hg⟩ := h.shape
  obtain ⟨g, rfl⟩ := hg (by omega)
  subst e
  have hnc : l.length ≤ c ∧ c ≤ maxLen := by
    obtain ⟨_, ⟨e, _⟩ | ⟨g', cap, cur, e, _, _, h1, h2, _⟩⟩ := h
    · cases e
    · simp only [Value.slice.injEq] at e; omega
  cases i with
  | zero =>
    refine (Delete_same (w := w) hnc.1 hnc.2).mono ?_
    rintro e w' ⟨rfl, rfl⟩
    exact ⟨_, _, _, rfl, by rw [List.drop_zero]; exact h, fun k hk => hk, But.refl _ _⟩
  | succ q =>
    obtain ⟨m, hm⟩ : ∃ m, l.length = q + 1 + (m + 1) := ⟨l.length - (q + 1) - 1, by omega⟩
    have h' := h
    unfold RowL at h'
    rw [hm] at h' ⊢
    refine (Delete_first h' (flt_one _)).mono ?_
    rintro e w' ⟨rfl, ho, hb⟩
    refine ⟨_, _, _, rfl, ?_, fun k hk => hk, hb.mono (fun k hk => by have hk : k = g := hk; rw [hk]; rfl)⟩
    unfold RowL
    rw [List.length_drop, hm, show q + 1 + (m + 1) - (q + 1) = m + 1 by omega, ← flt_drop _ _ (by omega)]
    exact ho
end
end Go.Proofs.Ytglbobobifejmaa
