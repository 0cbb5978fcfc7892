
/-
  Both wheels in one memory.
-/
import Derived.Test.YtglbobobifejmaaQF4
import Derived.Deep.RegionHeld
namespace Go.Proofs.Ytglbobobifejmaa
open Go.RowKit

/-- the program's wheel at b (n1, L1) and the document's at r (n2, L2), all from n on, none of it in the block A; below n it is W -/
def Duo (n : Nat) (W w : World) (b r : Nat) (n1 : Int) (L1 : List (Int × Int)) (n2 : Int) (L2 : List (Int × Int)) (A : Option Nat) : Prop :=
  ∃ ρ v, Wh ρ w b n1 L1 ∧ RfAt w r n2 v L2 ∧ ρ r = 0 ∧ (∀ k, v.ownBlock = some k → ρ k = 0 ∧ n ≤ k) ∧ (∀ g, ρ g ≠ 0 → n ≤ g) ∧ n ≤ r ∧ Below n W w ∧ ∀ k, A = some k → ρ k = 0 ∧ k ≠ r ∧ v.ownBlock ≠ some k ∧ k < w.heap.size

section
variable {n : Nat} {W w : World} {b r : Nat} {n1 n2 : Int} {L1 L2 : List (Int × Int)} {A : Option Nat}
theorem Duo.nle (h : Duo n W w b r n1 L1 n2 L2 A) : n ≤ w.heap.size := by
  obtain ⟨ρ, v, _, h2, _, _, _, h3, _⟩ := h
  exact Nat.le_trans h3 (Nat.le_of_lt h2.lt)
theorem Duo.below (h : Duo n W w b r n1 L1 n2 L2 A) : Below n W w := by
  obtain ⟨ρ, v, _, _, _, _, _, _, h3, _⟩ := h; exact h3
theorem Duo.len64 (h : Duo n W w b r n1 L1 n2 L2 A) : L1.length ≤ 64 := by
  obtain ⟨ρ, v, ⟨V, SL, _, _, hl⟩, _⟩ := h; exact hl
theorem Duo.uniq (h : Duo n W w b r n1 L1 n2 L2 A) : L1.Pairwise (fun p q => p.1 ≠ q.1) := by
  obtain ⟨ρ, v, ⟨V, SL, _, hR, _⟩, _⟩ := h; exact hR.uniq
theorem Duo.c0 (h : Duo n W w b r n1 L1 n2 L2 A) : w.cell? ⟨r, 0, none⟩ = some (.int .i64 n2) := by
  obtain ⟨ρ, v, _, h2, _⟩ := h; exact h2.c0
theorem Duo.c1 (h : Duo n W w b r n1 L1 n2 L2 A) : ∃ a c, w.cell? ⟨r, 1, none⟩ = some (.slice a L2.length c) := by
  obtain ⟨ρ, v, _, h2, _⟩ := h
  obtain ⟨a, c, e, _⟩ := h2.row.shape
  exact ⟨a, c, by rw [h2.c1, e]⟩
/-- memory changes but for both and A -/
theorem Duo.but (h : Duo n W w b r n1 L1 n2 L2 A) {w' : World} {J : Nat → Prop} (hb : But J w w') (hj : ∀ k, J k → A = some k ∧ n ≤ k) : Duo n W w' b r n1 L1 n2 L2 none := by
  obtain ⟨ρ, v, ⟨V, SL, hA, hR, hl⟩, h2, h3, h4, h5, h6, h7, h8⟩ := h
  refine ⟨ρ, v, ⟨V, SL, hA.but hb (fun g e => (h8 g (hj g e).1).1), hR, hl⟩, h2.but hb (fun e => (h8 r (hj r e).1).2.1 rfl) (fun k hk e => (h8 k (hj k e).1).2.2.1 hk), h3, h4, h5, h6, h7.trans (hb.below (Nat.le_trans h6 (Nat.le_of_lt h2.lt)) (fun g hg e => by have := (hj g e).2; omega)), (fun k hk => by cases hk)⟩
theorem Duo.later (h : Duo n W w b r n1 L1 n2 L2 none) {w' : World} (hb : Below w.heap.size w w') : Duo n W w' b r n1 L1 n2 L2 none :=
  h.but (But.of_below (K := fun _ => False) hb) (fun _ e => e.elim)
/-- the program's half turns -/
theorem Duo.turn1 {ρ ρ' : Nat → Nat} {v : Value} {w' : World} {n1' : Int} {L1' : List (Int × Int)} (h2 : RfAt w r n2 v L2) (h3 : ρ r = 0) (h4 : ∀ k, v.ownBlock = some k → ρ k = 0 ∧ n ≤ k) (h5 : ∀ g, ρ g ≠ 0 → n ≤ g) (h6 : n ≤ r) (h7 : Below n W w) (hW : Wh ρ' w' b n1' L1') (hx : Ext ρ ρ' w.heap.size) (hb : But (fun g => ρ g ≠ 0) w w') : Duo n W w' b r n1' L1' n2 L2 none := by
  have nle := Nat.le_trans h6 (Nat.le_of_lt h2.lt)
  have z : ∀ k, ρ k = 0 → k < w.heap.size → ρ' k = 0 := fun k hk hl => Classical.byContradiction fun q => by
    rcases hx.new k q with e | e
    · exact e hk
    · omega
  refine ⟨ρ', v, hW, h2.but hb (fun e => e h3) (fun k hk e => e (h4 k hk).1), z r h3 h2.lt, fun k hk => ⟨z k (h4 k hk).1 (row_own_ge h2.row k hk).2, (h4 k hk).2⟩, fun g e => ?_, h6, h7.trans (hb.below nle (fun g hg e => by have := h5 g e; omega)), (fun k hk => by cases hk)⟩
  rcases hx.new g e with q | q
  · exact h5 g q
  · omega
/-- the document's half turns -/
theorem Duo.turn2 {ρ : Nat → Nat} {v v' : Value} {w' : World} {n2' : Int} {L2' : List (Int × Int)} (hW : Wh ρ w b n1 L1) (h2 : RfAt w r n2 v L2) (h3 : ρ r = 0) (h4 : ∀ k, v.ownBlock = some k → ρ k = 0 ∧ n ≤ k) (h5 : ∀ g, ρ g ≠ 0 → n ≤ g) (h6 : n ≤ r) (h7 : Below n W w) (h8 : ∀ k, A = some k → ρ k = 0 ∧ k ≠ r ∧ v.ownBlock ≠ some k ∧ k < w.heap.size)
    (k2 : RfAt w' r n2' v' L2') (hf : ∀ k, v'.ownBlock = some k → w.heap.size ≤ k ∨ v.ownBlock = some k) (hb : But (Only r) w w') : Duo n W w' b r n1 L1 n2' L2' A := by
  have nle := Nat.le_trans h6 (Nat.le_of_lt h2.lt)
  obtain ⟨V, SL, hA, hR, hl⟩ := hW
  have z : ∀ k, w.heap.size ≤ k → ρ k = 0 := fun k hk => Classical.byContradiction fun q => by have := hA.lt k q; omega
  refine ⟨ρ, v', ⟨V, SL, hA.but hb (fun g (e : g = r) => by rw [e]; exact h3), hR, hl⟩, k2, h3, fun k hk => ?_, h5, h6, h7.trans (hb.below nle (fun g hg (e : g = r) => by omega)), fun k hk => ?_⟩
  · rcases hf k hk with q | q
    · exact ⟨z k q, by omega⟩
    · exact h4 k q
  · obtain ⟨a1, a2, a3, a4⟩ := h8 k hk
    refine ⟨a1, a2, fun e => ?_, Nat.lt_of_lt_of_le a4 hb.size⟩
    rcases hf k e with q | q
    · omega
    · exact a3 q

theorem Duo.arm (h : Duo n W w b r n1 L1 n2 L2 none) (h0 : 0 ≤ n1) (id t : Int) : Calls Try.prog 11 #[.pointer (some ⟨b, 0, none⟩), .int .i64 id, .int .i64 t] w fun e w' => e = .returned (.int .i64 (arE n1 L1 id t)) ∧ Duo n W w' b r n1 (arL n1 L1 id t) n2 L2 none := by
  obtain ⟨ρ, v, hW, h2, h3, h4, h5, h6, h7, _⟩ := h
  refine (arm_any hW h0 id t).mono ?_
  rintro e w' ⟨rfl, ρ', k1, k2, k3⟩
  exact ⟨rfl, Duo.turn1 h2 h3 h4 h5 h6 h7 k1 k2 k3⟩
theorem Duo.cancel (h : Duo n W w b r n1 L1 n2 L2 none) (id : Int) : Calls Try.prog 13 #[.pointer (some ⟨b, 0, none⟩), .int .i64 id] w fun e w' => e = .returned (.int .i64 (if has L1 id = true then 0 else 7)) ∧ Duo n W w' b r n1 (noId L1 id) n2 L2 none := by
  obtain ⟨ρ, v, hW, h2, h3, h4, h5, h6, h7, _⟩ := h
  refine (cancel_any hW id).mono ?_
  rintro e w' ⟨rfl, k1, k3⟩
  exact ⟨rfl, Duo.turn1 h2 h3 h4 h5 h6 h7 k1 (Ext.refl _ _) k3⟩
theorem Duo.due (h : Duo n W w b r n1 L1 n2 L2 none) (id : Int) : Calls Try.prog 15 #[.pointer (some ⟨b, 0, none⟩), .int .i64 id] w fun e w' => e = .returned (.tuple #[.int .i64 ((dueOf L1 id).getD 0), .bool (dueOf L1 id).isSome]) ∧ Duo n W w' b r n1 L1 n2 L2 none := by
  have h' := h
  obtain ⟨ρ, v, hW, _⟩ := h
  refine (due_any hW id).mono ?_
  rintro e w' ⟨rfl, _, hb⟩
  exact ⟨rfl, h'.later hb⟩
theorem Duo.next (h : Duo n W w b r n1 L1 n2 L2 A) : Calls Try.prog 20 #[.pointer (some ⟨b, 0, none⟩)] w fun e w' => ∃ m, e = .returned (.tuple #[.int .i64 (m.getD 0), .bool m.isSome]) ∧ LeastIs L1 m ∧ w' = w := by
  obtain ⟨ρ, v, hW, _⟩ := h; exact next_any hW
theorem Duo.len (h : Duo n W w b r n1 L1 n2 L2 A) : Calls Try.prog 23 #[.pointer (some ⟨b, 0, none⟩)] w fun e w' => e = .returned (.int .i64 (L1.length : Int)) ∧ w' = w := by
  obtain ⟨ρ, v, hW, _⟩ := h; exact len_any hW
theorem Duo.tells (h : Duo n W w b r n1 L1 n2 L2 A) : Calls Try.prog 22 #[.pointer (some ⟨b, 0, none⟩)] w fun e w' => e = .returned (.int .i64 n1) ∧ w' = w := by
  obtain ⟨ρ, v, hW, _⟩ := h; exact now_any hW
theorem Duo.rarm (h : Duo n W w b r n1 L1 n2 L2 none) (hl : L2.length ≤ 64) (id t : Int) : Calls Try.prog 12 #[.pointer (some ⟨r, 0, none⟩), .int .i64 id, .int .i64 t] w fun e w' => e = .returned (.int .i64 (arE n2 L2 id t)) ∧ Duo n W w' b r n1 L1 n2 (arL n2 L2 id t) none := by
  obtain ⟨ρ, v, hW, h2, h3, h4, h5, h6, h7, h8⟩ := h
  refine (rarm_any h2 hl id t).mono ?_
  rintro e w' ⟨rfl, v', k1, k2, k3⟩
  exact ⟨rfl, Duo.turn2 hW h2 h3 h4 h5 h6 h7 h8 k1 k2 k3⟩
theorem Duo.rcancel (h : Duo n W w b r n1 L1 n2 L2 none) (hl : L2.length ≤ 64) (id : Int) : Calls Try.prog 14 #[.pointer (some ⟨r, 0, none⟩), .int .i64 id] w fun e w' => e = .returned (.int .i64 (if has L2 id = true then 0 else 7)) ∧ Duo n W w' b r n1 L1 n2 (noId L2 id) none := by
  obtain ⟨ρ, v, hW, h2, h3, h4, h5, h6, h7, h8⟩ := h
  refine (rcancel_any h2 hl id).mono ?_
  rintro e w' ⟨rfl, v', k1, k2, k3⟩
  exact ⟨rfl, Duo.turn2 hW h2 h3 h4 h5 h6 h7 h8 k1 k2 k3⟩
theorem Duo.rdue (h : Duo n W w b r n1 L1 n2 L2 none) (hl : L2.length ≤ 64) (id : Int) : Calls Try.prog 16 #[.pointer (some ⟨r, 0, none⟩), .int .i64 id] w fun e w' => e = .returned (.tuple #[.int .i64 ((dueOf L2 id).getD 0), .bool (dueOf L2 id).isSome]) ∧ w' = w := by
  obtain ⟨ρ, v, hW, h2, _⟩ := h
  exact rdue_any h2 hl id
theorem Duo.rnext (h : Duo n W w b r n1 L1 n2 L2 A) (hl : L2.length ≤ 64) : Calls Try.prog 21 #[.pointer (some ⟨r, 0, none⟩)] w fun e w' => ∃ m, e = .returned (.tuple #[.int .i64 (m.getD 0), .bool m.isSome]) ∧ LeastIs L2 m ∧ w' = w := by
  obtain ⟨ρ, v, hW, h2, _⟩ := h
  exact rnext_any h2 hl
theorem Duo.adv (h : Duo n W w b r n1 L1 n2 L2 none) (t : Int) (hg : adBad n1 t = false) : Calls Try.prog 17 #[.pointer (some ⟨b, 0, none⟩), .int .i64 t] w fun e w' => ∃ O v, e = .returned (.tuple #[v, .int .i64 0]) ∧ OutOf L1 t O ∧ RowL w' v O ∧ (∀ k, v.ownBlock = some k → n ≤ k) ∧ Duo n W w' b r t (stay L1 t) n2 L2 v.ownBlock := by
  have nle := h.nle
  obtain ⟨ρ, v, hW, h2, h3, h4, h5, h6, h7, _⟩ := h
  have lt : ∀ g, ρ g ≠ 0 → g < w.heap.size := by obtain ⟨V, SL, hA, _⟩ := hW; exact hA.lt
  refine (advance_any hW t).mono ?_
  rintro e w' (⟨q, _⟩ | ⟨_, O, vo, rfl, k1, k2, k3, k4⟩)
  · rw [hg] at q; cases q
  · obtain ⟨ρ2, v2, d1, d2, d3, d4, d5, d6, d7, _⟩ := Duo.turn1 h2 h3 h4 h5 h6 h7 k3 (Ext.refl _ _) k4
    refine ⟨O, vo, rfl, k1, row_zero k2, fun k hk => Nat.le_trans nle (row_own_ge k2 k hk).1, ρ, v, k3, h2.but k4 (fun e => e h3) (fun k hk e => e (h4 k hk).1), h3, h4, h5, h6, d7, fun k hk => ?_⟩
    obtain ⟨g1, g2⟩ := row_own_ge k2 k hk
    have hr := h2.lt
    refine ⟨Classical.byContradiction fun q => by have := lt k q; omega, by omega, fun e => ?_, g2⟩
    have := (row_own_ge h2.row k e).2
    omega
theorem Duo.radv (h : Duo n W w b r n1 L1 n2 L2 A) (hl : L2.length ≤ 64) (hu : L2.Pairwise (fun p q => p.1 ≠ q.1)) (t : Int) (hg : adBad n2 t = false) : Calls Try.prog 18 #[.pointer (some ⟨r, 0, none⟩), .int .i64 t] w fun e w' => ∃ O v, e = .returned (.tuple #[v, .int .i64 0]) ∧ OutOf L2 t O ∧ RowL w' v O ∧ (∀ k, A = some k → v.ownBlock ≠ some k) ∧ Duo n W w' b r n1 L1 t (stay L2 t) A ∧ But (Only r) w w' := by
  obtain ⟨ρ, v, hW, h2, h3, h4, h5, h6, h7, h8⟩ := h
  refine (radvance_any h2 hl hu t).mono ?_
  rintro e w' (⟨q, _⟩ | ⟨_, O, vo, rfl, k1, k2, ⟨v', k3, k4⟩, k5⟩)
  · rw [hg] at q; cases q
  · refine ⟨O, vo, rfl, k1, row_zero k2, fun k hk e => ?_, Duo.turn2 hW h2 h3 h4 h5 h6 h7 h8 k3 k4 k5, k5⟩
    have := (row_own_ge k2 k e).1
    have := (h8 k hk).2.2.2
    omega
theorem Duo.advBad (h : Duo n W w b r n1 L1 n2 L2 none) (t : Int) (hg : adBad n1 t = true) : Calls Try.prog 17 #[.pointer (some ⟨b, 0, none⟩), .int .i64 t] w fun e w' => e = .returned (.tuple #[.slice none 0 0, .int .i64 1]) ∧ w' = w := by
  obtain ⟨ρ, v, hW, _⟩ := h
  refine (advance_any hW t).mono ?_
  rintro e w' (⟨_, q⟩ | ⟨q, _⟩)
  · exact q
  · rw [hg] at q; cases q
theorem Duo.radvBad (h : Duo n W w b r n1 L1 n2 L2 none) (hl : L2.length ≤ 64) (hu : L2.Pairwise (fun p q => p.1 ≠ q.1)) (t : Int) (hg : adBad n2 t = true) : Calls Try.prog 18 #[.pointer (some ⟨r, 0, none⟩), .int .i64 t] w fun e w' => e = .returned (.tuple #[.slice none 0 0, .int .i64 1]) ∧ w' = w := by
  obtain ⟨ρ, v, hW, h2, _⟩ := h
  refine (radvance_any h2 hl hu t).mono ?_
  rintro e w' (⟨_, q⟩ | ⟨q, _⟩)
  · exact q
  · rw [hg] at q; cases q
end
/-- at the beginning -/
theorem Duo.new {n : Nat} {W w1 w2 w3 : World} {now : Int} (hn : n ≤ w1.heap.size) (h1 : Below n W w1) (hW : Wh (fun g => if g = w1.heap.size then 1 else 0) w2 w1.heap.size now []) (b2 : Below w1.heap.size w1 w2) (hR : RfAt w3 w2.heap.size now (.slice none 0 0) []) (b3 : Below w2.heap.size w2 w3) : Duo n W w3 w1.heap.size w2.heap.size now [] now [] none := by
  obtain ⟨V, SL, hA, hR2, hl⟩ := hW
  have hlt := hA.blt
  refine ⟨_, _, ⟨V, SL, hA.later b3, hR2, hl⟩, hR, if_neg (by omega), (fun k hk => by cases hk), fun g e => ?_, by omega, (h1.trans (b2.mono hn)).trans (b3.mono (by omega)), (fun k hk => by cases hk)⟩
  split at e
  · omega
  · exact absurd rfl e
end Go.Proofs.Ytglbobobifejmaa
