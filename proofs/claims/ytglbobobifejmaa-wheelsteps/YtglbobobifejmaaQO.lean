
/-
  The calls of one wheel, for walks: what lies below n stays.
-/
import Derived.Test.YtglbobobifejmaaQN
import Derived.Test.YtglbobobifejmaaQV2
namespace Go.Proofs.Ytglbobobifejmaa
open Go.RowKit

/-- a wheel that holds L, all of it from n on -/
def On (n : Nat) (W : World) (b : Nat) (now : Int) (L : List (Int × Int)) : Prop := ∃ ρ, Wh ρ W b now L ∧ ∀ g, ρ g ≠ 0 → n ≤ g

section
variable {n : Nat} {W : World} {b : Nat} {now : Int} {L : List (Int × Int)}
theorem On.uniq (h : On n W b now L) : L.Pairwise (fun p q => p.1 ≠ q.1) := by
  obtain ⟨ρ, ⟨V, SL, _, hR, _⟩, _⟩ := h; exact hR.uniq
theorem On.len64 (h : On n W b now L) : L.length ≤ 64 := by
  obtain ⟨ρ, ⟨V, SL, _, _, hl⟩, _⟩ := h; exact hl
theorem On.blt (h : On n W b now L) : b < W.heap.size := by
  obtain ⟨ρ, ⟨V, SL, hW, _, _⟩, _⟩ := h; exact hW.blt
theorem On.bge (h : On n W b now L) : n ≤ b := by
  obtain ⟨ρ, ⟨V, SL, hW, _, _⟩, k⟩ := h; exact k b (by rw [hW.rb]; omega)
theorem but_below {ρ : Nat → Nat} {W' : World} (hb : But (fun g => ρ g ≠ 0) W W') (hn : n ≤ W.heap.size) (hk : ∀ g, ρ g ≠ 0 → n ≤ g) : Below n W W' :=
  hb.below hn (fun g hg e => by have := hk g e; omega)
theorem On.end {ρ : Nat → Nat} {W' : World} (h : WEnd ρ W b now L W') (hn : n ≤ W.heap.size) (hk : ∀ g, ρ g ≠ 0 → n ≤ g) : On n W' b now L ∧ Below n W W' := by
  obtain ⟨ρ', h1, h2, h3⟩ := h
  exact ⟨⟨ρ', h1, fun g e => (h2.new g e).elim (hk g) (fun q => Nat.le_trans hn q)⟩, but_below h3 hn hk⟩
theorem On.arm (h : On n W b now L) (hn : n ≤ W.heap.size) (h0 : 0 ≤ now) (id t : Int) : Calls Try.prog 11 #[.pointer (some ⟨b, 0, none⟩), .int .i64 id, .int .i64 t] W fun e w' => e = .returned (.int .i64 (arE now L id t)) ∧ On n w' b now (arL now L id t) ∧ Below n W w' := by
  obtain ⟨ρ, hW, hk⟩ := h
  refine (arm_any hW h0 id t).mono ?_
  rintro e w' ⟨rfl, hE⟩
  exact ⟨rfl, On.end hE hn hk⟩
theorem On.cancel (h : On n W b now L) (hn : n ≤ W.heap.size) (id : Int) : Calls Try.prog 13 #[.pointer (some ⟨b, 0, none⟩), .int .i64 id] W fun e w' => e = .returned (.int .i64 (if has L id = true then 0 else 7)) ∧ On n w' b now (noId L id) ∧ Below n W w' := by
  obtain ⟨ρ, hW, hk⟩ := h
  refine (cancel_any hW id).mono ?_
  rintro e w' ⟨rfl, hE, hb⟩
  exact ⟨rfl, ⟨ρ, hE, hk⟩, but_below hb hn hk⟩
theorem On.len (h : On n W b now L) : Calls Try.prog 23 #[.pointer (some ⟨b, 0, none⟩)] W fun e w' => e = .returned (.int .i64 (L.length : Int)) ∧ w' = W := by
  obtain ⟨ρ, hW, hk⟩ := h; exact len_any hW
theorem On.tells (h : On n W b now L) : Calls Try.prog 22 #[.pointer (some ⟨b, 0, none⟩)] W fun e w' => e = .returned (.int .i64 now) ∧ w' = W := by
  obtain ⟨ρ, hW, hk⟩ := h; exact now_any hW
theorem On.next (h : On n W b now L) : Calls Try.prog 20 #[.pointer (some ⟨b, 0, none⟩)] W fun e w' => ∃ r, e = .returned (.tuple #[.int .i64 (r.getD 0), .bool r.isSome]) ∧ LeastIs L r ∧ w' = W := by
  obtain ⟨ρ, hW, hk⟩ := h; exact next_any hW
theorem On.due (h : On n W b now L) (hn : n ≤ W.heap.size) (id : Int) : Calls Try.prog 15 #[.pointer (some ⟨b, 0, none⟩), .int .i64 id] W fun e w' => e = .returned (.tuple #[.int .i64 ((dueOf L id).getD 0), .bool (dueOf L id).isSome]) ∧ On n w' b now L ∧ Below n W w' := by
  obtain ⟨ρ, hW, hk⟩ := h
  refine (due_any hW id).mono ?_
  rintro e w' ⟨rfl, hE, hb⟩
  exact ⟨rfl, ⟨ρ, hE, hk⟩, hb.mono hn⟩
theorem On.adv (h : On n W b now L) (hn : n ≤ W.heap.size) (t : Int) (hg : adBad now t = false) : Calls Try.prog 17 #[.pointer (some ⟨b, 0, none⟩), .int .i64 t] W fun e w' => ∃ O v, e = .returned (.tuple #[v, .int .i64 0]) ∧ OutOf L t O ∧ w'.ownsRow W.heap.size 49 2 v O.length (flt O) ∧ On n w' b t (stay L t) ∧ Below n W w' := by
  obtain ⟨ρ, hW, hk⟩ := h
  refine (advance_any hW t).mono ?_
  rintro e w' (⟨h1, _⟩ | ⟨_, O, v, rfl, h1, h2, h3, h4⟩)
  · rw [hg] at h1; cases h1
  · exact ⟨O, v, rfl, h1, h2, ⟨ρ, h3, hk⟩, but_below h4 hn hk⟩
end
theorem On.new (W : World) (now : Int) (hg : neBad now = false) : Calls Try.prog 8 #[.int .i64 now] W fun e w' => e = .returned (.tuple #[.pointer (some ⟨W.heap.size, 0, none⟩), .int .i64 0]) ∧ On W.heap.size w' W.heap.size now [] ∧ Below W.heap.size W w' := by
  refine (new_any W now).mono ?_
  rintro e w' (⟨h1, _⟩ | ⟨_, rfl, h1, h2⟩)
  · rw [hg] at h1; cases h1
  · refine ⟨rfl, ⟨_, h1, fun g e => ?_⟩, h2⟩
    split at e
    · omega
    · exact absurd rfl e

theorem has_due (L : List (Int × Int)) (id : Int) : (dueOf L id).isSome = has L id := by
  unfold dueOf has
  rw [Option.isSome_map]
  induction L with
  | nil => rfl
  | cons p l ih =>
    rw [List.find?_cons, List.any_cons]
    cases decide (p.1 = id)
    · simpa using ih
    · rfl
theorem arm_len {L : List (Int × Int)} {id : Int} (hu : L.Pairwise (fun p q => p.1 ≠ q.1)) (t : Int) : (noId L id ++ [(id, t)]).length = if has L id = true then L.length else L.length + 1 := by
  rw [List.length_append]
  cases e : has L id with
  | false =>
    have : noId L id = L := filter_same (fun p hp => by have := List.any_eq_false.1 e p hp; simpa using this)
    rw [this]; rfl
  | true =>
    obtain ⟨p, hp, e2⟩ := List.any_eq_true.1 e
    have e3 : p.1 = id := by simpa using e2
    have h1 : (id, p.2) ∈ L := by rw [← e3]; exact hp
    have := filter_len hu h1
    show (noId L id).length + 1 = L.length
    unfold noId
    omega
end Go.Proofs.Ytglbobobifejmaa
