
/-
  The calls of one wheel, for walks: its blocks are of K, all others stay.
-/
import Derived.Test.YtglbobobifejmaaQOp
namespace Go.Proofs.Ytglbobobifejmaa
open Go.RowKit

/-- a wheel that holds L, all of it in blocks of K -/
def OnK (K : Nat → Prop) (W : World) (b : Nat) (now : Int) (L : List (Int × Int)) : Prop := ∃ ρ, Wh ρ W b now L ∧ ∀ g, ρ g ≠ 0 → K g

section
variable {K : Nat → Prop} {W : World} {b : Nat} {now : Int} {L : List (Int × Int)}
theorem OnK.uniq (h : OnK K W b now L) : L.Pairwise (fun p q => p.1 ≠ q.1) := by
  obtain ⟨ρ, ⟨V, SL, _, hR, _⟩, _⟩ := h; exact hR.uniq
theorem OnK.len64 (h : OnK K W b now L) : L.length ≤ 64 := by
  obtain ⟨ρ, ⟨V, SL, _, _, hl⟩, _⟩ := h; exact hl
theorem OnK.but (h : OnK K W b now L) {W' : World} {J : Nat → Prop} (hb : But J W W') (hj : ∀ g, J g → ¬ K g) : OnK K W' b now L := by
  obtain ⟨ρ, ⟨V, SL, hW, hR, hl⟩, hk⟩ := h
  exact ⟨ρ, ⟨V, SL, hW.but hb (fun g e => Classical.byContradiction fun q => hj g e (hk g q)), hR, hl⟩, hk⟩
theorem OnK.arm (h : OnK K W b now L) (hn : ∀ g, W.heap.size ≤ g → K g) (h0 : 0 ≤ now) (id t : Int) : Calls Try.prog 11 #[.pointer (some ⟨b, 0, none⟩), .int .i64 id, .int .i64 t] W fun e w' => e = .returned (.int .i64 (arE now L id t)) ∧ OnK K w' b now (arL now L id t) ∧ But K W w' := by
  obtain ⟨ρ, hW, hk⟩ := h
  refine (arm_any hW h0 id t).mono ?_
  rintro e w' ⟨rfl, ρ', h1, h2, h3⟩
  exact ⟨rfl, ⟨ρ', h1, fun g e => (h2.new g e).elim (hk g) (hn g)⟩, h3.mono hk⟩
theorem OnK.cancel (h : OnK K W b now L) (id : Int) : Calls Try.prog 13 #[.pointer (some ⟨b, 0, none⟩), .int .i64 id] W fun e w' => e = .returned (.int .i64 (if has L id = true then 0 else 7)) ∧ OnK K w' b now (noId L id) ∧ But K W w' := by
  obtain ⟨ρ, hW, hk⟩ := h
  refine (cancel_any hW id).mono ?_
  rintro e w' ⟨rfl, hE, hb⟩
  exact ⟨rfl, ⟨ρ, hE, hk⟩, hb.mono hk⟩
theorem OnK.len (h : OnK K W b now L) : Calls Try.prog 23 #[.pointer (some ⟨b, 0, none⟩)] W fun e w' => e = .returned (.int .i64 (L.length : Int)) ∧ w' = W := by
  obtain ⟨ρ, hW, hk⟩ := h; exact len_any hW
theorem OnK.next (h : OnK K W b now L) : Calls Try.prog 20 #[.pointer (some ⟨b, 0, none⟩)] W fun e w' => ∃ r, e = .returned (.tuple #[.int .i64 (r.getD 0), .bool r.isSome]) ∧ LeastIs L r ∧ w' = W := by
  obtain ⟨ρ, hW, hk⟩ := h; exact next_any hW
theorem OnK.due (h : OnK K W b now L) (id : Int) : Calls Try.prog 15 #[.pointer (some ⟨b, 0, none⟩), .int .i64 id] W fun e w' => e = .returned (.tuple #[.int .i64 ((dueOf L id).getD 0), .bool (dueOf L id).isSome]) ∧ OnK K w' b now L ∧ But K W w' := by
  obtain ⟨ρ, hW, hk⟩ := h
  refine (due_any hW id).mono ?_
  rintro e w' ⟨rfl, hE, hb⟩
  exact ⟨rfl, ⟨ρ, hE, hk⟩, But.of_below hb⟩
theorem OnK.adv (h : OnK K W b now L) (t : Int) (hg : adBad now t = false) : Calls Try.prog 17 #[.pointer (some ⟨b, 0, none⟩), .int .i64 t] W fun e w' => ∃ O v, e = .returned (.tuple #[v, .int .i64 0]) ∧ OutOf L t O ∧ w'.ownsRow W.heap.size 49 2 v O.length (flt O) ∧ OnK K w' b t (stay L t) ∧ But K W w' := by
  obtain ⟨ρ, hW, hk⟩ := h
  refine (advance_any hW t).mono ?_
  rintro e w' (⟨h1, _⟩ | ⟨_, O, v, rfl, h1, h2, h3, h4⟩)
  · rw [hg] at h1; cases h1
  · exact ⟨O, v, rfl, h1, h2, ⟨ρ, h3, hk⟩, h4.mono hk⟩
end

/-- an array of m numbers -/
structure Arr (W : World) (g m : Nat) (d : Nat → Int) : Prop where
  lt : g < W.heap.size
  c : ∀ i, i < m → W.cell? ⟨g, i, none⟩ = some (.int .i64 (d i))
  f : ∀ i, W.frozen? ⟨g, i, none⟩ = false
theorem Arr.but {W W' : World} {g m : Nat} {d : Nat → Int} (h : Arr W g m d) {J : Nat → Prop} (hb : But J W W') (hj : ¬ J g) : Arr W' g m d :=
  ⟨Nat.lt_of_lt_of_le h.lt hb.size, fun i hi => (hb.cell (p := ⟨g, i, none⟩) h.lt hj).trans (h.c i hi), fun i => (hb.frozen (p := ⟨g, i, none⟩) h.lt hj).trans (h.f i)⟩
theorem Arr.set {W : World} {g m : Nat} {d : Nat → Int} (h : Arr W g m d) (k : Nat) (hk : k < m) (x : Int) : Arr (W.setCell ⟨g, k, none⟩ (.int .i64 x)) g m (upd d k x) := by
  refine ⟨by rw [World.size_setCell]; exact h.lt, fun i hi => ?_, fun i => by rw [World.frozen?_setCell]; exact h.f i⟩
  by_cases e : i = k
  · subst e; rw [upd_same]; exact World.cell?_setCell_same' _ _ _ (by rw [h.c i hi]; rfl)
  · rw [upd_other _ _ _ _ e, World.cell?_setCell_other _ _ _ _ (by intro q; cases q; exact e rfl)]; exact h.c i hi
theorem but_set (W : World) (g k : Nat) (v : Value) : But (Only g) W (W.setCell ⟨g, k, none⟩ v) := (But.refl (Only g) W).setCell (p := ⟨g, k, none⟩) (.inr rfl) v
end Go.Proofs.Ytglbobobifejmaa
