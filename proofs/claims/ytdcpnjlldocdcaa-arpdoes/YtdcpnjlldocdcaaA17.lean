
/-
  Package arp: a cache of plain neighbours; whose blocks turn.
-/
import Derived.Test.YtdcpnjlldocdcaaA16
namespace Go.Proofs.Ytdcpnjlldocdcaa
open Go.RowKit

/-- blocks that are not there are nobody's -/
def Fit (ρ : Nat → Role) (W : World) : Prop := ∀ g, W.heap.size ≤ g → ρ g = (0, 0, 0)
/-- what a call of cache k's leaves of all others' -/
structure Mv (k : Nat) (ρ ρ' : Nat → Role) (W W' : World) : Prop where
  keep : ∀ g, g < W.heap.size → (ρ g).1 ≠ k → ρ' g = ρ g
  but : But (fun g => (ρ g).1 = k) W W'
theorem Mv.refl (k : Nat) (ρ : Nat → Role) (W : World) : Mv k ρ ρ W W := ⟨fun _ _ _ => rfl, But.refl _ _⟩
theorem Mv.trans {k : Nat} {ρ ρ1 ρ2 : Nat → Role} {W W1 W2 : World} (h : Mv k ρ ρ1 W W1) (h' : Mv k ρ1 ρ2 W1 W2) : Mv k ρ ρ2 W W2 :=
  ⟨fun g hg hk => by have e := h.keep g hg hk; rw [h'.keep g (Nat.lt_of_lt_of_le hg h.but.size) (by rw [e]; exact hk), e],
   h.but.trans' h'.but (fun g hg e => Classical.byContradiction fun hn => by rw [h.keep g hg hn] at e; exact hn e)⟩
theorem Mv.below {k : Nat} {ρ : Nat → Role} {W W' : World} (h : Below W.heap.size W W') : Mv k ρ ρ W W' := ⟨fun _ _ _ => rfl, But.of_below h⟩
theorem Fit.below {ρ : Nat → Role} {W W' : World} (h : Fit ρ W) (hs : W.heap.size ≤ W'.heap.size) : Fit ρ W' := fun g hg => h g (Nat.le_trans hs hg)

/-- cache k lies at b, with the neighbours L -/
def Ca (ρ : Nat → Role) (k : Nat) (W : World) (b : Nat) (m : M6) (i : I4) (L : List Nb) : Prop := ∃ lv Lt, Lt.map Prod.snd = L ∧ CAt ρ k W b m i lv Lt

section
variable {ρ ρ' : Nat → Role} {k : Nat} {W W' W2 : World} {b : Nat} {m : M6} {i : I4} {lv : Value} {Lt : List (Nat × Nb)} {L : List Nb}
theorem NbRow.roles (h : NbRow ρ k W lv Lt) (hr : ∀ g, g < W.heap.size → (ρ g).1 = k → ρ' g = ρ g) : NbRow ρ' k W lv Lt := by
  obtain ⟨V, hF, hP⟩ := h.parts
  refine NbRow.of hF (fun g hg e => (hr g hg (by rw [e])).trans e) (fun q t x hx => ⟨(hP q t x hx).1.own (fun g hg e => (hr g hg (by rw [e])).trans e), (hP q t x hx).2⟩)
theorem CAt.roles (h : CAt ρ k W b m i lv Lt) (hr : ∀ g, g < W.heap.size → (ρ g).1 = k → ρ' g = ρ g) : CAt ρ' k W b m i lv Lt :=
  ⟨(hr b h.lt (by rw [h.rb])).trans h.rb, h.pos, h.cells, h.fz, h.row.roles hr, h.tags⟩
theorem CAt.move {k2 : Nat} (h : CAt ρ k W b m i lv Lt) (hF : Fit ρ W) (hm : Mv k2 ρ ρ' W W') (hk : k ≠ k2) : CAt ρ' k W' b m i lv Lt :=
  (h.but hm.but (fun g hg e => hk (hg.symm.trans e))).roles (fun g _ hg => by
    by_cases hl : g < W.heap.size
    · exact hm.keep g hl (by rw [hg]; exact hk)
    · rw [hF g (by omega)] at hg
      have := h.pos
      have hg : 0 = k := hg
      omega)
theorem Ca.move {k2 : Nat} (h : Ca ρ k W b m i L) (hF : Fit ρ W) (hm : Mv k2 ρ ρ' W W') (hk : k ≠ k2) : Ca ρ' k W' b m i L := by
  obtain ⟨lv, Lt, e, h⟩ := h
  exact ⟨lv, Lt, e, h.move hF hm hk⟩
theorem Ca.later (h : Ca ρ k W b m i L) (hb : Below W.heap.size W W') : Ca ρ k W' b m i L := by
  obtain ⟨lv, Lt, e, h⟩ := h
  exact ⟨lv, Lt, e, h.later hb⟩
theorem Ca.but {K : Nat → Prop} (h : Ca ρ k W b m i L) (hb : But K W W') (hk : ∀ g, (ρ g).1 = k → ¬ K g) : Ca ρ k W' b m i L := by
  obtain ⟨lv, Lt, e, h⟩ := h
  exact ⟨lv, Lt, e, h.but hb hk⟩
theorem Ca.rb (h : Ca ρ k W b m i L) : ρ b = (k, 0, 0) := by
  obtain ⟨lv, Lt, e, h⟩ := h
  exact h.rb
theorem Ca.lt (h : Ca ρ k W b m i L) : b < W.heap.size := by
  obtain ⟨lv, Lt, e, h⟩ := h
  exact h.lt
theorem Ca.pos (h : Ca ρ k W b m i L) : 0 < k := by
  obtain ⟨lv, Lt, e, h⟩ := h
  exact h.pos

theorem get_snd {q : Nat} {x : Nb} (h : (Lt.map Prod.snd)[q]? = some x) : ∃ t, Lt[q]? = some (t, x) := by
  rw [List.getElem?_map] at h
  cases hq : Lt[q]? with
  | none => rw [hq] at h; cases h
  | some p => rw [hq] at h; cases h; exact ⟨p.1, rfl⟩
theorem tag_inj (hn : (Lt.map Prod.fst).Nodup) {p q t : Nat} {x y : Nb} (hp : Lt[p]? = some (t, x)) (hq : Lt[q]? = some (t, y)) : p = q := by
  have h1 : (Lt.map Prod.fst)[p]? = some t := by rw [List.getElem?_map, hp]; rfl
  have h2 : (Lt.map Prod.fst)[q]? = some t := by rw [List.getElem?_map, hq]; rfl
  obtain ⟨l1, e1⟩ := List.getElem?_eq_some_iff.1 h1
  obtain ⟨l2, e2⟩ := List.getElem?_eq_some_iff.1 h2
  have hp := List.pairwise_iff_getElem.1 hn
  rcases Nat.lt_trichotomy p q with h | h | h
  · exact absurd (e1.trans e2.symm) (hp p q l1 l2 h)
  · exact h
  · exact absurd (e2.trans e1.symm) (hp q p l2 l1 h)

/-- a neighbour's own cells turn, and those that wait for it -/
theorem CAt.turn (h : CAt ρ k W b m i lv Lt) {q t : Nat} {x x' : Nb} {v' : Value} (hq : Lt[q]? = some (t, x)) {g n c : Nat} (hg : lv = .slice (some ⟨g, 0, none⟩) n c) (b2 : But (fun h => ρ h = (k, 2, t)) W W2) (nr : Near W2 W' g (q * 15)) (cx : CellsAt W' g (q * 15) (x'.cells v'))
    (hρ : ∀ h, h < W.heap.size → ρ h ≠ (k, 2, t) → ρ' h = ρ h) (hr : RowN (fun h => ρ' h = (k, 2, t)) W' v' x'.pd) (hn : x'.pd = [] → v' = .slice none 0 0) : CAt ρ' k W' b m i lv (Lt.set q (t, x')) := by
  obtain ⟨V, hF, hP⟩ := h.row.parts
  have hlt := (List.getElem?_eq_some_iff.1 hq).1
  obtain ⟨a, cap, e, c2, c3, c4, c5⟩ := hF
  rw [hg] at e
  simp only [Value.slice.injEq] at e
  obtain ⟨rfl, rfl, rfl⟩ := e
  obtain ⟨g', e', d2, d3, d4, d5, d6⟩ := c5 _ rfl
  cases e'
  have ng : ρ g ≠ (k, 2, t) := by rw [d2]; simp
  have nb : ρ b ≠ (k, 2, t) := by rw [h.rb]; simp
  have gb : b ≠ g := by rintro rfl; rw [h.rb] at d2; simp at d2
  have bW : But (fun h => ρ h = (k, 2, t) ∨ h = g) W W' := (b2.mono (fun _ e => .inl e)).trans (nr.but.mono (fun _ e => .inr e))
  have bgc : ∀ j, W2.cell? ⟨g, j, none⟩ = W.cell? ⟨g, j, none⟩ := fun j => b2.cell (p := ⟨g, j, none⟩) d3 ng
  refine ⟨(hρ b h.lt nb).trans h.rb, h.pos, h.cells.but h.lt bW (fun e => e.elim nb gb), fun j => (bW.frozen (p := ⟨b, j, none⟩) h.lt (fun e => e.elim nb gb)).trans (h.fz j), ?_, ?_⟩
  · refine NbRow.of (V := fun p => if p = q then v' else V p) (O := fun g => ρ' g = (k, 1, 0)) ?_ (fun _ _ e => e) ?_
    · refine ⟨_, _, by rw [List.length_set]; exact hg, by rw [List.length_set]; exact c2, c3, (fun e => by cases e), fun ad e => ?_⟩
      cases e
      refine ⟨g, rfl, (hρ g d3 ng).trans d2, Nat.lt_of_lt_of_le d3 bW.size, fun j hj => nr.is j (by rw [bgc]; exact d4 j hj), fun j => by rw [nr.fz, b2.frozen (p := ⟨g, j, none⟩) d3 ng]; exact d5 j, fun p hp => ?_⟩
      rw [List.length_set] at hp
      by_cases e : p = q
      · subst e
        rw [nbc_at (t := t) (x := x') (by rw [List.getElem?_set_self hlt])]
        simp only [if_true]
        exact cx
      · have e1 : nbc (Lt.set q (t, x')) (fun p => if p = q then v' else V p) p = nbc Lt V p := by
          unfold nbc
          rw [List.getElem?_set_ne (fun h => e h.symm)]
          simp only [if_neg e]
        rw [e1]
        intro j u hu
        have hj := (List.getElem?_eq_some_iff.1 hu).1
        rw [nbc_len hp] at hj
        rw [nr.out _ (by
          rcases Nat.lt_or_gt_of_ne e with h' | h'
          · left; have := Nat.mul_le_mul_right 15 (show p + 1 ≤ q from h'); omega
          · right; have := Nat.mul_le_mul_right 15 (show q + 1 ≤ p from h'); omega), bgc]
        exact d6 p hp j u hu
    · intro p t' y hy
      by_cases e : p = q
      · subst e
        rw [List.getElem?_set_self hlt] at hy
        cases hy
        simp only [if_true]
        exact ⟨hr, hn⟩
      · rw [List.getElem?_set_ne (fun h => e h.symm)] at hy
        simp only [if_neg e]
        have ht : t' ≠ t := fun et => e (tag_inj h.tags (et ▸ hy) hq)
        have nt : ∀ g', ρ g' = (k, 2, t') → ρ g' ≠ (k, 2, t) := fun g' e1 e2 => ht (by rw [e1] at e2; simpa using e2)
        exact ⟨((hP p t' y hy).1.own (O' := fun g' => ρ g' = (k, 2, t') ∧ ρ' g' = (k, 2, t')) (fun g' hg' e1 => ⟨e1, (hρ g' hg' (nt g' e1)).trans e1⟩)).but bW (fun g' e1 e2 => e2.elim (nt g' e1.1) (fun e3 => by rw [e3, d2] at e1; simp at e1)) |>.own (fun _ _ e => e.2), (hP p t' y hy).2⟩
  · have : (Lt.set q (t, x')).map Prod.fst = Lt.map Prod.fst := by
      rw [List.map_set]
      refine List.ext_getElem? (fun j => ?_)
      rw [List.getElem?_set]
      split
      · rename_i e
        subst e
        rw [List.getElem?_map, hq]
        simp [hlt]
      · rfl
    rw [this]; exact h.tags
/-- the list is another one -/
theorem CAt.relist (h : CAt ρ k W b m i lv Lt) {K : Nat → Prop} (b2 : But K W W2) (nb : ¬ K b) {lv' : Value} {Lt' : List (Nat × Nb)} (hr : NbRow ρ' k W2 lv' Lt') (hb : ρ' b = (k, 0, 0)) (ht : (Lt'.map Prod.fst).Nodup) : CAt ρ' k (W2.setCell ⟨b, 10, none⟩ lv') b m i lv' Lt' := by
  have hc := h.cells.but h.lt b2 nb
  have hc2 := hc.put 10 lv' (by simp [M6.vals, I4.vals])
  rw [Nat.zero_add] at hc2
  have bo : But (Only b) W2 (W2.setCell ⟨b, 10, none⟩ lv') := (But.refl (Only b) W2).setCell (p := ⟨b, 10, none⟩) (.inr rfl) _
  have hl2 : b < W2.heap.size := Nat.lt_of_lt_of_le h.lt b2.size
  refine ⟨hb, h.pos, hc2, fun j => ?_, ?_, ht⟩
  · rw [setCell_one, World.frozen?_setCells]
    exact (b2.frozen (p := ⟨b, j, none⟩) h.lt nb).trans (h.fz j)
  · obtain ⟨V, hF, hP⟩ := hr.parts
    refine NbRow.of (hF.but bo (fun g e e2 => by have e2 : g = b := e2; rw [e2, hb] at e; simp at e)) (fun _ _ e => e) (hP.but bo (fun g t e _ e2 => by have e2 : g = b := e2; rw [e2, hb] at e; simp at e) (fun _ _ _ e _ => e))
theorem fresh (l : List Nat) : ∃ t, t ∉ l := by
  have : ∃ t, ∀ x ∈ l, x < t := by
    induction l with
    | nil => exact ⟨0, fun x hx => by cases hx⟩
    | cons a l ih =>
      obtain ⟨t, ht⟩ := ih
      refine ⟨max (a + 1) t, fun x hx => ?_⟩
      rcases List.mem_cons.1 hx with rfl | hx
      · omega
      · have := ht x hx; omega
  obtain ⟨t, ht⟩ := this
  exact ⟨t, fun h => Nat.lt_irrefl _ (ht t h)⟩
end
end Go.Proofs.Ytdcpnjlldocdcaa
