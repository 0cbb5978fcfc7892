
/-
  A variable that holds a list of byte texts: one more behind, the first one gone.
-/
import Derived.Test.YtjkfjijnjkpbbaaJ7
import Derived.Deep.AppendSrc
namespace Go.Proofs.Ytjkfjijnjkpbbaa
open Go.RowKit

/-- the variable in block v holds the texts L; O: its own blocks; no block of A holds one of the texts' bytes -/
structure RowS (O A : Nat → Prop) (W : World) (v : Nat) (L : List (List Int)) : Prop where
  ov : O v
  oa : ∀ g, O g → A g
  vlt : v < W.heap.size
  vf : W.frozen? ⟨v, 0, none⟩ = false
  row : ∃ a cap, W.cell? ⟨v, 0, none⟩ = some (.slice a L.length cap) ∧ L.length ≤ cap ∧ cap ≤ maxLen ∧ (a = none → cap = 0) ∧ ∀ ad, a = some ad → ∃ g off, O g ∧ g ≠ v ∧ g < W.heap.size ∧ (0 < cap → ad = ⟨g, off, none⟩) ∧ (∀ j, j < cap → (W.cell? ⟨g, off + j, none⟩).isSome = true) ∧ (∀ k, W.frozen? ⟨g, k, none⟩ = false) ∧ ∀ k f, L[k]? = some f → ∃ u, W.cell? ⟨g, off + k, none⟩ = some u ∧ u.oneCell' = true ∧ IsF A W u f

theorem RowS.but {O A K : Nat → Prop} {W W' : World} {v : Nat} {L : List (List Int)} (h : RowS O A W v L) (hb : But K W W') (hk : ∀ g, K g → A g) (hd : ∀ g, O g → ¬ K g) : RowS O A W' v L := by
  obtain ⟨a, cap, c1, c2, c3, c4, c5⟩ := h.row
  refine ⟨h.ov, h.oa, Nat.lt_of_lt_of_le h.vlt hb.size, (hb.frozen (p := ⟨v, 0, none⟩) h.vlt (hd v h.ov)).trans h.vf, a, cap, (hb.cell (p := ⟨v, 0, none⟩) h.vlt (hd v h.ov)).trans c1, c2, c3, c4, fun ad e => ?_⟩
  obtain ⟨g, off, d1, d2, d3, d4, d5, d6, d7⟩ := c5 ad e
  have ng := hd g d1
  exact ⟨g, off, d1, d2, Nat.lt_of_lt_of_le d3 hb.size, d4, fun j hj => by rw [hb.cell (p := ⟨g, off + j, none⟩) d3 ng]; exact d5 j hj, fun k => (hb.frozen (p := ⟨g, k, none⟩) d3 ng).trans (d6 k), fun k f hf => by obtain ⟨u, e1, e2, e3⟩ := d7 k f hf; exact ⟨u, (hb.cell (p := ⟨g, off + k, none⟩) d3 ng).trans e1, e2, e3.but hb hk⟩⟩
theorem RowS.later {O A : Nat → Prop} {W W' : World} {v : Nat} {L : List (List Int)} (h : RowS O A W v L) (hb : Below W.heap.size W W') : RowS O A W' v L := h.but (K := fun _ => False) (But.of_below hb) (fun _ e => e.elim) (fun _ _ => id)
theorem RowS.avoid {O A A' : Nat → Prop} {W : World} {v : Nat} {L : List (List Int)} (h : RowS O A W v L) (hk : ∀ g, g < W.heap.size → A' g → A g) (hO : ∀ g, O g → A' g) : RowS O A' W v L := by
  obtain ⟨a, cap, c1, c2, c3, c4, c5⟩ := h.row
  refine ⟨h.ov, hO, h.vlt, h.vf, a, cap, c1, c2, c3, c4, fun ad e => ?_⟩
  obtain ⟨g, off, d1, d2, d3, d4, d5, d6, d7⟩ := c5 ad e
  exact ⟨g, off, d1, d2, d3, d4, d5, d6, fun k f hf => by obtain ⟨u, e1, e2, e3⟩ := d7 k f hf; exact ⟨u, e1, e2, e3.avoid hk⟩⟩
/-- a new variable -/
theorem RowS.new {O A : Nat → Prop} (W : World) (t : TypeId) (ho : O W.heap.size) (oa : ∀ g, O g → A g) : RowS O A (W.alloc (.cells #[.slice none 0 0] t)) W.heap.size [] :=
  ⟨ho, oa, by simp, frozen_new _ _ _ _, none, 0, cell_new _ _ _, Nat.le_refl _, Nat.zero_le _, fun _ => rfl, fun ad e => by cases e⟩

theorem info_sl : (Try.prog.info? 27).map (fun i => (i.zero, i.size, i.bytes)) = some (some (.slice none 0 0), 1, 24) := by kernel_rfl

/-- one more text -/
theorem RowS.push {O A : Nat → Prop} {W : World} {v : Nat} {L : List (List Int)} (h : RowS O A W v L) (hA : ∀ g, A g → g < W.heap.size) (u : Value) (f : List Int) (hu : IsF A W u f) (hl : L.length ≤ 2199023255552) :
    ∃ a cap val w2, W.cell? ⟨v, 0, none⟩ = some (.slice a L.length cap) ∧ (Builtin.append_ #[32, 32] 32 #[.slice a L.length cap, .slice (some ⟨W.heap.size, 0, none⟩) 1 1]).run Try.prog (W.alloc (.cells #[u] 27)) = .ok val w2 ∧ (∃ a' c', val = .slice a' (L.length + 1) c') ∧ w2.cell? ⟨v, 0, none⟩ = some (.slice a L.length cap) ∧ w2.frozen? ⟨v, 0, none⟩ = false ∧
      RowS (fun g => O g ∨ W.heap.size ≤ g ∧ g < w2.heap.size) (fun g => A g ∨ W.heap.size ≤ g ∧ g < w2.heap.size) (w2.setCell ⟨v, 0, none⟩ val) v (L ++ [f]) ∧ But O W (w2.setCell ⟨v, 0, none⟩ val) ∧ But O W w2 := by
  obtain ⟨i, hi, hz0, hz1, hz2⟩ := info_parts info_sl
  obtain ⟨a, cap, c1, c2, c3, c4, c5⟩ := h.row
  have one := hu.one
  have b1 : But (fun _ => False) W (W.alloc (.cells #[u] 27)) := (But.refl _ _).alloc _
  have s1 : (W.alloc (.cells #[u] 27)).heap.size = W.heap.size + 1 := by simp
  have hs : Src Try.prog i.size 32 (.slice (some ⟨W.heap.size, 0, none⟩) 1 1) 1 [u] (W.alloc (.cells #[u] 27)) := by
    rw [hz1]
    exact Src.ofSlice (P := Try.prog) _ Try.underlying32 ⟨W.heap.size, 0, none⟩ 1 1 [u] rfl (fun j w hw => by
      rw [Addr.add_lit, cell_of_row _ W.heap.size (0 + j) _ 27 (0, 0) (heap_alloc_new W _), Nat.zero_add]
      simpa using hw) (fun w hw => by rw [List.mem_singleton.1 hw]; exact one)
  have lv := h.vlt
  by_cases hr : L.length + 1 ≤ cap
  · obtain ⟨ad, rfl⟩ : ∃ ad, a = some ad := by
      cases a with
      | none => have := c4 rfl; omega
      | some ad => exact ⟨ad, rfl⟩
    obtain ⟨g, off, d1, d2, d3, d4, d5, d6, d7⟩ := c5 ad rfl
    obtain rfl := d4 (by omega)
    have nv : g ≠ v := d2
    have hrun := run_append_room_src (P := Try.prog) (W.alloc (.cells #[u] 27)) 32 32 32 27 i Try.underlying32 hi g off L.length cap _ 1 [u] hs hr
      (fun j hj => by
        have hj0 : j = 0 := by simpa using hj
        subst hj0
        rw [hz1, Nat.mul_one, Nat.add_zero, b1.cell (p := ⟨g, off + L.length, none⟩) d3 id]; exact d5 _ (by omega))
      (fun j hj => by rw [b1.frozen (p := ⟨g, off + L.length * i.size + j, none⟩) d3 id]; exact d6 _)
    rw [hz1, Nat.mul_one] at hrun
    have b2 : But O W ((W.alloc (.cells #[u] 27)).setCells g (off + L.length) [u]) := (b1.mono (fun _ e => e.elim)).trans ((But.cells g [u] _ _).mono (fun y e => e ▸ d1))
    have cv : ((W.alloc (.cells #[u] 27)).setCells g (off + L.length) [u]).cell? ⟨v, 0, none⟩ = some (.slice (some ⟨g, off, none⟩) L.length cap) := by
      rw [(But.cells g [u] _ _).cell (p := ⟨v, 0, none⟩) (by rw [s1]; show v < _; omega) (fun e => nv (Eq.symm e)), b1.cell (p := ⟨v, 0, none⟩) lv id]; exact c1
    have fv : ((W.alloc (.cells #[u] 27)).setCells g (off + L.length) [u]).frozen? ⟨v, 0, none⟩ = false := by
      rw [World.frozen?_setCells, b1.frozen (p := ⟨v, 0, none⟩) lv id]; exact h.vf
    refine ⟨_, cap, _, _, c1, hrun, ⟨_, _, rfl⟩, cv, fv, ?_, b2.setCell (p := ⟨v, 0, none⟩) (.inr h.ov) _, b2⟩
    have b3 : But (Only v) ((W.alloc (.cells #[u] 27)).setCells g (off + L.length) [u]) (((W.alloc (.cells #[u] 27)).setCells g (off + L.length) [u]).setCell ⟨v, 0, none⟩ (.slice (some ⟨g, off, none⟩) (L.length + 1) cap)) := (But.refl _ _).cellb _ _
    have bW : But O W (((W.alloc (.cells #[u] 27)).setCells g (off + L.length) [u]).setCell ⟨v, 0, none⟩ (.slice (some ⟨g, off, none⟩) (L.length + 1) cap)) := b2.setCell (p := ⟨v, 0, none⟩) (.inr h.ov) _
    have key : ∀ j, ¬ j = off + L.length → (((W.alloc (.cells #[u] 27)).setCells g (off + L.length) [u]).setCell ⟨v, 0, none⟩ (.slice (some ⟨g, off, none⟩) (L.length + 1) cap)).cell? ⟨g, j, none⟩ = W.cell? ⟨g, j, none⟩ := fun j hj => by
      rw [b3.cell (p := ⟨g, j, none⟩) (Nat.lt_of_lt_of_le d3 b2.size) (fun e => nv e), setCells_out (by simp; omega), b1.cell (p := ⟨g, j, none⟩) d3 id]
    have keyN : (((W.alloc (.cells #[u] 27)).setCells g (off + L.length) [u]).setCell ⟨v, 0, none⟩ (.slice (some ⟨g, off, none⟩) (L.length + 1) cap)).cell? ⟨g, off + L.length, none⟩ = some u := by
      rw [b3.cell (p := ⟨g, off + L.length, none⟩) (Nat.lt_of_lt_of_le d3 b2.size) (fun e => nv e)]
      have := World.cell?_setCells_in g [u] (off + L.length) (W.alloc (.cells #[u] 27)) (fun j hj => by
        have hj0 : j = 0 := by simpa using hj
        subst hj0
        rw [Nat.add_zero, b1.cell (p := ⟨g, off + L.length, none⟩) d3 id]; exact d5 _ (by omega)) 0 (by simp)
      rw [Nat.add_zero] at this
      exact this
    have hAW : ∀ y, y < W.heap.size → (A y ∨ W.heap.size ≤ y ∧ y < ((W.alloc (.cells #[u] 27)).setCells g (off + L.length) [u]).heap.size) → A y := fun y hy e => e.elim id (fun e => by omega)
    refine ⟨.inl h.ov, fun y e => e.elim (fun e => .inl (h.oa y e)) .inr, Nat.lt_of_lt_of_le lv bW.size, (World.frozen?_setCell ..).trans fv, some ⟨g, off, none⟩, cap, ?_, by rw [List.length_append]; simp; omega, c3, (fun e => by cases e), fun ad e => ?_⟩
    · rw [World.cell?_setCell_same' _ _ _ (by rw [cv]; rfl), List.length_append]; rfl
    · cases e
      refine ⟨g, off, .inl d1, d2, Nat.lt_of_lt_of_le d3 bW.size, fun _ => rfl, fun j hj => ?_, fun k => ?_, fun k f' hf' => ?_⟩
      · by_cases e : off + j = off + L.length
        · rw [e, keyN]; rfl
        · rw [key _ e]; exact d5 j hj
      · rw [World.frozen?_setCell, World.frozen?_setCells, b1.frozen (p := ⟨g, k, none⟩) d3 id]; exact d6 k
      · by_cases e : k = L.length
        · subst e
          rw [List.getElem?_append_right (Nat.le_refl _), Nat.sub_self] at hf'
          have hf' : f = f' := by simpa using hf'
          subst hf'
          exact ⟨u, keyN, one, (hu.avoid hAW).but bW (fun y e => .inl (h.oa y e))⟩
        · have hk : k < L.length := by have := (List.getElem?_eq_some_iff.1 hf').1; simp at this; omega
          rw [List.getElem?_append_left hk] at hf'
          obtain ⟨u', e1, e2, e3⟩ := d7 k f' hf'
          exact ⟨u', by rw [key _ (by omega)]; exact e1, e2, (e3.avoid hAW).but bW (fun y e => .inl (h.oa y e))⟩
  · obtain ⟨olds, hold, ho1, ho2⟩ : ∃ olds : List Value, (Builtin.firstCells i.size L.length (.slice a L.length cap)).run Try.prog (W.alloc (.cells #[u] 27)).drew = .ok olds.toArray (W.alloc (.cells #[u] 27)).drew ∧ olds.length = L.length ∧ ∀ k f', L[k]? = some f' → ∃ u', olds[k]? = some u' ∧ u'.oneCell' = true ∧ IsF A W u' f' := by
      rw [hz1]
      cases a with
      | none =>
        have h0 := c4 rfl
        have hL : L = [] := List.eq_nil_of_length_eq_zero (by omega)
        subst hL
        exact ⟨[], run_firstCells_none _ 1 0 0 cap, rfl, fun k f' hf' => by rw [List.getElem?_nil] at hf'; cases hf'⟩
      | some ad =>
        obtain ⟨g, off, d1, d2, d3, d4, d5, d6, d7⟩ := c5 ad rfl
        refine ⟨(List.range L.length).map (fun k => (W.cell? ⟨g, off + k, none⟩).getD (.slice none 0 0)), run_firstCells_some _ 1 L.length ad L.length cap _ (by simp) (fun j w hw => ?_), by simp, fun k f' hf' => ?_⟩
        · have hj : j < L.length := by have := (List.getElem?_eq_some_iff.1 hw).1; simpa using this
          obtain rfl := d4 (by omega)
          rw [List.getElem?_map, List.getElem?_range hj] at hw
          have hw : (W.cell? ⟨g, off + j, none⟩).getD (.slice none 0 0) = w := by simpa using hw
          obtain ⟨z, hz⟩ := Option.isSome_iff_exists.1 (d5 j (by omega))
          rw [Addr.add_mid]
          have e1 : (W.alloc (.cells #[u] 27)).drew.cell? ⟨g, off + j, none⟩ = W.cell? ⟨g, off + j, none⟩ := (b1.drew).cell (p := ⟨g, off + j, none⟩) d3 id
          rw [e1, hz]
          rw [hz] at hw
          exact congrArg some hw
        · have hk : k < L.length := (List.getElem?_eq_some_iff.1 hf').1
          obtain ⟨u', e1, e2, e3⟩ := d7 k f' hf'
          exact ⟨u', by rw [List.getElem?_map, List.getElem?_range hk]; show some ((W.cell? _).getD _) = _; rw [e1]; rfl, e2, e3⟩
    have hrun := run_append_grow_src (P := Try.prog) (W.alloc (.cells #[u] 27)) 32 32 32 27 i _ Try.underlying32 hi hz0 a L.length cap olds hold _ 1 [u] hs (by omega) (by omega) (growslice_fits (by omega) (by rw [hz2]; omega))
    obtain ⟨C, hC⟩ : ∃ C, C = grownCap (W.alloc (.cells #[u] 27)) (L.length + 1) cap 27 := ⟨_, rfl⟩
    have hge := grownCap_ge (W.alloc (.cells #[u] 27)) (L.length + 1) cap 27
    have hle := grownCap_le_maxLen (W.alloc (.cells #[u] 27)) (L.length + 1) cap 27 (by unfold maxLen; omega)
    rw [← hC] at hrun hge hle
    rw [s1] at hrun
    obtain ⟨Z, hZ⟩ : ∃ Z, Z = (olds ++ [u]).toArray ++ Builtin.zeroCells (Value.slice none 0 0).cells (C - (L.length + 1)) := ⟨_, rfl⟩
    rw [← hZ] at hrun
    have zs : Z.size = C := by
      rw [hZ, Array.size_append, size_zeroCells]
      simp [Value.cells]
      omega
    have zk : ∀ k u', (olds ++ [u])[k]? = some u' → Z[k]? = some u' := fun k u' hk => by
      have hlt := (List.getElem?_eq_some_iff.1 hk).1
      rw [hZ, Array.getElem?_append_left (by simpa using hlt)]
      simpa using hk
    have bD : But O W ((W.alloc (.cells #[u] 27)).drew.alloc (.cells Z 27)) := ((b1.mono (fun _ e => e.elim)).drew).alloc _
    have sD : ((W.alloc (.cells #[u] 27)).drew.alloc (.cells Z 27)).heap.size = W.heap.size + 2 := by simp
    have nO : ∀ y, W.heap.size ≤ y → ¬ O y := fun y hy e => by have := hA y (h.oa y e); omega
    have bF : But (fun _ => False) W ((W.alloc (.cells #[u] 27)).drew.alloc (.cells Z 27)) := (b1.drew).alloc _
    have cv := (bF.cell (p := ⟨v, 0, none⟩) lv id).trans c1
    have fv := (bF.frozen (p := ⟨v, 0, none⟩) lv id).trans h.vf
    refine ⟨a, cap, _, _, c1, hrun, ⟨_, _, rfl⟩, cv, fv, ?_, bD.setCell (p := ⟨v, 0, none⟩) (.inr h.ov) _, bD⟩
    have b3 : But (Only v) ((W.alloc (.cells #[u] 27)).drew.alloc (.cells Z 27)) (((W.alloc (.cells #[u] 27)).drew.alloc (.cells Z 27)).setCell ⟨v, 0, none⟩ (.slice (some ⟨W.heap.size + 1, 0, none⟩) (L.length + 1) C)) := (But.refl _ _).cellb _ _
    have bW : But O W (((W.alloc (.cells #[u] 27)).drew.alloc (.cells Z 27)).setCell ⟨v, 0, none⟩ (.slice (some ⟨W.heap.size + 1, 0, none⟩) (L.length + 1) C)) := bD.setCell (p := ⟨v, 0, none⟩) (.inr h.ov) _
    have hAW : ∀ y, y < W.heap.size → (A y ∨ W.heap.size ≤ y ∧ y < ((W.alloc (.cells #[u] 27)).drew.alloc (.cells Z 27)).heap.size) → A y := fun y hy e => e.elim id (fun e => by omega)
    have hn : (W.alloc (.cells #[u] 27)).drew.heap.size = W.heap.size + 1 := s1
    have cz : ∀ k u', Z[k]? = some u' → (((W.alloc (.cells #[u] 27)).drew.alloc (.cells Z 27)).setCell ⟨v, 0, none⟩ (.slice (some ⟨W.heap.size + 1, 0, none⟩) (L.length + 1) C)).cell? ⟨W.heap.size + 1, k, none⟩ = some u' := fun k u' hk => by
      rw [b3.cell (p := ⟨W.heap.size + 1, k, none⟩) (by rw [sD]; show W.heap.size + 1 < W.heap.size + 2; omega) (fun e => by have e : W.heap.size + 1 = v := e; omega), ← hn, cell_of_row _ (W.alloc (.cells #[u] 27)).drew.heap.size k _ 27 (0, 0) (heap_alloc_new _ _)]
      exact hk
    refine ⟨.inl h.ov, fun y e => e.elim (fun e => .inl (h.oa y e)) .inr, Nat.lt_of_lt_of_le lv bW.size, (World.frozen?_setCell ..).trans fv, some ⟨W.heap.size + 1, 0, none⟩, C, ?_, by rw [List.length_append]; exact hge, hle, (fun e => by cases e), fun ad e => ?_⟩
    · rw [World.cell?_setCell_same' _ _ _ (by rw [cv]; rfl), List.length_append]; rfl
    · cases e
      refine ⟨W.heap.size + 1, 0, .inr ⟨by omega, by rw [sD]; omega⟩, by omega, by have := b3.size; rw [sD] at this; omega, fun _ => rfl, fun j hj => ?_, fun k => ?_, fun k f' hf' => ?_⟩
      · rw [Nat.zero_add, cz j Z[j] (Array.getElem?_eq_getElem (by omega))]; rfl
      · rw [World.frozen?_setCell, ← hn]; exact frozen_new _ _ _ _
      · rw [Nat.zero_add]
        by_cases e : k = L.length
        · subst e
          rw [List.getElem?_append_right (Nat.le_refl _), Nat.sub_self] at hf'
          have hf' : f = f' := by simpa using hf'
          subst hf'
          exact ⟨u, cz _ _ (zk _ _ (by rw [← ho1, List.getElem?_append_right (Nat.le_refl _), Nat.sub_self]; rfl)), one, (hu.avoid hAW).but bW (fun y e => .inl (h.oa y e))⟩
        · have hk : k < L.length := by have := (List.getElem?_eq_some_iff.1 hf').1; simp at this; omega
          rw [List.getElem?_append_left hk] at hf'
          obtain ⟨u', e1, e2, e3⟩ := ho2 k f' hf'
          exact ⟨u', cz _ _ (zk _ _ (by rw [List.getElem?_append_left (by omega)]; exact e1)), e2, (e3.avoid hAW).but bW (fun y e => .inl (h.oa y e))⟩

/-- the first text, and what is left without it -/
theorem RowS.first {O A : Nat → Prop} {W : World} {v : Nat} {f : List Int} {L : List (List Int)} (h : RowS O A W v (f :: L)) : ∃ g off cap u, W.cell? ⟨v, 0, none⟩ = some (.slice (some ⟨g, off, none⟩) (L.length + 1) cap) ∧ L.length + 1 ≤ cap ∧ cap ≤ maxLen ∧ W.cell? ⟨g, off, none⟩ = some u ∧ IsF A W u f ∧ O g ∧ g < W.heap.size ∧ g ≠ v ∧
    ∀ a', (1 < cap → a' = ⟨g, off + 1, none⟩) → RowS O A (W.setCell ⟨v, 0, none⟩ (.slice (some a') L.length (cap - 1))) v L := by
  obtain ⟨a, cap, c1, c2, c3, c4, c5⟩ := h.row
  have c2 : L.length + 1 ≤ cap := c2
  obtain ⟨ad, rfl⟩ : ∃ ad, a = some ad := by
    cases a with
    | none => have := c4 rfl; omega
    | some ad => exact ⟨ad, rfl⟩
  obtain ⟨g, off, d1, d2, d3, d4, d5, d6, d7⟩ := c5 ad rfl
  obtain rfl := d4 (by omega)
  obtain ⟨u, e1, e2, e3⟩ := d7 0 f rfl
  refine ⟨g, off, cap, u, c1, c2, c3, e1, e3, d1, d3, d2, fun a' ha => ?_⟩
  have b3 : But (Only v) W (W.setCell ⟨v, 0, none⟩ (.slice (some a') L.length (cap - 1))) := (But.refl _ _).cellb _ _
  refine ⟨h.ov, h.oa, Nat.lt_of_lt_of_le h.vlt b3.size, (World.frozen?_setCell ..).trans h.vf, some a', cap - 1, World.cell?_setCell_same' _ _ _ (by rw [c1]; rfl), by omega, by omega, (fun e => by cases e), fun ad e => ?_⟩
  cases e
  refine ⟨g, off + 1, d1, d2, Nat.lt_of_lt_of_le d3 b3.size, fun h0 => ha (by omega), fun j hj => ?_, fun k => ?_, fun k f' hf' => ?_⟩
  · rw [b3.cell (p := ⟨g, off + 1 + j, none⟩) d3 (fun e => d2 e), show off + 1 + j = off + (1 + j) by omega]; exact d5 _ (by omega)
  · rw [World.frozen?_setCell]; exact d6 k
  · obtain ⟨u', q1, q2, q3⟩ := d7 (k + 1) f' (by simpa using hf')
    exact ⟨u', by rw [b3.cell (p := ⟨g, off + 1 + k, none⟩) d3 (fun e => d2 e), show off + 1 + k = off + (k + 1) by omega]; exact q1, q2, q3.but b3 (fun y e => by have e : y = v := e; rw [e]; exact h.oa v h.ov)⟩
end Go.Proofs.Ytjkfjijnjkpbbaa
