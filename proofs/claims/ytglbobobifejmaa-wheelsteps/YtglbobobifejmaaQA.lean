
/-
  add: a timer into a slot.
-/
import Derived.Test.YtglbobobifejmaaQI4
namespace Go.Proofs.Ytglbobobifejmaa
open Go.RowKit

set_option maxRecDepth 100000 in
theorem add1_any (id tm x : Int) (s : Nat) (w : World) (hc : w.cell? ⟨s, 1, none⟩ = some (.int .i64 x)) :
    Calls Try.prog 32 #[.agg #[.int .i64 id, .int .i64 tm], .pointer (some ⟨s, 0, none⟩)] w fun e w' => e = .returned (.bool (decide (x < tm))) ∧ Below w.heap.size w w' := by
  have B1 : Hid (Below w.heap.size w (w.alloc (.cells #[.int .i64 id, .int .i64 tm] 49))) := (Below.refl _ _).alloc (Nat.le_refl _) _
  have hs := World.block_lt_of_cell? w _ hc
  have hc2 := (B1.out.cell (p := ⟨s, 1, none⟩) hs).trans hc
  go_enter Try.func32, Try.ntmps32
  go_wp2
  go_ret
  exact ⟨rfl, B1.out⟩

/-- behind all that come up to the tick -/
def plc (l : List (Int × Int)) (t : Int) : Nat := l.findIdx (fun q => decide (t < q.2))
theorem plc_le (l : List (Int × Int)) (t : Int) : plc l t ≤ l.length := List.findIdx_le_length
theorem idx_plc (l : List (Int × Int)) (t : Int) : (idx (fun q => decide (t < q.2)) l = (plc l t : Int) ∧ plc l t < l.length) ∨ (idx (fun q => decide (t < q.2)) l = -1 ∧ plc l t = l.length) := by
  unfold idx plc
  rw [List.findIdx?_eq_guard_findIdx_lt]
  by_cases h : l.findIdx (fun q => decide (t < q.2)) < l.length
  · rw [Option.guard_eq_some_iff.2 ⟨rfl, by simpa using h⟩]
    exact .inl ⟨rfl, h⟩
  · rw [Option.guard_eq_none_iff.2 (by simpa using h)]
    exact .inr ⟨rfl, by have := plc_le l t; unfold plc at this; omega⟩

/-- roles stay, and new ones are of new blocks -/
structure Ext (ρ ρ' : Nat → Nat) (n : Nat) : Prop where
  old : ∀ g, ρ g ≠ 0 → ρ' g = ρ g
  new : ∀ g, ρ' g ≠ 0 → ρ g ≠ 0 ∨ n ≤ g
theorem Ext.refl (ρ : Nat → Nat) (n : Nat) : Ext ρ ρ n := ⟨fun _ _ => rfl, fun _ h => .inl h⟩
theorem Ext.mono {ρ ρ' : Nat → Nat} {n m : Nat} (h : Ext ρ ρ' n) (k : m ≤ n) : Ext ρ ρ' m := ⟨h.old, fun g e => (h.new g e).imp id (fun q => Nat.le_trans k q)⟩
theorem Ext.trans {ρ ρ' ρ'' : Nat → Nat} {n m : Nat} (h : Ext ρ ρ' n) (k : Ext ρ' ρ'' m) (hm : n ≤ m) : Ext ρ ρ'' n :=
  ⟨fun g e => by rw [k.old g (by rw [h.old g e]; exact e), h.old g e], fun g e => by
    rcases k.new g e with q | q
    · exact h.new g q
    · exact .inr (Nat.le_trans hm q)⟩

section
variable {ρ : Nat → Nat} {w w' : World} {b : Nat} {now : Int} {V : Nat → Value} {SL : Nat → List (Int × Int)}
/-- one slot was changed, in its block or in a new one, and is stored -/
theorem WhAt.put2 (h : WhAt ρ w b now V SL) (s : Nat) (hs : s < 64) {v : Value} {g' : Nat} {l : List (Int × Int)} (hb : But (fun g => (V s).ownBlock = some g) w w') (hR : RowL w' v l) (hv : v.ownBlock = some g') (hg : (V s).ownBlock = some g' ∨ w.heap.size ≤ g') (hlt : g' < w'.heap.size) (hl : l.length ≤ 64) :
    ∃ ρ', WhAt ρ' (w'.setCell ⟨b, 1 + s, none⟩ v) b now (upd V s v) (upd SL s l) ∧ Ext ρ ρ' w.heap.size := by
  rcases hg with hg | hg
  · exact ⟨ρ, h.put s hs hb hR (fun k hk => by rw [hv] at hk; rw [← hk]; exact hg) hl, Ext.refl _ _⟩
  have hbl := h.blt
  have old : ∀ g, ρ g ≠ 0 → upd ρ g' (100 + s) g = ρ g := fun g e => upd_other _ _ _ _ (fun q => by have := h.lt g e; omega)
  refine ⟨upd ρ g' (100 + s), ?_, old, fun g e => ?_⟩
  case refine_2 =>
    by_cases q : g = g'
    · exact .inr (by rw [q]; exact hg)
    · rw [upd_other _ _ _ _ q] at e; exact .inl e
  have nb : (V s).ownBlock ≠ some b := fun e => by have := h.role s hs b e; have := h.rb; omega
  have hb2 : But (Only b) w' (w'.setCell ⟨b, 1 + s, none⟩ v) := (But.refl (Only b) w').setCell (p := ⟨b, 1 + s, none⟩) (.inr rfl) v
  have cb : ∀ j, j ≠ 1 + s → (w'.setCell ⟨b, 1 + s, none⟩ v).cell? ⟨b, j, none⟩ = w.cell? ⟨b, j, none⟩ := fun j hj =>
    (World.cell?_setCell_other _ _ _ _ (by intro q; cases q; exact hj rfl)).trans (hb.cell (p := ⟨b, j, none⟩) h.blt nb)
  refine ⟨fun g e => ?_, (old b (by rw [h.rb]; omega)).trans h.rb, (cb 0 (by omega)).trans h.now, fun t ht => ?_, fun t ht => ?_, fun t ht => ?_, fun i => ?_, fun t ht => ?_⟩
  · by_cases q : g = g'
    · rw [q]; exact Nat.lt_of_lt_of_le hlt hb2.size
    · rw [upd_other _ _ _ _ q] at e
      exact Nat.lt_of_lt_of_le (h.lt g e) (Nat.le_trans hb.size hb2.size)
  · by_cases e : t = s
    · subst e; rw [upd_same]
      exact World.cell?_setCell_same' _ _ _ (by rw [hb.cell (p := ⟨b, 1 + t, none⟩) h.blt nb, h.cell t ht]; rfl)
    · rw [upd_other _ _ _ _ e]; exact (cb (1 + t) (by omega)).trans (h.cell t ht)
  · by_cases e : t = s
    · subst e; rw [upd_same, upd_same]
      exact hR.keep hb2 (fun k hk c => by have c : k = b := c; rw [c, hv] at hk; cases hk; omega)
    · rw [upd_other _ _ _ _ e, upd_other _ _ _ _ e]
      exact ((h.row t ht).keep hb (fun k hk c => by have h1 := h.role t ht k hk; have h2 := h.role s hs k c; omega)).keep hb2 (fun k hk c => by have c : k = b := c; rw [c] at hk; have h1 := h.role t ht b hk; have h2 := h.rb; omega)
  · by_cases e : t = s
    · subst e; rw [upd_same]
      intro k hk
      rw [hv] at hk; cases hk
      rw [upd_same]
    · rw [upd_other _ _ _ _ e]
      intro k hk
      have h1 := h.role t ht k hk
      rw [old k (by omega)]; exact h1
  · rw [World.frozen?_setCell]; exact (hb.frozen (p := ⟨b, i, none⟩) h.blt nb).trans (h.fz i)
  · by_cases e : t = s
    · subst e; rw [upd_same]; exact hl
    · rw [upd_other _ _ _ _ e]; exact h.len t ht

/-- what add leaves -/
def AddEnd (ρ : Nat → Nat) (w : World) (b : Nat) (now : Int) (SL : Nat → List (Int × Int)) (s : Nat) (p : Int × Int) (w' : World) : Prop :=
  ∃ ρ' V', WhAt ρ' w' b now V' (upd SL s (insAt (SL s) (plc (SL s) p.2) p)) ∧ Ext ρ ρ' w.heap.size ∧ But (fun g => ρ g ≠ 0) w w'
set_option maxRecDepth 100000 in
set_option maxHeartbeats 4000000 in
theorem add_any (h : WhAt ρ w b now V SL) (s : Nat) (hs : s < 64) (id tm : Int) (hl : (SL s).length < 64) : Calls Try.prog 24 #[.pointer (some ⟨b, 1 + s, none⟩), .agg #[.int .i64 id, .int .i64 tm]] w fun e w' => e = .returned (.tuple #[]) ∧ AddEnd ρ w b now SL s (id, tm) w' := by
  have b1 : Below w.heap.size w (w.alloc (.cells #[.int .i64 id, .int .i64 tm] 49)) := (Below.refl _ _).alloc (Nat.le_refl _) _
  have hc : (w.alloc (.cells #[.int .i64 id, .int .i64 tm] 49)).cell? ⟨w.heap.size, 1, none⟩ = some (.int .i64 tm) := by
    rw [cell_of_row _ w.heap.size 1 _ 49 (0, 0) (heap_alloc_new w _)]; rfl
  have hc0 : (w.alloc (.cells #[.int .i64 id, .int .i64 tm] 49)).cell? ⟨w.heap.size, 0, none⟩ = some (.int .i64 id) := by
    rw [cell_of_row _ w.heap.size 0 _ 49 (0, 0) (heap_alloc_new w _)]; rfl
  have H := hide h
  have h1 := h.later b1
  have cv := h1.cell s hs
  have X := hide (IndexFunc_add (s := w.heap.size) (h1.row s hs) (by omega) (fun q => decide (tm < q.2)) (fun W q hb => add1_any q.1 q.2 tm w.heap.size W ((hb.cell (p := ⟨w.heap.size, 1, none⟩) (World.block_lt_of_cell? _ _ hc)).trans hc)))
  obtain ⟨a, c, e, _⟩ := (h.row s hs).shape
  have HE := hide e
  have B1 := hide b1
  have HC := hide hc
  have HC0 := hide hc0
  rw [e] at cv X
  clear h b1 hc hc0 h1 e
  go_enter Try.func24, Try.ntmps24
  go_wp2_with fail
  refine X.out.mono ?_
  rintro _ w3 ⟨rfl, hb3⟩
  have B3 := hide (B1.out.trans (hb3.mono B1.out.size))
  have k0 := (hb3.cell (p := ⟨w.heap.size, 0, none⟩) (World.block_lt_of_cell? _ _ HC0.out)).trans HC0.out
  have k1 := (hb3.cell (p := ⟨w.heap.size, 1, none⟩) (World.block_lt_of_cell? _ _ HC.out)).trans HC.out
  have H3 := hide (H.out.later B3.out)
  have c3 := H3.out.cell s hs
  have fz := H3.out.fz (1 + s)
  have V3 := hide c3
  rw [HE.out] at c3
  clear hb3 X cv
  have hl3 := plc_le (SL s) tm
  have XI : Hid (∀ W : World, Below w3.heap.size w3 W → W.heap[w3.heap.size]? = some (.cells #[.int .i64 id, .int .i64 tm] 49 (0, 0)) → Calls Try.prog 33 #[.slice a (SL s).length c, .int .i64 (plc (SL s) tm : Int), .slice (some ⟨w3.heap.size, 0, none⟩) 1 1] W fun e w' => ∃ g' c', e = .returned (.slice (some ⟨g', 0, none⟩) ((SL s).length + 1) c') ∧ (w'.cell? ⟨b, 1 + s, none⟩).isSome = true ∧ w'.frozen? ⟨b, 1 + s, none⟩ = false ∧ AddEnd ρ w b now SL s (id, tm) (w'.setCell ⟨b, 1 + s, none⟩ (.slice (some ⟨g', 0, none⟩) ((SL s).length + 1) c'))) := by
    intro W hW hh
    have H4 := H3.out.later hW
    have hr := H4.row s hs
    refine (Insert_slot (p := (id, tm)) (by rw [← HE.out]; exact hr) (by omega) hl3 hh (fun e => by
      have := H3.out.role s hs w3.heap.size (by rw [HE.out]; exact e)
      have := H3.out.lt w3.heap.size (by omega)
      omega)).mono ?_
    rintro _ w' ⟨g', c', rfl, hR, hb, hg, hlt⟩
    rw [← HE.out] at hb hg
    have nb : (V s).ownBlock ≠ some b := fun e => by have := H4.role s hs b e; have := H4.rb; omega
    obtain ⟨ρ', hw', ho'⟩ := H4.put2 s hs hb hR rfl hg hlt (by rw [insAt_len _ _ _ hl3]; omega)
    refine ⟨g', c', rfl, by rw [hb.cell (p := ⟨b, 1 + s, none⟩) H4.blt nb, H4.cell s hs]; rfl, (hb.frozen (p := ⟨b, 1 + s, none⟩) H4.blt nb).trans (H4.fz _), ρ', _, hw', ho'.mono (Nat.le_trans B3.out.size hW.size), ?_⟩
    have p1 : But (fun g => ρ g ≠ 0) w W := But.of_below (B3.out.trans (hW.mono B3.out.size))
    have p2 : But (fun g => ρ g ≠ 0) W w' := hb.mono (fun x e => by have := H4.role s hs x e; omega)
    exact (p1.trans p2).setCell (p := ⟨b, 1 + s, none⟩) (.inr (by show ρ b ≠ 0; rw [H.out.rb]; omega)) _
  rcases idx_plc (SL s) tm with ⟨e1, e2⟩ | ⟨e1, e2⟩
  · rw [e1]
    generalize plc (SL s) tm = pp at *
    have zp : (0 : Int) ≤ (pp : Int) := by omega
    go_wp2_with fail
    have XI2 := hide (XI.out (w3.drew.alloc (.cells #[.int .i64 id, .int .i64 tm] 49)) ((show Below w3.heap.size w3 w3.drew from ⟨rfl, rfl, rfl, Nat.le_refl _, fun _ _ => rfl⟩).alloc (Nat.le_refl _) _) (heap_alloc_new w3.drew _))
    have hbl : b < w3.heap.size := H3.out.blt
    have hbn : ¬ b = w3.heap.size := by omega
    have hbn2 : ¬ w3.heap.size = b := by omega
    clear XI
    go_region_with (go_at_call 33; refine XI2.out.mono ?_; rintro _ w4 ⟨g', c', rfl, s1, s2, s3⟩; obtain ⟨uu, hu⟩ := Option.isSome_iff_exists.1 s1; have S3 := hide s3; clear s1 s3)
    all_goals
      go_wp2
      go_end0
      exact ⟨rfl, S3.out⟩
  · rw [e1]
    rw [e2] at XI
    have zl : ((SL s).length : Int) < 64 := by omega
    go_wp2_with fail
    have XI2 := hide (XI.out (w3.drew.alloc (.cells #[.int .i64 id, .int .i64 tm] 49)) ((show Below w3.heap.size w3 w3.drew from ⟨rfl, rfl, rfl, Nat.le_refl _, fun _ _ => rfl⟩).alloc (Nat.le_refl _) _) (heap_alloc_new w3.drew _))
    have hbl : b < w3.heap.size := H3.out.blt
    have hbn : ¬ b = w3.heap.size := by omega
    have hbn2 : ¬ w3.heap.size = b := by omega
    clear XI
    go_region_with (go_at_call 33; refine XI2.out.mono ?_; rintro _ w4 ⟨g', c', rfl, s1, s2, s3⟩; obtain ⟨uu, hu⟩ := Option.isSome_iff_exists.1 s1; have S3 := hide s3; clear s1 s3)
    all_goals
      go_wp2
      go_end0
      exact ⟨rfl, S3.out⟩
end
end Go.Proofs.Ytglbobobifejmaa
