
/-
  How a segment is opened, by the second form's bound.
-/
import Derived.Test.YtifoiodehejenabRows
import Derived.Test.YtifoiodehejenabDRow
namespace Go.Proofs.Ytifoiodehejenab
open Go.ChangeShapes Go.WideShapes Go.ChangeAt Go.RowKit Go.Deep

theorem bulk_one {H : Type} (d : DataW H) : 1 ≤ Rows.uptoBulk d := by
  cases d with
  | lit l => cases l <;> simp [Rows.uptoBulk]
  | nil => simp [Rows.uptoBulk]
  | ptr d => simp [Rows.uptoBulk]
  | slice elems spare => simp [Rows.uptoBulk]
  | agg parts => simp [Rows.uptoBulk]
  | iface t d => simp [Rows.uptoBulk]
  | map entries => simp [Rows.uptoBulk]
  | held h => simp [Rows.uptoBulk]
theorem bulk_all {H : Type} (l : List (DataW H)) : l.length ≤ Rows.uptoBulkAll l := by
  induction l with
  | nil => simp [Rows.uptoBulkAll]
  | cons x r ih => have := bulk_one x; simp only [Rows.uptoBulkAll, List.length_cons]; omega
theorem bulk_mem {H : Type} {l : List (DataW H)} {d : DataW H} (h : d ∈ l) : Rows.uptoBulk d ≤ Rows.uptoBulkAll l := by
  induction l with
  | nil => cases h
  | cons x r ih =>
    simp only [Rows.uptoBulkAll]
    rcases List.mem_cons.1 h with rfl | h
    · omega
    · have := ih h; omega
theorem bulk_le {H : Type} {d : DataW H} {bs : List Int} (h : (d = .nil ∧ bs = []) ∨ ∃ e s, d = .slice e s ∧ e.length = bs.length) : bs.length ≤ Rows.uptoBulk d := by
  rcases h with ⟨rfl, rfl⟩ | ⟨e, s, rfl, hl⟩
  · simp
  · have := bulk_all e
    simp only [Rows.uptoBulk]
    omega
theorem bulk_of {H : Type} {l : List (DataW H)} (hk : Rows.uptoSmall H l = true) : Rows.uptoBulkAll l ≤ 1048576 := of_decide_eq_true hk
section
variable {H : Type} {enc : TypeId × Value → H} {W : World} {fuel : Nat} {x : DataW H × List MemPlace}
theorem open_scU {cs : List Value} (hf : DataW.trod enc Try.prog W 0 (fun _ => true) true fuel 26 cs = some x) : ∃ (s : Sg) (gv dv : Value), cs = s.cells gv dv ∧ CG (fun g => g < W.heap.size) W gv s.got ∧ IsB W.heap.size W dv s.dat ∧ s.Ok ∧ s.dat.length ≤ Rows.uptoBulk x.1 := by
  obtain ⟨xs, n, _, hx, hl0, hl, hi⟩ := DataW.trod_struct Try.underlying26 hf
  rw [cells_sg] at hl0
  replace hl : xs.length = 10 := hl
  have key : ∀ i (h : i < 10), xs[i]? = some (xs[i]'(by omega)) := fun i h => List.getElem?_eq_getElem (by omega)
  have g0 : DataW.trod enc Try.prog W 0 (fun _ => true) true n 3 ((cs.drop 0).take (Try.prog.cellsOf 3)) = xs[0]? := hi 0 _ rfl
  rw [cells_i, key 0 (by omega)] at g0
  have g1 : DataW.trod enc Try.prog W 0 (fun _ => true) true n 3 ((cs.drop 1).take (Try.prog.cellsOf 3)) = xs[1]? := hi 1 _ rfl
  rw [cells_i, key 1 (by omega)] at g1
  have g2 : DataW.trod enc Try.prog W 0 (fun _ => true) true n 22 ((cs.drop 2).take (Try.prog.cellsOf 22)) = xs[2]? := hi 2 _ rfl
  rw [cells_u32, key 2 (by omega)] at g2
  have g3 : DataW.trod enc Try.prog W 0 (fun _ => true) true n 22 ((cs.drop 3).take (Try.prog.cellsOf 22)) = xs[3]? := hi 3 _ rfl
  rw [cells_u32, key 3 (by omega)] at g3
  have g4 : DataW.trod enc Try.prog W 0 (fun _ => true) true n 3 ((cs.drop 4).take (Try.prog.cellsOf 3)) = xs[4]? := hi 4 _ rfl
  rw [cells_i, key 4 (by omega)] at g4
  have g5 : DataW.trod enc Try.prog W 0 (fun _ => true) true n 3 ((cs.drop 5).take (Try.prog.cellsOf 3)) = xs[5]? := hi 5 _ rfl
  rw [cells_i, key 5 (by omega)] at g5
  have g6 : DataW.trod enc Try.prog W 0 (fun _ => true) true n 3 ((cs.drop 6).take (Try.prog.cellsOf 3)) = xs[6]? := hi 6 _ rfl
  rw [cells_i, key 6 (by omega)] at g6
  have g7 : DataW.trod enc Try.prog W 0 (fun _ => true) true n 4 ((cs.drop 7).take (Try.prog.cellsOf 4)) = xs[7]? := hi 7 _ rfl
  rw [cells_b, key 7 (by omega)] at g7
  have g8 : DataW.trod enc Try.prog W 0 (fun _ => true) true n 23 ((cs.drop 8).take (Try.prog.cellsOf 23)) = xs[8]? := hi 8 _ rfl
  rw [cells_sps, key 8 (by omega)] at g8
  have g9 : DataW.trod enc Try.prog W 0 (fun _ => true) true n 24 ((cs.drop 9).take (Try.prog.cellsOf 24)) = xs[9]? := hi 9 _ rfl
  rw [cells_s, key 9 (by omega)] at g9
  obtain ⟨v0, v1, v2, v3, v4, v5, v6, v7, v8, v9, rfl⟩ := list10 hl0
  obtain ⟨a0, e0, c0⟩ := int_cellw (v := v0) g0
  obtain ⟨a1, e1, c1⟩ := int_cellw (v := v1) g1
  obtain ⟨a2, e2, c2⟩ := u32_cell (v := v2) g2
  obtain ⟨a3, e3, c3⟩ := u32_cell (v := v3) g3
  obtain ⟨a4, e4, c4⟩ := int_cellw (v := v4) g4
  obtain ⟨a5, e5, c5⟩ := int_cellw (v := v5) g5
  obtain ⟨a6, e6, c6⟩ := int_cellw (v := v6) g6
  obtain ⟨a7, e7⟩ := bool_cell (v := v7) g7
  obtain ⟨L, hL, okL, _⟩ := open_sp1 (v := v8) g8
  obtain ⟨bs, hb, hB, hw⟩ := open_b1 (v := v9) g9
  subst e0 e1 e2 e3 e4 e5 e6 e7
  have part : ∀ i (h : i < 10), Rows.uptoBulk (xs[i]'(by omega)).1 ≤ Rows.uptoBulk x.1 := fun i h => by
    rw [hx]
    have := bulk_mem (l := xs.map (·.1)) (d := (xs[i]'(by omega)).1) (List.mem_map.2 ⟨_, List.getElem_mem (by omega), rfl⟩)
    simp only [Rows.uptoBulk]
    omega
  exact ⟨⟨a0, a1, a2, a3, a4, a5, a6, a7, L, bs⟩, v8, v9, rfl, hL, hb, ⟨c0, c1, c2, c3, c4, c5, c6, okL, hB⟩, Nat.le_trans (bulk_le hw) (part 9 (by omega))⟩
end
theorem open_sgU {H : Type} {enc : TypeId × Value → H} {W : World} {v : Value} {d : DataW H} {p : List MemPlace} (h : DataW.Trod enc Try.prog W 0 (fun _ => true) true 26 v d p) (hk : Rows.uptoBulk d ≤ 1048576) : ∃ (s : Sg) (gv dv : Value), v = .agg (s.cells gv dv).toArray ∧ s.Ok ∧ (∃ ga gn gc, gv = .slice ga gn gc) ∧ IsB W.heap.size W dv s.dat ∧ s.dat.length ≤ 1048576 := by
  obtain ⟨fuel, hf⟩ := h
  obtain ⟨s, gv, dv, e, hg, hb, ok, h1⟩ := open_scU hf
  obtain ⟨cs, rfl, hc⟩ := agg_of (v := v) 10 (by omega) (by rw [e]; rfl)
  have e2 : cs.toList = s.cells gv dv := e
  obtain ⟨ga, gc, eg⟩ := hg.shape
  exact ⟨s, gv, dv, by rw [← e2, Array.toArray_toList], ok, ⟨ga, _, gc, eg⟩, hb, Nat.le_trans h1 hk⟩
end Go.Proofs.Ytifoiodehejenab
