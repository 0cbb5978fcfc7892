
/-
  How a slice of datagrams and a slice of bools are opened, by the second form's bound.
-/
import Derived.Test.YthjeaebpboilpaaRows
import Derived.Test.YthjeaebpboilpaaU24
import Derived.Test.YthjeaebpboilpaaURow
namespace Go.Proofs.Ythjeaebpboilpaa
open Go.ChangeShapes Go.WideShapes Go.ChangeAt Go.RowKit Go.Deep

instance : Inhabited Dg := ⟨zD⟩
theorem cells_dg : Try.prog.cellsOf 57 = 7 := by kernel_rfl
theorem cells_is : Try.prog.cellsOf 55 = 1 := by kernel_rfl
theorem bulk_one {H : Type} (d : DataW H) : 1 ≤ Rows.uptoBulk d := by
  cases d with
  | lit l => cases l <;> simp [Rows.uptoBulk]
  | nil => simp [Rows.uptoBulk]
  | ptr d => simp [Rows.uptoBulk]
  | slice elems spare => simp [Rows.uptoBulk]
  | agg parts => simp [Rows.uptoBulk]
  | iface t d => simp [Rows.uptoBulk]
  | map entries => simp [Rows.uptoBulk]
  | held h => simp [Rows.uptoBulk]
theorem bulk_all {H : Type} (l : List (DataW H)) : l.length ≤ Rows.uptoBulkAll l := by
  induction l with
  | nil => simp [Rows.uptoBulkAll]
  | cons x r ih => have := bulk_one x; simp only [Rows.uptoBulkAll, List.length_cons]; omega
theorem bulk_mem {H : Type} {l : List (DataW H)} {d : DataW H} (h : d ∈ l) : Rows.uptoBulk d ≤ Rows.uptoBulkAll l := by
  induction l with
  | nil => cases h
  | cons x r ih =>
    simp only [Rows.uptoBulkAll]
    rcases List.mem_cons.1 h with rfl | h
    · omega
    · have := ih h; omega
theorem bulk_le {H : Type} {d : DataW H} {bs : List Int} (h : (d = .nil ∧ bs = []) ∨ ∃ e s, d = .slice e s ∧ e.length = bs.length) : bs.length ≤ Rows.uptoBulk d := by
  rcases h with ⟨rfl, rfl⟩ | ⟨e, s, rfl, hl⟩
  · simp
  · have := bulk_all e
    simp only [Rows.uptoBulk]
    omega
theorem bulk_of {H : Type} {l : List (DataW H)} (hk : Rows.uptoSmall H l = true) : Rows.uptoBulkAll l ≤ 1048576 := of_decide_eq_true hk
section
variable {H : Type} {enc : TypeId × Value → H} {W : World} {sp : Nat → Bool} {held : Bool} {fuel : Nat} {x : DataW H × List MemPlace}
/-- a slice of numbers that came in, by its one cell -/
theorem open_n1 {v : Value} (hf : DataW.trod enc Try.prog W 0 sp held fuel 55 [v] = some x) :
    ∃ ns : List Int, CI (fun g => g < W.heap.size) W v ns ∧ ((x.1 = .nil ∧ ns = []) ∨ ∃ e s, x.1 = .slice e s ∧ e.length = ns.length) := by
  rcases open_ints Try.underlying55 Try.underlying3 cells_i hf with ⟨hcs, hx⟩ | ⟨a, len, cap, zs, hcs, _, hl, hm, hz, hx, hcell, hwz⟩
  · simp only [List.cons.injEq, and_true] at hcs
    subst hcs
    exact ⟨[], Cn.nil _ _ _, .inl ⟨by rw [hx], rfl⟩⟩
  · simp only [List.cons.injEq, and_true] at hcs
    subst hcs
    have hzl : len ≤ zs.length := by rw [hz]; split <;> omega
    have hlz : (zs.take len).length = len := by simp; omega
    refine ⟨zs.take len, ⟨_, _, by rw [hlz], by omega, (fun e => by cases e), fun h0 => ?_⟩, .inr ⟨_, _, by rw [hx], by simp [lits]⟩⟩
    obtain ⟨b, off, rfl, hc⟩ := ints_at hcell (by omega)
    have hlt := World.block_lt_of_cell? W _ (hc 0 (by omega))
    refine ⟨b, off, rfl, hlt, hlt, fun k y hy => ?_⟩
    have hk : k < len := by have := (List.getElem?_eq_some_iff.1 hy).1; omega
    rw [hc k (by omega)]
    rw [List.getElem?_take, if_pos hk] at hy
    simp [List.getD, hy]
theorem list7 {cs : List Value} (h : cs.length = 7) : ∃ v0 v1 v2 v3 v4 v5 v6, cs = [v0, v1, v2, v3, v4, v5, v6] := by
  match cs, h with
  | [v0, v1, v2, v3, v4, v5, v6], _ => exact ⟨v0, v1, v2, v3, v4, v5, v6, rfl⟩
theorem open_dg {cs : List Value} (hf : DataW.trod enc Try.prog W 0 sp held fuel 57 cs = some x) : ∃ d : Dg, cs = d.cells ∧ CB (fun g => g < W.heap.size) W d.dv d.D ∧ CI (fun g => g < W.heap.size) W d.bv d.B ∧ d.D.length ≤ Rows.uptoBulk x.1 ∧ d.B.length ≤ Rows.uptoBulk x.1 := by
  obtain ⟨xs, n, _, hx, hl0, hl, hi⟩ := DataW.trod_struct Try.underlying57 hf
  rw [cells_dg] at hl0
  replace hl : xs.length = 4 := hl
  have key : ∀ i (h : i < 4), xs[i]? = some (xs[i]'(by omega)) := fun i h => List.getElem?_eq_getElem (by omega)
  have g0 : DataW.trod enc Try.prog W 0 sp held n 23 ((cs.drop 0).take (Try.prog.cellsOf 23)) = xs[0]? := hi 0 _ rfl
  rw [cells_4, key 0 (by omega)] at g0
  have g1 : DataW.trod enc Try.prog W 0 sp held n 3 ((cs.drop 4).take (Try.prog.cellsOf 3)) = xs[1]? := hi 1 _ rfl
  rw [cells_i, key 1 (by omega)] at g1
  have g2 : DataW.trod enc Try.prog W 0 sp held n 24 ((cs.drop 5).take (Try.prog.cellsOf 24)) = xs[2]? := hi 2 _ rfl
  rw [cells_s, key 2 (by omega)] at g2
  have g3 : DataW.trod enc Try.prog W 0 sp held n 55 ((cs.drop 6).take (Try.prog.cellsOf 55)) = xs[3]? := hi 3 _ rfl
  rw [cells_is, key 3 (by omega)] at g3
  obtain ⟨v0, v1, v2, v3, v4, v5, v6, rfl⟩ := list7 hl0
  obtain ⟨si, e0, _⟩ := open_four g0
  obtain ⟨a1, e1⟩ := int_cell (v := v4) g1
  obtain ⟨bs, hb, _, hw⟩ := open_b1 (v := v5) g2
  obtain ⟨ns, hn, hw2⟩ := open_n1 (v := v6) g3
  simp [I4.vals] at e0
  obtain ⟨rfl, rfl, rfl, rfl⟩ := e0
  subst e1
  have part : ∀ i (h : i < 4), Rows.uptoBulk (xs[i]'(by omega)).1 ≤ Rows.uptoBulk x.1 := fun i h => by
    rw [hx]
    have := bulk_mem (l := xs.map (·.1)) (d := (xs[i]'(by omega)).1) (List.mem_map.2 ⟨_, List.getElem_mem (by omega), rfl⟩)
    simp only [Rows.uptoBulk]
    omega
  exact ⟨⟨si, a1, v5, v6, bs, ns⟩, rfl, hb.cn (Nat.le_refl _), hn, Nat.le_trans (bulk_le hw) (part 2 (by omega)), Nat.le_trans (bulk_le hw2) (part 3 (by omega))⟩
end
theorem none_of {W : World} {a : Addr} {c : Value} (c0 : W.cell? (a.add 0) = some c) : ∃ g off, a = ⟨g, off, none⟩ ∧ g < W.heap.size := by
  obtain ⟨gb, off, sp⟩ := a
  have hsp : sp = none := by
    cases sp with
    | none => rfl
    | some q =>
      exfalso
      unfold World.cell? at c0
      split at c0
      · simp [Addr.add] at c0
      · cases c0
  subst hsp
  have := World.block_lt_of_cell? W _ c0
  exact ⟨gb, off, rfl, by simpa [Addr.add] using this⟩
set_option maxRecDepth 100000 in
/-- a slice of datagrams that came in -/
theorem open_ds {H : Type} {enc : TypeId × Value → H} {W : World} {base : Nat} {v : Value} {d : DataW H} {p : List MemPlace} (hok : Value.okWide Try.prog W .any base 51 v)
    (h : DataW.Trod enc Try.prog W 0 (fun _ => true) true 51 v d p) (hk : Rows.uptoBulk d ≤ 1048576) : ∃ l : List Dg, IsDs W.heap.size W v l ∧ l.length ≤ 1048576 := by
  obtain ⟨a0, len, cap, rfl⟩ := okWide_slice Try.underlying51 hok
  obtain ⟨fuel, hf⟩ := h
  simp only [Value.cells] at hf
  rcases open_slice Try.underlying51 hf with ⟨hcs, hx⟩ | ⟨a, len', cap', m, n, D, Pl, hcs, _, hl, hm, hmm, hx, hel⟩
  · simp at hcs
    obtain ⟨rfl, rfl, rfl⟩ := hcs
    exact ⟨[], ⟨none, 0, rfl, (fun h => by simp at h), (fun _ h => by cases h)⟩, by simp⟩
  · simp at hcs
    obtain ⟨rfl, rfl, rfl⟩ := hcs
    simp only [if_true] at hmm
    subst hmm
    simp only [Prod.mk.injEq] at hx
    obtain ⟨rfl, _⟩ := hx
    simp only [Rows.uptoBulk] at hk
    have hlen : len ≤ 1048576 := by
      have := bulk_all ((List.range len).map D)
      simp at this
      omega
    have each : ∀ i, i < len → ∃ o : Dg, (∀ (j : Nat) (v : Value), o.cells[j]? = some v → W.cell? (a.add (i * 7 + j)) = some v) ∧ o.Ok (fun g => g < W.heap.size) W := by
      intro i hi
      obtain ⟨cs', h1, h2⟩ := hel i (by omega)
      rw [cells_dg] at h1
      obtain ⟨_, hlen5, hcell⟩ := World.cells?_some h1
      obtain ⟨o, rfl, o1, o2, o3, o4⟩ := open_dg h2
      have hb := bulk_mem (l := (List.range len).map D) (d := D i) (List.mem_map.2 ⟨i, List.mem_range.2 hi, rfl⟩)
      refine ⟨o, fun j v hv => ?_, o1, o2, by simp only at o3; omega, by simp only at o4; omega⟩
      have hj : j < 7 := (List.getElem?_eq_some_iff.1 hv).1
      have := hcell j (by omega)
      rw [add_add] at this
      rw [this]
      exact hv
    obtain ⟨f, hf⟩ := choose_lt each
    refine ⟨(List.range len).map f, ⟨some a, m, by simp, fun h0 => ?_, fun o ho => ?_⟩, by simpa using hlen⟩
    · have hpos : 0 < len := by simpa using h0
      obtain ⟨g, off, rfl, hlt⟩ := none_of ((hf 0 hpos).1 0 _ rfl)
      refine ⟨g, off, rfl, hlt, fun i o hi => ?_⟩
      have hil : i < len := by have := (List.getElem?_eq_some_iff.1 hi).1; simpa using this
      have ho : f i = o := by simpa [hil] using hi
      subst ho
      intro j v hv
      have := (hf i hil).1 j v hv
      rw [Addr.add_lit] at this
      rw [Nat.add_assoc]
      exact this
    · obtain ⟨i, hi, rfl⟩ := List.mem_map.1 ho
      exact (hf i (List.mem_range.1 hi)).2
set_option maxRecDepth 100000 in
/-- a slice of bools that came in -/
theorem open_bl {H : Type} {enc : TypeId × Value → H} {W : World} {base : Nat} {v : Value} {d : DataW H} {p : List MemPlace} (hok : Value.okWide Try.prog W .any base 52 v)
    (h : DataW.Trod enc Try.prog W 0 (fun _ => true) true 52 v d p) (hk : Rows.uptoBulk d ≤ 1048576) : ∃ l : List Bool, IsLs W.heap.size W v l ∧ l.length ≤ 1048576 := by
  obtain ⟨a0, len, cap, rfl⟩ := okWide_slice Try.underlying52 hok
  obtain ⟨fuel, hf⟩ := h
  simp only [Value.cells] at hf
  rcases open_slice Try.underlying52 hf with ⟨hcs, hx⟩ | ⟨a, len', cap', m, n, D, Pl, hcs, _, hl, hm, hmm, hx, hel⟩
  · simp at hcs
    obtain ⟨rfl, rfl, rfl⟩ := hcs
    exact ⟨[], ⟨none, 0, rfl, (fun h => by simp at h)⟩, by simp⟩
  · simp at hcs
    obtain ⟨rfl, rfl, rfl⟩ := hcs
    simp only [if_true] at hmm
    subst hmm
    simp only [Prod.mk.injEq] at hx
    obtain ⟨rfl, _⟩ := hx
    simp only [Rows.uptoBulk] at hk
    have hlen : len ≤ 1048576 := by
      have := bulk_all ((List.range len).map D)
      simp at this
      omega
    have each : ∀ i, i < len → ∃ o : Bool, W.cell? (a.add i) = some (.bool o) := by
      intro i hi
      obtain ⟨cs', h1, h2⟩ := hel i (by omega)
      rw [cells_b] at h1
      obtain ⟨_, hlen5, hcell⟩ := World.cells?_some h1
      match cs', hlen5 with
      | [v0], _ =>
        obtain ⟨o, rfl⟩ := bool_cell h2
        have := hcell 0 (by omega)
        rw [add_add, Nat.mul_one, Nat.add_zero] at this
        exact ⟨o, this⟩
    obtain ⟨f, hf⟩ := choose_lt each
    refine ⟨(List.range len).map f, ⟨some a, m, by simp, fun h0 => ?_⟩, by simpa using hlen⟩
    have hpos : 0 < len := by simpa using h0
    obtain ⟨g, off, rfl, hlt⟩ := none_of (hf 0 hpos)
    refine ⟨g, off, rfl, hlt, fun i o hi => ?_⟩
    have hil : i < len := by have := (List.getElem?_eq_some_iff.1 hi).1; simpa using this
    have ho : f i = o := by simpa [hil] using hi
    subst ho
    have := hf i hil
    rw [Addr.add_lit] at this
    exact this
end Go.Proofs.Ythjeaebpboilpaa
