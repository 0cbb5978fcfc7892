
/-
  How the arguments are opened: a connection, a segment, a number of 32 bits.
-/
import Derived.Test.YtgdcdgofahhfdaaURow
import Derived.Test.YtgdcdgofahhfdaaO11
namespace Go.Proofs.Ytgdcdgofahhfdaa
open Go.ChangeShapes Go.WideShapes Go.ChangeAt Go.RowKit Go.Deep

instance : Inhabited Sp := ⟨⟨0, 0⟩⟩
theorem u32_wf {n : Int} (h : (Lit.int .u32 n).wf = true) : 0 ≤ n ∧ n ≤ 4294967295 := by
  simpa [Lit.wf, IntKind.min, IntKind.max, IntKind.signed, IntKind.bits] using h
theorem cells_sg : Try.prog.cellsOf 28 = 10 := by kernel_rfl
theorem cells_sp : Try.prog.cellsOf 82 = 2 := by kernel_rfl
theorem cells_sps : Try.prog.cellsOf 25 = 1 := by kernel_rfl
theorem cells_u32 : Try.prog.cellsOf 22 = 1 := by kernel_rfl
theorem bytes_sp : Try.prog.bytesOf 82 = 8 := by kernel_rfl
theorem none_of {W : World} {a : Addr} {c : Value} (c0 : W.cell? (a.add 0) = some c) : ∃ g off, a = ⟨g, off, none⟩ ∧ g < W.heap.size := by
  obtain ⟨gb, off, sp⟩ := a
  have hsp : sp = none := by
    cases sp with
    | none => rfl
    | some q =>
      exfalso
      unfold World.cell? at c0
      split at c0
      · simp [Addr.add] at c0
      · cases c0
  subst hsp
  have := World.block_lt_of_cell? W _ c0
  exact ⟨gb, off, rfl, by simpa [Addr.add] using this⟩
section
variable {H : Type} {enc : TypeId × Value → H} {W : World} {fuel : Nat} {x : DataW H × List MemPlace}
theorem int_cellw {v : Value} (hf : DataW.trod enc Try.prog W 0 (fun _ => true) true fuel 3 [v] = some x) : ∃ a, v = .int .i64 a ∧ i64In a := by
  obtain ⟨a, e, _, hw⟩ := DataW.trod_int Try.underlying3 hf
  simp only [List.cons.injEq, and_true] at e
  exact ⟨a, e, int_wf hw⟩
theorem u32_cell {v : Value} (hf : DataW.trod enc Try.prog W 0 (fun _ => true) true fuel 22 [v] = some x) : ∃ a, v = .int .u32 a ∧ 0 ≤ a ∧ a < 4294967296 := by
  obtain ⟨a, e, _, hw⟩ := DataW.trod_int Try.underlying22 hf
  simp only [List.cons.injEq, and_true] at e
  have := u32_wf hw
  exact ⟨a, e, this.1, by omega⟩
theorem list2 {cs : List Value} (h : cs.length = 2) : ∃ v0 v1, cs = [v0, v1] := by
  match cs, h with
  | [v0, v1], _ => exact ⟨v0, v1, rfl⟩
theorem list10 {cs : List Value} (h : cs.length = 10) : ∃ v0 v1 v2 v3 v4 v5 v6 v7 v8 v9, cs = [v0, v1, v2, v3, v4, v5, v6, v7, v8, v9] := by
  match cs, h with
  | [v0, v1, v2, v3, v4, v5, v6, v7, v8, v9], _ => exact ⟨v0, v1, v2, v3, v4, v5, v6, v7, v8, v9, rfl⟩
theorem open_sp {cs : List Value} (hf : DataW.trod enc Try.prog W 0 (fun _ => true) true fuel 82 cs = some x) : ∃ o : Sp, cs = o.cells ∧ 0 ≤ o.f ∧ o.f < 4294967296 ∧ 0 ≤ o.t ∧ o.t < 4294967296 := by
  obtain ⟨xs, n, _, hx, hl0, hl, hi⟩ := DataW.trod_struct Try.underlying82 hf
  rw [cells_sp] at hl0
  replace hl : xs.length = 2 := hl
  have key : ∀ i (h : i < 2), xs[i]? = some (xs[i]'(by omega)) := fun i h => List.getElem?_eq_getElem (by omega)
  have g0 : DataW.trod enc Try.prog W 0 (fun _ => true) true n 22 ((cs.drop 0).take (Try.prog.cellsOf 22)) = xs[0]? := hi 0 _ rfl
  rw [cells_u32, key 0 (by omega)] at g0
  have g1 : DataW.trod enc Try.prog W 0 (fun _ => true) true n 22 ((cs.drop 1).take (Try.prog.cellsOf 22)) = xs[1]? := hi 1 _ rfl
  rw [cells_u32, key 1 (by omega)] at g1
  obtain ⟨v0, v1, rfl⟩ := list2 hl0
  obtain ⟨a0, rfl, b0⟩ := u32_cell (v := v0) g0
  obtain ⟨a1, rfl, b1⟩ := u32_cell (v := v1) g1
  exact ⟨⟨a0, a1⟩, rfl, b0.1, b0.2, b1.1, b1.2⟩
/-- a slice of spans that came in, by its one cell -/
theorem open_sp1 {v : Value} (hf : DataW.trod enc Try.prog W 0 (fun _ => true) true fuel 25 [v] = some x) :
    ∃ L : List Sp, CG (fun g => g < W.heap.size) W v L ∧ (∀ o ∈ L, 0 ≤ o.f ∧ o.f < 4294967296 ∧ 0 ≤ o.t ∧ o.t < 4294967296) ∧ ((x.1 = .nil ∧ L = []) ∨ ∃ e s, x.1 = .slice e s ∧ e.length = L.length) := by
  rcases open_slice Try.underlying25 hf with ⟨hcs, hx⟩ | ⟨a, len, cap, m, n, D, Pl, hcs, _, hl, hm, hmm, hx, hel⟩
  · simp only [List.cons.injEq, and_true] at hcs
    subst hcs
    exact ⟨[], CG.nil _ _, (fun _ h => by cases h), .inl ⟨by rw [hx], rfl⟩⟩
  · simp only [List.cons.injEq, and_true] at hcs
    subst hcs
    simp only [if_true] at hmm
    subst hmm
    have each : ∀ i, i < len → ∃ o : Sp, (∀ (j : Nat) (v : Value), o.cells[j]? = some v → W.cell? (a.add (i * 2 + j)) = some v) ∧ 0 ≤ o.f ∧ o.f < 4294967296 ∧ 0 ≤ o.t ∧ o.t < 4294967296 := by
      intro i hi
      obtain ⟨cs', h1, h2⟩ := hel i (by omega)
      rw [cells_sp] at h1
      obtain ⟨_, hlen5, hcell⟩ := World.cells?_some h1
      obtain ⟨o, rfl, hb⟩ := open_sp h2
      refine ⟨o, fun j v hv => ?_, hb⟩
      have hj : j < 2 := (List.getElem?_eq_some_iff.1 hv).1
      have := hcell j (by omega)
      rw [add_add] at this
      rw [this]
      exact hv
    obtain ⟨f, hf⟩ := choose_lt each
    refine ⟨(List.range len).map f, ⟨some a, m, by simp, by simpa using hl, (fun e => by cases e), fun h0 => ?_⟩, fun o ho => ?_, .inr ⟨_, _, by rw [hx], by simp⟩⟩
    · have hpos : 0 < len := by simpa using h0
      obtain ⟨g, off, rfl, hlt⟩ := none_of ((hf 0 hpos).1 0 _ rfl)
      refine ⟨g, off, rfl, hlt, hlt, fun i o hi => ?_⟩
      have hil : i < len := by have := (List.getElem?_eq_some_iff.1 hi).1; simpa using this
      have ho : f i = o := by simpa [hil] using hi
      subst ho
      intro j v hv
      have := (hf i hil).1 j v hv
      rw [Addr.add_lit] at this
      rw [Nat.add_assoc]
      exact this
    · obtain ⟨i, hi, rfl⟩ := List.mem_map.1 ho
      exact (hf i (List.mem_range.1 hi)).2
theorem open_sc {cs : List Value} (hf : DataW.trod enc Try.prog W 0 (fun _ => true) true fuel 28 cs = some x) : ∃ (s : Sg) (gv dv : Value), cs = s.cells gv dv ∧ CG (fun g => g < W.heap.size) W gv s.got ∧ IsB W.heap.size W dv s.dat ∧ s.Ok ∧ (s.dat = [] ∨ ∃ k ∈ x.1.weights Try.prog 28, s.dat.length ≤ k) ∧ (s.got = [] ∨ ∃ k ∈ x.1.weights Try.prog 28, 8 * s.got.length ≤ k) := by
  obtain ⟨xs, n, _, hx, hl0, hl, hi⟩ := DataW.trod_struct Try.underlying28 hf
  rw [cells_sg] at hl0
  replace hl : xs.length = 10 := hl
  have key : ∀ i (h : i < 10), xs[i]? = some (xs[i]'(by omega)) := fun i h => List.getElem?_eq_getElem (by omega)
  have g0 : DataW.trod enc Try.prog W 0 (fun _ => true) true n 3 ((cs.drop 0).take (Try.prog.cellsOf 3)) = xs[0]? := hi 0 _ rfl
  rw [cells_i, key 0 (by omega)] at g0
  have g1 : DataW.trod enc Try.prog W 0 (fun _ => true) true n 3 ((cs.drop 1).take (Try.prog.cellsOf 3)) = xs[1]? := hi 1 _ rfl
  rw [cells_i, key 1 (by omega)] at g1
  have g2 : DataW.trod enc Try.prog W 0 (fun _ => true) true n 22 ((cs.drop 2).take (Try.prog.cellsOf 22)) = xs[2]? := hi 2 _ rfl
  rw [cells_u32, key 2 (by omega)] at g2
  have g3 : DataW.trod enc Try.prog W 0 (fun _ => true) true n 22 ((cs.drop 3).take (Try.prog.cellsOf 22)) = xs[3]? := hi 3 _ rfl
  rw [cells_u32, key 3 (by omega)] at g3
  have g4 : DataW.trod enc Try.prog W 0 (fun _ => true) true n 3 ((cs.drop 4).take (Try.prog.cellsOf 3)) = xs[4]? := hi 4 _ rfl
  rw [cells_i, key 4 (by omega)] at g4
  have g5 : DataW.trod enc Try.prog W 0 (fun _ => true) true n 3 ((cs.drop 5).take (Try.prog.cellsOf 3)) = xs[5]? := hi 5 _ rfl
  rw [cells_i, key 5 (by omega)] at g5
  have g6 : DataW.trod enc Try.prog W 0 (fun _ => true) true n 3 ((cs.drop 6).take (Try.prog.cellsOf 3)) = xs[6]? := hi 6 _ rfl
  rw [cells_i, key 6 (by omega)] at g6
  have g7 : DataW.trod enc Try.prog W 0 (fun _ => true) true n 4 ((cs.drop 7).take (Try.prog.cellsOf 4)) = xs[7]? := hi 7 _ rfl
  rw [cells_b, key 7 (by omega)] at g7
  have g8 : DataW.trod enc Try.prog W 0 (fun _ => true) true n 25 ((cs.drop 8).take (Try.prog.cellsOf 25)) = xs[8]? := hi 8 _ rfl
  rw [cells_sps, key 8 (by omega)] at g8
  have g9 : DataW.trod enc Try.prog W 0 (fun _ => true) true n 26 ((cs.drop 9).take (Try.prog.cellsOf 26)) = xs[9]? := hi 9 _ rfl
  rw [cells_s, key 9 (by omega)] at g9
  obtain ⟨v0, v1, v2, v3, v4, v5, v6, v7, v8, v9, rfl⟩ := list10 hl0
  obtain ⟨a0, e0, c0⟩ := int_cellw (v := v0) g0
  obtain ⟨a1, e1, c1⟩ := int_cellw (v := v1) g1
  obtain ⟨a2, e2, c2⟩ := u32_cell (v := v2) g2
  obtain ⟨a3, e3, c3⟩ := u32_cell (v := v3) g3
  obtain ⟨a4, e4, c4⟩ := int_cellw (v := v4) g4
  obtain ⟨a5, e5, c5⟩ := int_cellw (v := v5) g5
  obtain ⟨a6, e6, c6⟩ := int_cellw (v := v6) g6
  obtain ⟨a7, e7⟩ := bool_cell (v := v7) g7
  obtain ⟨L, hL, okL, hwL⟩ := open_sp1 (v := v8) g8
  obtain ⟨bs, hb, hB, hw⟩ := open_b1 (v := v9) g9
  subst e0 e1 e2 e3 e4 e5 e6 e7
  refine ⟨⟨a0, a1, a2, a3, a4, a5, a6, a7, L, bs⟩, v8, v9, rfl, hL, hb, ⟨c0, c1, c2, c3, c4, c5, c6, okL, hB⟩, ?_, ?_⟩
  · rcases hw with ⟨_, rfl⟩ | ⟨e, s, he, hel⟩
    · exact .inl rfl
    · refine .inr ⟨(e.length + s.length) * Try.prog.bytesOf 5, ?_, by rw [bytes_u8]; show bs.length ≤ _; omega⟩
      have h9 : ((e.length + s.length) * Try.prog.bytesOf 5) ∈ (xs[9]'(by omega)).1.weights Try.prog 26 := by rw [he]; simp [DataW.weights, Try.underlying26]
      have hd : (xs.map (·.1))[9]? = some (xs[9]'(by omega)).1 := by rw [List.getElem?_map, key 9 (by omega)]; rfl
      have k := DataW.weights_mem_each (P := Try.prog) (ts := [3, 3, 22, 22, 3, 3, 3, 4, 25, 26]) (ds := xs.map (·.1)) (j := 9) rfl hd _ h9
      rw [hx]
      simp only [DataW.weights, Try.underlying28]
      exact k
  · rcases hwL with ⟨_, rfl⟩ | ⟨e, s, he, hel⟩
    · exact .inl rfl
    · refine .inr ⟨(e.length + s.length) * Try.prog.bytesOf 82, ?_, by rw [bytes_sp]; show 8 * L.length ≤ _; omega⟩
      have h8 : ((e.length + s.length) * Try.prog.bytesOf 82) ∈ (xs[8]'(by omega)).1.weights Try.prog 25 := by rw [he]; simp [DataW.weights, Try.underlying25]
      have hd : (xs.map (·.1))[8]? = some (xs[8]'(by omega)).1 := by rw [List.getElem?_map, key 8 (by omega)]; rfl
      have k := DataW.weights_mem_each (P := Try.prog) (ts := [3, 3, 22, 22, 3, 3, 3, 4, 25, 26]) (ds := xs.map (·.1)) (j := 8) rfl hd _ h8
      rw [hx]
      simp only [DataW.weights, Try.underlying28]
      exact k
end
/-- a segment that came in -/
structure SgIn (W : World) (s : Sg) (gv dv : Value) : Prop where
  got : CG (fun g => g < W.heap.size) W gv s.got
  dat : IsB W.heap.size W dv s.dat
  ok : s.Ok
  datl : s.dat.length ≤ 140737488351232
  gotl : 8 * s.got.length ≤ 140737488351232
theorem open_sg {H : Type} {enc : TypeId × Value → H} {W : World} {v : Value} {d : DataW H} {p : List MemPlace} {ts : List TypeId} {ds : List (DataW H)} (h : DataW.Trod enc Try.prog W 0 (fun _ => true) true 28 v d p)
    (hsz : (DataW.weightsEach Try.prog ts ds).all (· ≤ reachBytes) = true) {j : Nat} (ht : ts[j]? = some 28) (hd : ds[j]? = some d) : ∃ (s : Sg) (gv dv : Value), v = .agg (s.cells gv dv).toArray ∧ SgIn W s gv dv := by
  obtain ⟨fuel, hf⟩ := h
  obtain ⟨s, gv, dv, e, hg, hb, ok, h1, h2⟩ := open_sc hf
  obtain ⟨cs, rfl, hc⟩ := agg_of (v := v) 10 (by omega) (by rw [e]; rfl)
  have e2 : cs.toList = s.cells gv dv := e
  refine ⟨s, gv, dv, by rw [← e2, Array.toArray_toList], hg, hb, ok, ?_, ?_⟩
  · rcases h1 with h | ⟨k, hk, hle⟩
    · rw [h]; simp
    · have h1 : k ≤ reachBytes := of_decide_eq_true (List.all_eq_true.1 hsz _ (DataW.weights_mem_each ht hd k hk))
      simp only [reachBytes] at h1
      omega
  · rcases h2 with h | ⟨k, hk, hle⟩
    · rw [h]; simp
    · have h1 : k ≤ reachBytes := of_decide_eq_true (List.all_eq_true.1 hsz _ (DataW.weights_mem_each ht hd k hk))
      simp only [reachBytes] at h1
      omega
theorem cells_ct : Try.prog.cellsOf 24 = 11 := by kernel_rfl
theorem list11 {cs : List Value} (h : cs.length = 11) : ∃ v0 v1 v2 v3 v4 v5 v6 v7 v8 v9 v10, cs = [v0, v1, v2, v3, v4, v5, v6, v7, v8, v9, v10] := by
  match cs, h with
  | [v0, v1, v2, v3, v4, v5, v6, v7, v8, v9, v10], _ => exact ⟨v0, v1, v2, v3, v4, v5, v6, v7, v8, v9, v10, rfl⟩
theorem open_ctc {H : Type} {enc : TypeId × Value → H} {W : World} {fuel : Nat} {x : DataW H × List MemPlace} {cs : List Value} (hf : DataW.trod enc Try.prog W 0 (fun _ => true) true fuel 24 cs = some x) : ∃ c : Ct, cs = c.cells ∧ c.Ok := by
  obtain ⟨xs, n, _, hx, hl0, hl, hi⟩ := DataW.trod_struct Try.underlying24 hf
  rw [cells_ct] at hl0
  replace hl : xs.length = 11 := hl
  have key : ∀ i (h : i < 11), xs[i]? = some (xs[i]'(by omega)) := fun i h => List.getElem?_eq_getElem (by omega)
  have g0 : DataW.trod enc Try.prog W 0 (fun _ => true) true n 3 ((cs.drop 0).take (Try.prog.cellsOf 3)) = xs[0]? := hi 0 _ rfl
  rw [cells_i, key 0 (by omega)] at g0
  have g1 : DataW.trod enc Try.prog W 0 (fun _ => true) true n 22 ((cs.drop 1).take (Try.prog.cellsOf 22)) = xs[1]? := hi 1 _ rfl
  rw [cells_u32, key 1 (by omega)] at g1
  have g2 : DataW.trod enc Try.prog W 0 (fun _ => true) true n 22 ((cs.drop 2).take (Try.prog.cellsOf 22)) = xs[2]? := hi 2 _ rfl
  rw [cells_u32, key 2 (by omega)] at g2
  have g3 : DataW.trod enc Try.prog W 0 (fun _ => true) true n 22 ((cs.drop 3).take (Try.prog.cellsOf 22)) = xs[3]? := hi 3 _ rfl
  rw [cells_u32, key 3 (by omega)] at g3
  have g4 : DataW.trod enc Try.prog W 0 (fun _ => true) true n 4 ((cs.drop 4).take (Try.prog.cellsOf 4)) = xs[4]? := hi 4 _ rfl
  rw [cells_b, key 4 (by omega)] at g4
  have g5 : DataW.trod enc Try.prog W 0 (fun _ => true) true n 3 ((cs.drop 5).take (Try.prog.cellsOf 3)) = xs[5]? := hi 5 _ rfl
  rw [cells_i, key 5 (by omega)] at g5
  have g6 : DataW.trod enc Try.prog W 0 (fun _ => true) true n 22 ((cs.drop 6).take (Try.prog.cellsOf 22)) = xs[6]? := hi 6 _ rfl
  rw [cells_u32, key 6 (by omega)] at g6
  have g7 : DataW.trod enc Try.prog W 0 (fun _ => true) true n 22 ((cs.drop 7).take (Try.prog.cellsOf 22)) = xs[7]? := hi 7 _ rfl
  rw [cells_u32, key 7 (by omega)] at g7
  have g8 : DataW.trod enc Try.prog W 0 (fun _ => true) true n 22 ((cs.drop 8).take (Try.prog.cellsOf 22)) = xs[8]? := hi 8 _ rfl
  rw [cells_u32, key 8 (by omega)] at g8
  have g9 : DataW.trod enc Try.prog W 0 (fun _ => true) true n 22 ((cs.drop 9).take (Try.prog.cellsOf 22)) = xs[9]? := hi 9 _ rfl
  rw [cells_u32, key 9 (by omega)] at g9
  have g10 : DataW.trod enc Try.prog W 0 (fun _ => true) true n 22 ((cs.drop 10).take (Try.prog.cellsOf 22)) = xs[10]? := hi 10 _ rfl
  rw [cells_u32, key 10 (by omega)] at g10
  obtain ⟨v0, v1, v2, v3, v4, v5, v6, v7, v8, v9, v10, rfl⟩ := list11 hl0
  obtain ⟨a0, e0, c0⟩ := int_cellw (v := v0) g0
  obtain ⟨a1, e1, c1⟩ := u32_cell (v := v1) g1
  obtain ⟨a2, e2, c2⟩ := u32_cell (v := v2) g2
  obtain ⟨a3, e3, c3⟩ := u32_cell (v := v3) g3
  obtain ⟨a4, e4⟩ := bool_cell (v := v4) g4
  obtain ⟨a5, e5, c5⟩ := int_cellw (v := v5) g5
  obtain ⟨a6, e6, c6⟩ := u32_cell (v := v6) g6
  obtain ⟨a7, e7, c7⟩ := u32_cell (v := v7) g7
  obtain ⟨a8, e8, c8⟩ := u32_cell (v := v8) g8
  obtain ⟨a9, e9, c9⟩ := u32_cell (v := v9) g9
  obtain ⟨a10, e10, c10⟩ := u32_cell (v := v10) g10
  subst e0 e1 e2 e3 e4 e5 e6 e7 e8 e9 e10
  exact ⟨⟨a0, a1, a2, a3, a4, a5, a6, a7, a8, a9, a10⟩, rfl, ⟨c0, c1, c2, c3, c5, c6, c7, c8, c9, c10⟩⟩
theorem open_ct {H : Type} {enc : TypeId × Value → H} {W : World} {v : Value} {d : DataW H} {p : List MemPlace} (h : DataW.Trod enc Try.prog W 0 (fun _ => true) true 24 v d p) : ∃ c : Ct, v = .agg c.cells.toArray ∧ c.Ok := by
  obtain ⟨fuel, hf⟩ := h
  obtain ⟨c, e, ok⟩ := open_ctc hf
  obtain ⟨cs, rfl, hc⟩ := agg_of (v := v) 11 (by omega) (by rw [e]; rfl)
  have e2 : cs.toList = c.cells := e
  exact ⟨c, by rw [← e2, Array.toArray_toList], ok⟩
end Go.Proofs.Ytgdcdgofahhfdaa
