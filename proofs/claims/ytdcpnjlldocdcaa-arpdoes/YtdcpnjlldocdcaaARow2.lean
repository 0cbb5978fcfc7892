
/-
  How the arguments are opened: a slice of calls, a request; what the bound on sizes gives.
-/
import Derived.Test.YtdcpnjlldocdcaaAOp
import Derived.Test.YtdcpnjlldocdcaaARow
namespace Go.Proofs.Ytdcpnjlldocdcaa
open Go.ChangeShapes Go.WideShapes Go.ChangeAt Go.RowKit Go.Deep

theorem bytes_op : Try.prog.bytesOf 46 = 56 := by kernel_rfl
theorem cells_op : Try.prog.cellsOf 46 = 25 := by kernel_rfl
theorem cells_a : Try.prog.cellsOf 27 = 21 := by kernel_rfl
theorem cells_4 : Try.prog.cellsOf 25 = 4 := by kernel_rfl
theorem int_cell {H : Type} {enc : TypeId × Value → H} {W : World} {sp : Nat → Bool} {held : Bool} {fuel : Nat} {v : Value} {x : DataW H × List MemPlace} (hf : DataW.trod enc Try.prog W 0 sp held fuel 3 [v] = some x) : ∃ a, v = .int .i64 a ∧ -9223372036854775808 ≤ a ∧ a ≤ 9223372036854775807 := by
  obtain ⟨a, e, hx, hw⟩ := DataW.trod_int Try.underlying3 hf
  simp only [List.cons.injEq, and_true] at e
  exact ⟨a, e, int_wf hw⟩
theorem bool_cell {H : Type} {enc : TypeId × Value → H} {W : World} {sp : Nat → Bool} {held : Bool} {fuel : Nat} {v : Value} {x : DataW H × List MemPlace} (hf : DataW.trod enc Try.prog W 0 sp held fuel 4 [v] = some x) : ∃ a, v = .bool a := by
  obtain ⟨a, e, _⟩ := DataW.trod_bool Try.underlying4 hf
  simp only [List.cons.injEq, and_true] at e
  exact ⟨a, e⟩

section
variable {H : Type} {enc : TypeId × Value → H} {W : World} {sp : Nat → Bool} {held : Bool} {fuel : Nat} {x : DataW H × List MemPlace}
theorem four_list {cs : List Value} (h : cs.length = 4) : ∃ v0 v1 v2 v3, cs = [v0, v1, v2, v3] := by
  match cs, h with
  | [v0, v1, v2, v3], _ => exact ⟨v0, v1, v2, v3, rfl⟩
theorem open_four {cs : List Value} (hf : DataW.trod enc Try.prog W 0 sp held fuel 25 cs = some x) : ∃ m : I4, cs = m.vals ∧ m.Ok := by
  obtain ⟨xs, n, _, rfl, hl, hx, hi⟩ := DataW.trod_array Try.underlying25 hf
  rw [cells_4] at hl
  obtain ⟨v0, v1, v2, v3, rfl⟩ := four_list hl
  rw [cells_u8] at hi
  have each : ∀ i, i < 4 → ∃ a : Int, ([v0, v1, v2, v3].drop (i * 1)).take 1 = [.int .u8 a] ∧ 0 ≤ a ∧ a ≤ 255 := fun i h => by
    obtain ⟨y, hy⟩ : ∃ y, xs[i]? = some y := ⟨_, List.getElem?_eq_getElem (by omega)⟩
    exact byte_cell ((hi i h).trans hy)
  obtain ⟨a0, e0, b0⟩ := each 0 (by omega)
  obtain ⟨a1, e1, b1⟩ := each 1 (by omega)
  obtain ⟨a2, e2, b2⟩ := each 2 (by omega)
  obtain ⟨a3, e3, b3⟩ := each 3 (by omega)
  simp at e0 e1 e2 e3
  subst e0; subst e1; subst e2; subst e3
  exact ⟨⟨a0, a1, a2, a3⟩, rfl, b0, b1, b2, b3⟩
theorem list21 {cs : List Value} (h : cs.length = 21) : ∃ v0 v1 v2 v3 v4 v5 v6 v7 v8 v9 v10 v11 v12 v13 v14 v15 v16 v17 v18 v19 v20, cs = [v0, v1, v2, v3, v4, v5, v6, v7, v8, v9, v10, v11, v12, v13, v14, v15, v16, v17, v18, v19, v20] := by
  match cs, h with
  | [v0, v1, v2, v3, v4, v5, v6, v7, v8, v9, v10, v11, v12, v13, v14, v15, v16, v17, v18, v19, v20], _ => exact ⟨v0, v1, v2, v3, v4, v5, v6, v7, v8, v9, v10, v11, v12, v13, v14, v15, v16, v17, v18, v19, v20, rfl⟩
theorem open_ar {cs : List Value} (hf : DataW.trod enc Try.prog W 0 sp held fuel 27 cs = some x) : ∃ a : Ar, cs = a.vals ∧ a.Ok := by
  obtain ⟨xs, n, _, hx, hl0, hl, hi⟩ := DataW.trod_struct Try.underlying27 hf
  rw [cells_a] at hl0
  replace hl : xs.length = 5 := hl
  have key : ∀ i (h : i < 5), xs[i]? = some (xs[i]'(by omega)) := fun i h => List.getElem?_eq_getElem (by omega)
  have g0 : DataW.trod enc Try.prog W 0 sp held n 4 ((cs.drop 0).take (Try.prog.cellsOf 4)) = xs[0]? := hi 0 _ rfl
  rw [cells_b, key 0 (by omega)] at g0
  have g1 : DataW.trod enc Try.prog W 0 sp held n 23 ((cs.drop 1).take (Try.prog.cellsOf 23)) = xs[1]? := hi 1 _ rfl
  rw [cells_m, key 1 (by omega)] at g1
  have g2 : DataW.trod enc Try.prog W 0 sp held n 25 ((cs.drop 7).take (Try.prog.cellsOf 25)) = xs[2]? := hi 2 _ rfl
  rw [cells_4, key 2 (by omega)] at g2
  have g3 : DataW.trod enc Try.prog W 0 sp held n 23 ((cs.drop 11).take (Try.prog.cellsOf 23)) = xs[3]? := hi 3 _ rfl
  rw [cells_m, key 3 (by omega)] at g3
  have g4 : DataW.trod enc Try.prog W 0 sp held n 25 ((cs.drop 17).take (Try.prog.cellsOf 25)) = xs[4]? := hi 4 _ rfl
  rw [cells_4, key 4 (by omega)] at g4
  obtain ⟨v0, v1, v2, v3, v4, v5, v6, v7, v8, v9, v10, v11, v12, v13, v14, v15, v16, v17, v18, v19, v20, rfl⟩ := list21 hl0
  obtain ⟨t, et, _⟩ := DataW.trod_bool Try.underlying4 g0
  obtain ⟨sm, e1, ok1⟩ := open_six g1
  obtain ⟨si, e2, ok2⟩ := open_four g2
  obtain ⟨dm, e3, ok3⟩ := open_six g3
  obtain ⟨di, e4, ok4⟩ := open_four g4
  simp [M6.vals, I4.vals] at et e1 e2 e3 e4
  obtain ⟨rfl, rfl, rfl, rfl, rfl, rfl⟩ := e1
  obtain ⟨rfl, rfl, rfl, rfl⟩ := e2
  obtain ⟨rfl, rfl, rfl, rfl, rfl, rfl⟩ := e3
  obtain ⟨rfl, rfl, rfl, rfl⟩ := e4
  subst et
  exact ⟨⟨t, sm, si, dm, di⟩, rfl, ok1, ok2, ok3, ok4⟩
theorem open_op {cs : List Value} (hf : DataW.trod enc Try.prog W 0 sp held fuel 46 cs = some x) (hc : cs.length = 25) : ∃ o : Op8, cs = o.cells ∧ o.Ok := by
  obtain ⟨xs, n, _, hx, hl0, hl, hi⟩ := DataW.trod_struct Try.underlying46 hf
  replace hl : xs.length = 5 := hl
  have key : ∀ i (h : i < 5), xs[i]? = some (xs[i]'(by omega)) := fun i h => List.getElem?_eq_getElem (by omega)
  have g0 : DataW.trod enc Try.prog W 0 sp held n 3 ((cs.drop 0).take (Try.prog.cellsOf 3)) = xs[0]? := hi 0 _ rfl
  rw [cells_i, key 0 (by omega)] at g0
  have g1 : DataW.trod enc Try.prog W 0 sp held n 5 ((cs.drop 1).take (Try.prog.cellsOf 5)) = xs[1]? := hi 1 _ rfl
  rw [cells_u8, key 1 (by omega)] at g1
  have g2 : DataW.trod enc Try.prog W 0 sp held n 3 ((cs.drop 2).take (Try.prog.cellsOf 3)) = xs[2]? := hi 2 _ rfl
  rw [cells_i, key 2 (by omega)] at g2
  have g3 : DataW.trod enc Try.prog W 0 sp held n 27 ((cs.drop 3).take (Try.prog.cellsOf 27)) = xs[3]? := hi 3 _ rfl
  rw [cells_a, key 3 (by omega)] at g3
  have g4 : DataW.trod enc Try.prog W 0 sp held n 3 ((cs.drop 24).take (Try.prog.cellsOf 3)) = xs[4]? := hi 4 _ rfl
  rw [cells_i, key 4 (by omega)] at g4
  obtain ⟨v0, c1, rfl⟩ : ∃ v0 c1, cs = v0 :: c1 := by cases cs with | nil => simp at hc | cons a b => exact ⟨a, b, rfl⟩
  obtain ⟨v1, c2, rfl⟩ : ∃ v1 c2, c1 = v1 :: c2 := by cases c1 with | nil => simp at hc | cons a b => exact ⟨a, b, rfl⟩
  obtain ⟨v2, c3, rfl⟩ : ∃ v2 c3, c2 = v2 :: c3 := by cases c2 with | nil => simp at hc | cons a b => exact ⟨a, b, rfl⟩
  have hc3 : c3.length = 22 := by simpa using hc
  obtain ⟨k0, e0, w0⟩ := int_cell (v := v0) (by simpa using g0)
  obtain ⟨k1, e1, w1⟩ := byte_cell (cs := [v1]) (by simpa using g1)
  obtain ⟨k2, e2, w2⟩ := int_cell (v := v2) (by simpa using g2)
  obtain ⟨aa, e3, w3⟩ := open_ar g3
  have e3' : c3.take 21 = aa.vals := by simpa using e3
  have e4' : (c3.drop 21).length = 1 := by simp [hc3]
  obtain ⟨v24, e24⟩ : ∃ v24, c3.drop 21 = [v24] := by
    match hd : c3.drop 21, e4' with
    | [v], _ => exact ⟨v, rfl⟩
  have g4' : DataW.trod enc Try.prog W 0 sp held n 3 [v24] = some (xs[4]'(by omega)) := by
    rw [← g4]
    congr 1
    show [v24] = (c3.drop 21).take 1
    rw [e24]; rfl
  obtain ⟨k4, e4, w4⟩ := int_cell g4'
  simp at e1
  refine ⟨⟨k0, k1, k2, aa, k4⟩, ?_, w0, w1, w2, w3, w4⟩
  rw [← List.take_append_drop 21 c3, e3', e24, e0, e1, e2, e4]
  rfl
end
/-- a slice of calls that came in -/
theorem open_o {H : Type} {enc : TypeId × Value → H} {W : World} {base : Nat} {v : Value} {d : DataW H} {p : List MemPlace} {ts : List TypeId} {ds : List (DataW H)} (hok : Value.okWide Try.prog W .any base 36 v)
    (h : DataW.Trod enc Try.prog W 0 (fun _ => true) true 36 v d p) (hsz : (DataW.weightsEach Try.prog ts ds).all (· ≤ reachBytes) = true) {j : Nat} (ht : ts[j]? = some 36) (hd : ds[j]? = some d) :
    ∃ l : List Op8, IsO W.heap.size W v l ∧ l.length ≤ 4398046510976 := by
  obtain ⟨a0, len, cap, rfl⟩ := okWide_slice Try.underlying36 hok
  obtain ⟨fuel, hf⟩ := h
  have hall : ∀ k ∈ d.weights Try.prog 36, k ≤ 140737488351232 := fun k hk => by
    have h1 : k ≤ reachBytes := of_decide_eq_true (List.all_eq_true.1 hsz _ (DataW.weights_mem_each ht hd k hk))
    simp only [reachBytes] at h1
    exact h1
  simp only [Value.cells] at hf
  rcases open_slice Try.underlying36 hf with ⟨hcs, hx⟩ | ⟨a, len', cap', m, n, D, Pl, hcs, _, hl, hm, hmm, hx, hel⟩
  · simp at hcs
    obtain ⟨rfl, rfl, rfl⟩ := hcs
    exact ⟨[], ⟨none, 0, rfl, fun h => by simp at h, fun o ho => by cases ho⟩, by simp⟩
  · simp at hcs
    obtain ⟨rfl, rfl, rfl⟩ := hcs
    simp only [if_true] at hmm
    subst hmm
    simp only [Prod.mk.injEq] at hx
    obtain ⟨rfl, _⟩ := hx
    have hlen : len ≤ 4398046510976 := by
      have := hall ((((List.range len).map D).length + ((List.range (m - len)).map fun j => D (len + j)).length) * Try.prog.bytesOf 46) (by simp [DataW.weights, Try.underlying36])
      rw [bytes_op] at this
      simp at this
      omega
    have each : ∀ i, i < len → ∃ o : Op8, (∀ j v, o.cells[j]? = some v → W.cell? (a.add (i * 25 + j)) = some v) ∧ o.Ok := by
      intro i hi
      obtain ⟨cs', h1, h2⟩ := hel i (by omega)
      rw [cells_op] at h1
      obtain ⟨_, hlen5, hcell⟩ := World.cells?_some h1
      obtain ⟨o, rfl, hw⟩ := open_op h2 hlen5
      refine ⟨o, fun j v hv => ?_, hw⟩
      have hj := (List.getElem?_eq_some_iff.1 hv).1
      have := hcell j (by rw [hlen5] at hj; exact hj)
      rw [add_add] at this
      rw [this]
      rw [← hv]
    obtain ⟨f, hf⟩ := choose_lt each
    refine ⟨(List.range len).map f, ⟨some a, m, by simp, fun h0 => ?_, fun o ho => ?_⟩, by simpa using hlen⟩
    · have hpos : 0 < len := by simpa using h0
      have c0 := (hf 0 hpos).1 0 _ rfl
      obtain ⟨gb, off, sp⟩ := a
      have hsp : sp = none := by
        cases sp with
        | none => rfl
        | some q =>
          exfalso
          unfold World.cell? at c0
          split at c0
          · simp [Addr.add] at c0
          · cases c0
      subst hsp
      have hlt : gb < W.heap.size := by
        have := World.block_lt_of_cell? W _ c0
        simpa [Addr.add] using this
      refine ⟨gb, off, rfl, hlt, fun i o hi => ?_⟩
      have hil : i < len := by have := (List.getElem?_eq_some_iff.1 hi).1; simpa using this
      have ho : f i = o := by simpa [hil] using hi
      subst ho
      intro j v hv
      have := (hf i hil).1 j v hv
      simpa [Addr.add_lit, Nat.add_assoc] using this
    · obtain ⟨i, hi, rfl⟩ := List.mem_map.1 ho
      exact (hf i (by simpa using hi)).2

end Go.Proofs.Ytdcpnjlldocdcaa
