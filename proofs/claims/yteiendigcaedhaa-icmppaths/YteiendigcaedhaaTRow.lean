
/-
  How the arguments are opened: a message, a slice of bytes.
-/
import Derived.Test.YteiendigcaedhaaT11
import Derived.ProofKit
import Derived.OpenShut
import Derived.SizedLaws
import Derived.Deep.Slices
namespace Go.Proofs.Yteiendigcaedhaa
open Go.ChangeShapes Go.WideShapes Go.ChangeAt Go.RowKit Go.Deep

theorem ownK : ownKnob Try.prog.godebug = none := by kernel_rfl
theorem laidOut : laidOutB Try.prog = true := by kernel_rfl
theorem bytes_u8 : Try.prog.bytesOf 5 = 1 := by kernel_rfl
theorem cells_u8 : Try.prog.cellsOf 5 = 1 := by kernel_rfl
theorem cells_i : Try.prog.cellsOf 3 = 1 := by kernel_rfl
theorem cells_b : Try.prog.cellsOf 4 = 1 := by kernel_rfl
theorem cells_4 : Try.prog.cellsOf 35 = 4 := by kernel_rfl
theorem cells_s : Try.prog.cellsOf 22 = 1 := by kernel_rfl
theorem cells_c : Try.prog.cellsOf 24 = 6 := by kernel_rfl
theorem int_wf {n : Int} (h : (Lit.int .i64 n).wf = true) : -9223372036854775808 ≤ n ∧ n ≤ 9223372036854775807 := by
  simpa [Lit.wf, IntKind.min, IntKind.max, IntKind.signed, IntKind.bits] using h
theorem byte_wf {n : Int} (h : (Lit.int .u8 n).wf = true) : 0 ≤ n ∧ n ≤ 255 := by
  simpa [Lit.wf, IntKind.min, IntKind.max, IntKind.signed, IntKind.bits] using h
section
variable {H : Type} {enc : TypeId × Value → H} {W : World} {sp : Nat → Bool} {held : Bool} {fuel : Nat} {x : DataW H × List MemPlace}
theorem byte_cell {cs : List Value} (hf : DataW.trod enc Try.prog W 0 sp held fuel 5 cs = some x) : ∃ a : Int, cs = [.int .u8 a] ∧ 0 ≤ a ∧ a ≤ 255 := by
  obtain ⟨a, e, _, hw⟩ := DataW.trod_int Try.underlying5 hf
  exact ⟨a, e, byte_wf hw⟩
theorem four_list {cs : List Value} (h : cs.length = 4) : ∃ v0 v1 v2 v3, cs = [v0, v1, v2, v3] := by
  match cs, h with
  | [v0, v1, v2, v3], _ => exact ⟨v0, v1, v2, v3, rfl⟩
theorem open_four {cs : List Value} (hf : DataW.trod enc Try.prog W 0 sp held fuel 35 cs = some x) : ∃ m : I4, cs = m.vals ∧ m.Ok := by
  obtain ⟨xs, n, _, rfl, hl, hx, hi⟩ := DataW.trod_array Try.underlying35 hf
  rw [cells_4] at hl
  obtain ⟨v0, v1, v2, v3, rfl⟩ := four_list hl
  rw [cells_u8] at hi
  have key : ∀ i, i < 4 → ∃ y, xs[i]? = some y := fun i h => ⟨_, List.getElem?_eq_getElem (by omega)⟩
  have each : ∀ i, i < 4 → ∃ a : Int, ([v0, v1, v2, v3].drop (i * 1)).take 1 = [.int .u8 a] ∧ 0 ≤ a ∧ a ≤ 255 := fun i h => by
    obtain ⟨y, hy⟩ := key i h
    exact byte_cell ((hi i h).trans hy)
  obtain ⟨a0, e0, b0⟩ := each 0 (by omega)
  obtain ⟨a1, e1, b1⟩ := each 1 (by omega)
  obtain ⟨a2, e2, b2⟩ := each 2 (by omega)
  obtain ⟨a3, e3, b3⟩ := each 3 (by omega)
  simp at e0 e1 e2 e3
  subst e0; subst e1; subst e2; subst e3
  exact ⟨⟨a0, a1, a2, a3⟩, rfl, b0, b1, b2, b3⟩
/-- a slice of bytes that came in, by its one cell -/
theorem open_b1 {v : Value} (hf : DataW.trod enc Try.prog W 0 sp held fuel 22 [v] = some x) :
    ∃ bs : List Int, IsB W.heap.size W v bs ∧ Bytes bs ∧ ((x.1 = .nil ∧ bs = []) ∨ ∃ e s, x.1 = .slice e s ∧ e.length = bs.length) := by
  rcases open_ints Try.underlying22 Try.underlying5 cells_u8 hf with ⟨hcs, hx⟩ | ⟨a, len, cap, zs, hcs, _, hl, hm, hz, hx, hcell, hwz⟩
  · simp only [List.cons.injEq, and_true] at hcs
    subst hcs
    exact ⟨[], IsB.nil _ _, Bytes.nil, .inl ⟨by rw [hx], rfl⟩⟩
  · simp only [List.cons.injEq, and_true] at hcs
    subst hcs
    have hzl : len ≤ zs.length := by rw [hz]; split <;> omega
    have hlz : (zs.take len).length = len := by simp; omega
    refine ⟨zs.take len, ⟨_, _, by rw [hlz], by omega, (fun e => by cases e), fun h0 => ?_⟩, fun b hb => byte_wf (hwz b (List.mem_of_mem_take hb)), .inr ⟨_, _, by rw [hx], by simp [lits]⟩⟩
    obtain ⟨b, off, rfl, hc⟩ := ints_at hcell (by omega)
    refine ⟨b, off, rfl, World.block_lt_of_cell? W _ (hc 0 (by omega)), fun j hj => ?_⟩
    rw [hc j (by omega), List.getElem?_take, if_pos (by omega)]
    simp [List.getD]
theorem int_cell {v : Value} (hf : DataW.trod enc Try.prog W 0 sp held fuel 3 [v] = some x) : ∃ a, v = .int .i64 a := by
  obtain ⟨a, e, _⟩ := DataW.trod_int Try.underlying3 hf
  simp only [List.cons.injEq, and_true] at e
  exact ⟨a, e⟩
theorem bool_cell {v : Value} (hf : DataW.trod enc Try.prog W 0 sp held fuel 4 [v] = some x) : ∃ a, v = .bool a := by
  obtain ⟨a, e, _⟩ := DataW.trod_bool Try.underlying4 hf
  simp only [List.cons.injEq, and_true] at e
  exact ⟨a, e⟩
theorem list6 {cs : List Value} (h : cs.length = 6) : ∃ v0 v1 v2 v3 v4 v5, cs = [v0, v1, v2, v3, v4, v5] := by
  match cs, h with
  | [v0, v1, v2, v3, v4, v5], _ => exact ⟨v0, v1, v2, v3, v4, v5, rfl⟩
theorem open_icc {cs : List Value} (hf : DataW.trod enc Try.prog W 0 sp held fuel 24 cs = some x) : ∃ (m : Ms) (dv : Value), cs = m.cells dv ∧ IsB W.heap.size W dv m.d ∧ Bytes m.d ∧ (m.d = [] ∨ ∃ k ∈ x.1.weights Try.prog 24, m.d.length ≤ k) := by
  obtain ⟨xs, n, _, hx, hl0, hl, hi⟩ := DataW.trod_struct Try.underlying24 hf
  rw [cells_c] at hl0
  replace hl : xs.length = 6 := hl
  have key : ∀ i (h : i < 6), xs[i]? = some (xs[i]'(by omega)) := fun i h => List.getElem?_eq_getElem (by omega)
  have g0 : DataW.trod enc Try.prog W 0 sp held n 3 ((cs.drop 0).take (Try.prog.cellsOf 3)) = xs[0]? := hi 0 _ rfl
  rw [cells_i, key 0 (by omega)] at g0
  have g1 : DataW.trod enc Try.prog W 0 sp held n 3 ((cs.drop 1).take (Try.prog.cellsOf 3)) = xs[1]? := hi 1 _ rfl
  rw [cells_i, key 1 (by omega)] at g1
  have g2 : DataW.trod enc Try.prog W 0 sp held n 3 ((cs.drop 2).take (Try.prog.cellsOf 3)) = xs[2]? := hi 2 _ rfl
  rw [cells_i, key 2 (by omega)] at g2
  have g3 : DataW.trod enc Try.prog W 0 sp held n 3 ((cs.drop 3).take (Try.prog.cellsOf 3)) = xs[3]? := hi 3 _ rfl
  rw [cells_i, key 3 (by omega)] at g3
  have g4 : DataW.trod enc Try.prog W 0 sp held n 3 ((cs.drop 4).take (Try.prog.cellsOf 3)) = xs[4]? := hi 4 _ rfl
  rw [cells_i, key 4 (by omega)] at g4
  have g5 : DataW.trod enc Try.prog W 0 sp held n 22 ((cs.drop 5).take (Try.prog.cellsOf 22)) = xs[5]? := hi 5 _ rfl
  rw [cells_s, key 5 (by omega)] at g5
  obtain ⟨v0, v1, v2, v3, v4, v5, rfl⟩ := list6 hl0
  obtain ⟨a0, e0⟩ := int_cell (v := v0) g0
  obtain ⟨a1, e1⟩ := int_cell (v := v1) g1
  obtain ⟨a2, e2⟩ := int_cell (v := v2) g2
  obtain ⟨a3, e3⟩ := int_cell (v := v3) g3
  obtain ⟨a4, e4⟩ := int_cell (v := v4) g4
  obtain ⟨bs, hb, hB, hw⟩ := open_b1 (v := v5) g5
  subst e0 e1 e2 e3 e4
  refine ⟨⟨a0, a1, a2, a3, a4, bs⟩, v5, rfl, hb, hB, ?_⟩
  rcases hw with ⟨_, rfl⟩ | ⟨e, s, he, hel⟩
  · exact .inl rfl
  · refine .inr ⟨(e.length + s.length) * Try.prog.bytesOf 5, ?_, by rw [bytes_u8]; show bs.length ≤ _; omega⟩
    have h9 : ((e.length + s.length) * Try.prog.bytesOf 5) ∈ (xs[5]'(by omega)).1.weights Try.prog 22 := by rw [he]; simp [DataW.weights, Try.underlying22]
    have hd : (xs.map (·.1))[5]? = some (xs[5]'(by omega)).1 := by rw [List.getElem?_map, key 5 (by omega)]; rfl
    have k := DataW.weights_mem_each (P := Try.prog) (ts := [3, 3, 3, 3, 3, 22]) (ds := xs.map (·.1)) (j := 5) rfl hd _ h9
    rw [hx]
    simp only [DataW.weights, Try.underlying24]
    exact k
end
theorem agg_of {v : Value} (n : Nat) (hn : n ≠ 1) (h : v.cells.toList.length = n) : ∃ cs : Array Value, v = .agg cs ∧ v.cells = cs := by
  cases v with
  | agg cs => exact ⟨cs, rfl, rfl⟩
  | _ => simp [Value.cells] at h; omega
/-- a message that came in -/
theorem open_ic {H : Type} {enc : TypeId × Value → H} {W : World} {v : Value} {d : DataW H} {p : List MemPlace} {ts : List TypeId} {ds : List (DataW H)} (h : DataW.Trod enc Try.prog W 0 (fun _ => true) true 24 v d p)
    (hsz : (DataW.weightsEach Try.prog ts ds).all (· ≤ reachBytes) = true) {j : Nat} (ht : ts[j]? = some 24) (hd : ds[j]? = some d) : ∃ (a : Ms) (dv : Value), v = .agg (a.cells dv).toArray ∧ IsB W.heap.size W dv a.d ∧ MsOk a := by
  obtain ⟨fuel, hf⟩ := h
  obtain ⟨a, dv, e, hb, ok3, hw⟩ := open_icc hf
  obtain ⟨cs, rfl, hc⟩ := agg_of (v := v) 6 (by omega) (by rw [e]; rfl)
  have e2 : cs.toList = a.cells dv := e
  have hlen : a.d.length ≤ 140737488351232 := by
    rcases hw with h | ⟨k, hk, hle⟩
    · rw [h]; simp
    · have h1 : k ≤ reachBytes := of_decide_eq_true (List.all_eq_true.1 hsz _ (DataW.weights_mem_each ht hd k hk))
      simp only [reachBytes] at h1
      omega
  have hv : (Value.agg cs) = .agg (a.cells dv).toArray := by rw [← e2, Array.toArray_toList]
  exact ⟨a, dv, hv, hb, ⟨ok3, hlen⟩⟩
set_option maxRecDepth 100000 in
/-- a slice of bytes that came in -/
theorem open_bF {H : Type} {enc : TypeId × Value → H} {W : World} {base : Nat} {v : Value} {d : DataW H} {p : List MemPlace} {ts : List TypeId} {ds : List (DataW H)} (hok : Value.okWide Try.prog W .any base 22 v)
    (h : DataW.Trod enc Try.prog W 0 (fun _ => true) true 22 v d p) (hsz : (DataW.weightsEach Try.prog ts ds).all (· ≤ reachBytes) = true) {j : Nat} (ht : ts[j]? = some 22) (hd : ds[j]? = some d) :
    ∃ bs : List Int, IsB W.heap.size W v bs ∧ Bytes bs ∧ bs.length ≤ 140737488351232 := by
  obtain ⟨a0, len, cap, rfl⟩ := okWide_slice Try.underlying22 hok
  obtain ⟨fuel, hf⟩ := h
  obtain ⟨bs, hb, hB, hw⟩ := open_b1 hf
  refine ⟨bs, hb, hB, ?_⟩
  rcases hw with ⟨_, rfl⟩ | ⟨e, s, he, hel⟩
  · simp
  · have h1 : (e.length + s.length) * Try.prog.bytesOf 5 ≤ reachBytes := of_decide_eq_true (List.all_eq_true.1 hsz _ (DataW.weights_mem_each ht hd _ (by
      have he : d = .slice e s := he
      rw [he]; simp [DataW.weights, Try.underlying22])))
    rw [bytes_u8] at h1
    simp only [reachBytes] at h1
    omega
end Go.Proofs.Yteiendigcaedhaa
