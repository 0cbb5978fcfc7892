
/-
  How the arguments are opened: an address, a slice of bytes.
-/
import Derived.Test.YtgempelfamjabaaU6
import Derived.ProofKit
import Derived.OpenShut
import Derived.SizedLaws
import Derived.Deep.Slices
namespace Go.Proofs.Ytgempelfamjabaa
open Go.ChangeShapes Go.WideShapes Go.ChangeAt Go.RowKit Go.Deep

theorem ownK : ownKnob Try.prog.godebug = none := by kernel_rfl
theorem laidOut : laidOutB Try.prog = true := by kernel_rfl
theorem bytes_u8 : Try.prog.bytesOf 5 = 1 := by kernel_rfl
theorem cells_u8 : Try.prog.cellsOf 5 = 1 := by kernel_rfl
theorem cells_i : Try.prog.cellsOf 3 = 1 := by kernel_rfl
theorem cells_b : Try.prog.cellsOf 4 = 1 := by kernel_rfl
theorem cells_4 : Try.prog.cellsOf 23 = 4 := by kernel_rfl
theorem cells_s : Try.prog.cellsOf 24 = 1 := by kernel_rfl
theorem cells_p : Try.prog.cellsOf 26 = 16 := by kernel_rfl
theorem int_wf {n : Int} (h : (Lit.int .i64 n).wf = true) : -9223372036854775808 ≤ n ∧ n ≤ 9223372036854775807 := by
  simpa [Lit.wf, IntKind.min, IntKind.max, IntKind.signed, IntKind.bits] using h
theorem byte_wf {n : Int} (h : (Lit.int .u8 n).wf = true) : 0 ≤ n ∧ n ≤ 255 := by
  simpa [Lit.wf, IntKind.min, IntKind.max, IntKind.signed, IntKind.bits] using h
section
variable {H : Type} {enc : TypeId × Value → H} {W : World} {sp : Nat → Bool} {held : Bool} {fuel : Nat} {x : DataW H × List MemPlace}
theorem byte_cell {cs : List Value} (hf : DataW.trod enc Try.prog W 0 sp held fuel 5 cs = some x) : ∃ a : Int, cs = [.int .u8 a] ∧ 0 ≤ a ∧ a ≤ 255 := by
  obtain ⟨a, e, _, hw⟩ := DataW.trod_int Try.underlying5 hf
  exact ⟨a, e, byte_wf hw⟩
theorem four_list {cs : List Value} (h : cs.length = 4) : ∃ v0 v1 v2 v3, cs = [v0, v1, v2, v3] := by
  match cs, h with
  | [v0, v1, v2, v3], _ => exact ⟨v0, v1, v2, v3, rfl⟩
theorem open_four {cs : List Value} (hf : DataW.trod enc Try.prog W 0 sp held fuel 23 cs = some x) : ∃ m : I4, cs = m.vals ∧ m.Ok := by
  obtain ⟨xs, n, _, rfl, hl, hx, hi⟩ := DataW.trod_array Try.underlying23 hf
  rw [cells_4] at hl
  obtain ⟨v0, v1, v2, v3, rfl⟩ := four_list hl
  rw [cells_u8] at hi
  have key : ∀ i, i < 4 → ∃ y, xs[i]? = some y := fun i h => ⟨_, List.getElem?_eq_getElem (by omega)⟩
  have each : ∀ i, i < 4 → ∃ a : Int, ([v0, v1, v2, v3].drop (i * 1)).take 1 = [.int .u8 a] ∧ 0 ≤ a ∧ a ≤ 255 := fun i h => by
    obtain ⟨y, hy⟩ := key i h
    exact byte_cell ((hi i h).trans hy)
  obtain ⟨a0, e0, b0⟩ := each 0 (by omega)
  obtain ⟨a1, e1, b1⟩ := each 1 (by omega)
  obtain ⟨a2, e2, b2⟩ := each 2 (by omega)
  obtain ⟨a3, e3, b3⟩ := each 3 (by omega)
  simp at e0 e1 e2 e3
  subst e0; subst e1; subst e2; subst e3
  exact ⟨⟨a0, a1, a2, a3⟩, rfl, b0, b1, b2, b3⟩
/-- a slice of bytes that came in, by its one cell -/
theorem open_b1 {v : Value} (hf : DataW.trod enc Try.prog W 0 sp held fuel 24 [v] = some x) :
    ∃ bs : List Int, IsB W.heap.size W v bs ∧ Bytes bs ∧ ((x.1 = .nil ∧ bs = []) ∨ ∃ e s, x.1 = .slice e s ∧ e.length = bs.length) := by
  rcases open_ints Try.underlying24 Try.underlying5 cells_u8 hf with ⟨hcs, hx⟩ | ⟨a, len, cap, zs, hcs, _, hl, hm, hz, hx, hcell, hwz⟩
  · simp only [List.cons.injEq, and_true] at hcs
    subst hcs
    exact ⟨[], IsB.nil _ _, Bytes.nil, .inl ⟨by rw [hx], rfl⟩⟩
  · simp only [List.cons.injEq, and_true] at hcs
    subst hcs
    have hzl : len ≤ zs.length := by rw [hz]; split <;> omega
    have hlz : (zs.take len).length = len := by simp; omega
    refine ⟨zs.take len, ⟨_, _, by rw [hlz], by omega, (fun e => by cases e), fun h0 => ?_⟩, fun b hb => byte_wf (hwz b (List.mem_of_mem_take hb)), .inr ⟨_, _, by rw [hx], by simp [lits]⟩⟩
    obtain ⟨b, off, rfl, hc⟩ := ints_at hcell (by omega)
    refine ⟨b, off, rfl, World.block_lt_of_cell? W _ (hc 0 (by omega)), fun j hj => ?_⟩
    rw [hc j (by omega), List.getElem?_take, if_pos (by omega)]
    simp [List.getD]
theorem list16 {cs : List Value} (h : cs.length = 16) : ∃ v0 v1 v2 v3 v4 v5 v6 v7 v8 v9 v10 v11 v12 v13 v14 v15, cs = [v0, v1, v2, v3, v4, v5, v6, v7, v8, v9, v10, v11, v12, v13, v14, v15] := by
  match cs, h with
  | [v0, v1, v2, v3, v4, v5, v6, v7, v8, v9, v10, v11, v12, v13, v14, v15], _ => exact ⟨v0, v1, v2, v3, v4, v5, v6, v7, v8, v9, v10, v11, v12, v13, v14, v15, rfl⟩
theorem int_cell {v : Value} (hf : DataW.trod enc Try.prog W 0 sp held fuel 3 [v] = some x) : ∃ a, v = .int .i64 a := by
  obtain ⟨a, e, _⟩ := DataW.trod_int Try.underlying3 hf
  simp only [List.cons.injEq, and_true] at e
  exact ⟨a, e⟩
theorem bool_cell {v : Value} (hf : DataW.trod enc Try.prog W 0 sp held fuel 4 [v] = some x) : ∃ a, v = .bool a := by
  obtain ⟨a, e, _⟩ := DataW.trod_bool Try.underlying4 hf
  simp only [List.cons.injEq, and_true] at e
  exact ⟨a, e⟩
theorem open_pc {cs : List Value} (hf : DataW.trod enc Try.prog W 0 sp held fuel 26 cs = some x) : ∃ (p : Pk) (ov : Value), cs = p.cells ov ∧ IsB W.heap.size W ov p.opts ∧ p.src.Ok ∧ p.dst.Ok ∧ Bytes p.opts ∧ (p.opts = [] ∨ ∃ k ∈ x.1.weights Try.prog 26, p.opts.length ≤ k) := by
  obtain ⟨xs, n, _, hx, hl0, hl, hi⟩ := DataW.trod_struct Try.underlying26 hf
  rw [cells_p] at hl0
  replace hl : xs.length = 10 := hl
  have key : ∀ i (h : i < 10), xs[i]? = some (xs[i]'(by omega)) := fun i h => List.getElem?_eq_getElem (by omega)
  have g0 : DataW.trod enc Try.prog W 0 sp held n 23 ((cs.drop 0).take (Try.prog.cellsOf 23)) = xs[0]? := hi 0 _ rfl
  rw [cells_4, key 0 (by omega)] at g0
  have g1 : DataW.trod enc Try.prog W 0 sp held n 23 ((cs.drop 4).take (Try.prog.cellsOf 23)) = xs[1]? := hi 1 _ rfl
  rw [cells_4, key 1 (by omega)] at g1
  have g2 : DataW.trod enc Try.prog W 0 sp held n 3 ((cs.drop 8).take (Try.prog.cellsOf 3)) = xs[2]? := hi 2 _ rfl
  rw [cells_i, key 2 (by omega)] at g2
  have g3 : DataW.trod enc Try.prog W 0 sp held n 3 ((cs.drop 9).take (Try.prog.cellsOf 3)) = xs[3]? := hi 3 _ rfl
  rw [cells_i, key 3 (by omega)] at g3
  have g4 : DataW.trod enc Try.prog W 0 sp held n 3 ((cs.drop 10).take (Try.prog.cellsOf 3)) = xs[4]? := hi 4 _ rfl
  rw [cells_i, key 4 (by omega)] at g4
  have g5 : DataW.trod enc Try.prog W 0 sp held n 3 ((cs.drop 11).take (Try.prog.cellsOf 3)) = xs[5]? := hi 5 _ rfl
  rw [cells_i, key 5 (by omega)] at g5
  have g6 : DataW.trod enc Try.prog W 0 sp held n 4 ((cs.drop 12).take (Try.prog.cellsOf 4)) = xs[6]? := hi 6 _ rfl
  rw [cells_b, key 6 (by omega)] at g6
  have g7 : DataW.trod enc Try.prog W 0 sp held n 4 ((cs.drop 13).take (Try.prog.cellsOf 4)) = xs[7]? := hi 7 _ rfl
  rw [cells_b, key 7 (by omega)] at g7
  have g8 : DataW.trod enc Try.prog W 0 sp held n 3 ((cs.drop 14).take (Try.prog.cellsOf 3)) = xs[8]? := hi 8 _ rfl
  rw [cells_i, key 8 (by omega)] at g8
  have g9 : DataW.trod enc Try.prog W 0 sp held n 24 ((cs.drop 15).take (Try.prog.cellsOf 24)) = xs[9]? := hi 9 _ rfl
  rw [cells_s, key 9 (by omega)] at g9
  obtain ⟨v0, v1, v2, v3, v4, v5, v6, v7, v8, v9, v10, v11, v12, v13, v14, v15, rfl⟩ := list16 hl0
  obtain ⟨si, e0, ok0⟩ := open_four g0
  obtain ⟨di, e1, ok1⟩ := open_four g1
  obtain ⟨a2, e2⟩ := int_cell (v := v8) g2
  obtain ⟨a3, e3⟩ := int_cell (v := v9) g3
  obtain ⟨a4, e4⟩ := int_cell (v := v10) g4
  obtain ⟨a5, e5⟩ := int_cell (v := v11) g5
  obtain ⟨a6, e6⟩ := bool_cell (v := v12) g6
  obtain ⟨a7, e7⟩ := bool_cell (v := v13) g7
  obtain ⟨a8, e8⟩ := int_cell (v := v14) g8
  obtain ⟨bs, hb, hB, hw⟩ := open_b1 (v := v15) g9
  simp [I4.vals] at e0 e1
  obtain ⟨rfl, rfl, rfl, rfl⟩ := e0
  obtain ⟨rfl, rfl, rfl, rfl⟩ := e1
  subst e2 e3 e4 e5 e6 e7 e8
  refine ⟨⟨si, di, a2, a3, a4, a5, a6, a7, a8, bs⟩, v15, rfl, hb, ok0, ok1, hB, ?_⟩
  rcases hw with ⟨_, rfl⟩ | ⟨e, s, he, hel⟩
  · exact .inl rfl
  · refine .inr ⟨(e.length + s.length) * Try.prog.bytesOf 5, ?_, by rw [bytes_u8]; show bs.length ≤ _; omega⟩
    have h9 : ((e.length + s.length) * Try.prog.bytesOf 5) ∈ (xs[9]'(by omega)).1.weights Try.prog 24 := by rw [he]; simp [DataW.weights, Try.underlying24]
    have hd : (xs.map (·.1))[9]? = some (xs[9]'(by omega)).1 := by rw [List.getElem?_map, key 9 (by omega)]; rfl
    have k := DataW.weights_mem_each (P := Try.prog) (ts := [23, 23, 3, 3, 3, 3, 4, 4, 3, 24]) (ds := xs.map (·.1)) (j := 9) rfl hd _ h9
    rw [hx]
    simp only [DataW.weights, Try.underlying26]
    exact k
end
theorem agg_of {v : Value} (n : Nat) (hn : n ≠ 1) (h : v.cells.toList.length = n) : ∃ cs : Array Value, v = .agg cs ∧ v.cells = cs := by
  cases v with
  | agg cs => exact ⟨cs, rfl, rfl⟩
  | _ => simp [Value.cells] at h; omega
/-- a packet's head that came in -/
theorem open_pk {H : Type} {enc : TypeId × Value → H} {W : World} {v : Value} {d : DataW H} {p : List MemPlace} {ts : List TypeId} {ds : List (DataW H)} (h : DataW.Trod enc Try.prog W 0 (fun _ => true) true 26 v d p)
    (hsz : (DataW.weightsEach Try.prog ts ds).all (· ≤ reachBytes) = true) {j : Nat} (ht : ts[j]? = some 26) (hd : ds[j]? = some d) : ∃ (a : Pk) (ov : Value), v = .agg (a.cells ov).toArray ∧ IsB W.heap.size W ov a.opts ∧ a.opts.length ≤ 140737488351232 := by
  obtain ⟨fuel, hf⟩ := h
  obtain ⟨a, ov, e, hb, ok1, ok2, ok3, hw⟩ := open_pc hf
  obtain ⟨cs, rfl, hc⟩ := agg_of (v := v) 16 (by omega) (by rw [e]; rfl)
  have e2 : cs.toList = a.cells ov := e
  refine ⟨a, ov, by rw [← e2, Array.toArray_toList], hb, ?_⟩
  rcases hw with h | ⟨k, hk, hle⟩
  · rw [h]; simp
  · have h1 : k ≤ reachBytes := of_decide_eq_true (List.all_eq_true.1 hsz _ (DataW.weights_mem_each ht hd k hk))
    simp only [reachBytes] at h1
    omega
theorem open_ip {H : Type} {enc : TypeId × Value → H} {W : World} {v : Value} {d : DataW H} {p : List MemPlace} (h : DataW.Trod enc Try.prog W 0 (fun _ => true) true 23 v d p) : ∃ m : I4, v = m.val ∧ m.Ok := by
  obtain ⟨fuel, hf⟩ := h
  obtain ⟨m, e, ok⟩ := open_four hf
  obtain ⟨cs, rfl, hc⟩ := agg_of (v := v) 4 (by omega) (by rw [e]; rfl)
  refine ⟨m, ?_, ok⟩
  have : cs.toList = m.vals := e
  rw [I4.val_eq, ← Array.toArray_toList (xs := cs), this]
set_option maxRecDepth 100000 in
/-- a slice of bytes that came in -/
theorem open_bF {H : Type} {enc : TypeId × Value → H} {W : World} {base : Nat} {v : Value} {d : DataW H} {p : List MemPlace} {ts : List TypeId} {ds : List (DataW H)} (hok : Value.okWide Try.prog W .any base 24 v)
    (h : DataW.Trod enc Try.prog W 0 (fun _ => true) true 24 v d p) (hsz : (DataW.weightsEach Try.prog ts ds).all (· ≤ reachBytes) = true) {j : Nat} (ht : ts[j]? = some 24) (hd : ds[j]? = some d) :
    ∃ bs : List Int, IsB W.heap.size W v bs ∧ Bytes bs ∧ bs.length ≤ 140737488351232 := by
  obtain ⟨a0, len, cap, rfl⟩ := okWide_slice Try.underlying24 hok
  obtain ⟨fuel, hf⟩ := h
  obtain ⟨bs, hb, hB, hw⟩ := open_b1 hf
  refine ⟨bs, hb, hB, ?_⟩
  rcases hw with ⟨_, rfl⟩ | ⟨e, s, he, hel⟩
  · simp
  · have h1 : (e.length + s.length) * Try.prog.bytesOf 5 ≤ reachBytes := of_decide_eq_true (List.all_eq_true.1 hsz _ (DataW.weights_mem_each ht hd _ (by
      have he : d = .slice e s := he
      rw [he]; simp [DataW.weights, Try.underlying24])))
    rw [bytes_u8] at h1
    simp only [reachBytes] at h1
    omega
end Go.Proofs.Ytgempelfamjabaa
