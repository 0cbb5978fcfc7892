
/-
  Out of IRow: open_pk.
-/
import Derived.Test.YtlhkdjockodneaaTRow
import Derived.Test.YtlhkdjockodneaaT25
import Derived.ProofKit
import Derived.OpenShut
import Derived.SizedLaws
import Derived.Deep.Slices
namespace Go.Proofs.Ytlhkdjockodneaa
open Go.ChangeShapes Go.WideShapes Go.ChangeAt Go.RowKit Go.Deep

theorem u32_wf {n : Int} (h : (Lit.int .u32 n).wf = true) : 0 ≤ n ∧ n ≤ 4294967295 := by
  simpa [Lit.wf, IntKind.min, IntKind.max, IntKind.signed, IntKind.bits] using h
theorem cells_p : Try.prog.cellsOf 70 = 16 := by kernel_rfl
section
variable {H : Type} {enc : TypeId × Value → H} {W : World} {sp : Nat → Bool} {held : Bool} {fuel : Nat} {x : DataW H × List MemPlace}
theorem list16 {cs : List Value} (h : cs.length = 16) : ∃ v0 v1 v2 v3 v4 v5 v6 v7 v8 v9 v10 v11 v12 v13 v14 v15, cs = [v0, v1, v2, v3, v4, v5, v6, v7, v8, v9, v10, v11, v12, v13, v14, v15] := by
  match cs, h with
  | [v0, v1, v2, v3, v4, v5, v6, v7, v8, v9, v10, v11, v12, v13, v14, v15], _ => exact ⟨v0, v1, v2, v3, v4, v5, v6, v7, v8, v9, v10, v11, v12, v13, v14, v15, rfl⟩
theorem open_pc {cs : List Value} (hf : DataW.trod enc Try.prog W 0 sp held fuel 70 cs = some x) : ∃ (p : Pk) (ov : Value), cs = p.cells ov ∧ IsB W.heap.size W ov p.opts ∧ p.src.Ok ∧ p.dst.Ok ∧ Bytes p.opts ∧ (p.opts = [] ∨ ∃ k ∈ x.1.weights Try.prog 70, p.opts.length ≤ k) := by
  obtain ⟨xs, n, _, hx, hl0, hl, hi⟩ := DataW.trod_struct Try.underlying70 hf
  rw [cells_p] at hl0
  replace hl : xs.length = 10 := hl
  have key : ∀ i (h : i < 10), xs[i]? = some (xs[i]'(by omega)) := fun i h => List.getElem?_eq_getElem (by omega)
  have g0 : DataW.trod enc Try.prog W 0 sp held n 35 ((cs.drop 0).take (Try.prog.cellsOf 35)) = xs[0]? := hi 0 _ rfl
  rw [cells_4, key 0 (by omega)] at g0
  have g1 : DataW.trod enc Try.prog W 0 sp held n 35 ((cs.drop 4).take (Try.prog.cellsOf 35)) = xs[1]? := hi 1 _ rfl
  rw [cells_4, key 1 (by omega)] at g1
  have g2 : DataW.trod enc Try.prog W 0 sp held n 3 ((cs.drop 8).take (Try.prog.cellsOf 3)) = xs[2]? := hi 2 _ rfl
  rw [cells_i, key 2 (by omega)] at g2
  have g3 : DataW.trod enc Try.prog W 0 sp held n 3 ((cs.drop 9).take (Try.prog.cellsOf 3)) = xs[3]? := hi 3 _ rfl
  rw [cells_i, key 3 (by omega)] at g3
  have g4 : DataW.trod enc Try.prog W 0 sp held n 3 ((cs.drop 10).take (Try.prog.cellsOf 3)) = xs[4]? := hi 4 _ rfl
  rw [cells_i, key 4 (by omega)] at g4
  have g5 : DataW.trod enc Try.prog W 0 sp held n 3 ((cs.drop 11).take (Try.prog.cellsOf 3)) = xs[5]? := hi 5 _ rfl
  rw [cells_i, key 5 (by omega)] at g5
  have g6 : DataW.trod enc Try.prog W 0 sp held n 4 ((cs.drop 12).take (Try.prog.cellsOf 4)) = xs[6]? := hi 6 _ rfl
  rw [cells_b, key 6 (by omega)] at g6
  have g7 : DataW.trod enc Try.prog W 0 sp held n 4 ((cs.drop 13).take (Try.prog.cellsOf 4)) = xs[7]? := hi 7 _ rfl
  rw [cells_b, key 7 (by omega)] at g7
  have g8 : DataW.trod enc Try.prog W 0 sp held n 3 ((cs.drop 14).take (Try.prog.cellsOf 3)) = xs[8]? := hi 8 _ rfl
  rw [cells_i, key 8 (by omega)] at g8
  have g9 : DataW.trod enc Try.prog W 0 sp held n 22 ((cs.drop 15).take (Try.prog.cellsOf 22)) = xs[9]? := hi 9 _ rfl
  rw [cells_s, key 9 (by omega)] at g9
  obtain ⟨v0, v1, v2, v3, v4, v5, v6, v7, v8, v9, v10, v11, v12, v13, v14, v15, rfl⟩ := list16 hl0
  obtain ⟨si, e0, ok0⟩ := open_four g0
  obtain ⟨di, e1, ok1⟩ := open_four g1
  obtain ⟨a2, e2⟩ := int_cell (v := v8) g2
  obtain ⟨a3, e3⟩ := int_cell (v := v9) g3
  obtain ⟨a4, e4⟩ := int_cell (v := v10) g4
  obtain ⟨a5, e5⟩ := int_cell (v := v11) g5
  obtain ⟨a6, e6⟩ := bool_cell (v := v12) g6
  obtain ⟨a7, e7⟩ := bool_cell (v := v13) g7
  obtain ⟨a8, e8⟩ := int_cell (v := v14) g8
  obtain ⟨bs, hb, hB, hw⟩ := open_b1 (v := v15) g9
  simp [I4.vals] at e0 e1
  obtain ⟨rfl, rfl, rfl, rfl⟩ := e0
  obtain ⟨rfl, rfl, rfl, rfl⟩ := e1
  subst e2 e3 e4 e5 e6 e7 e8
  refine ⟨⟨si, di, a2, a3, a4, a5, a6, a7, a8, bs⟩, v15, rfl, hb, ok0, ok1, hB, ?_⟩
  rcases hw with ⟨_, rfl⟩ | ⟨e, s, he, hel⟩
  · exact .inl rfl
  · refine .inr ⟨(e.length + s.length) * Try.prog.bytesOf 5, ?_, by rw [bytes_u8]; show bs.length ≤ _; omega⟩
    have h9 : ((e.length + s.length) * Try.prog.bytesOf 5) ∈ (xs[9]'(by omega)).1.weights Try.prog 22 := by rw [he]; simp [DataW.weights, Try.underlying22]
    have hd : (xs.map (·.1))[9]? = some (xs[9]'(by omega)).1 := by rw [List.getElem?_map, key 9 (by omega)]; rfl
    have k := DataW.weights_mem_each (P := Try.prog) (ts := [35, 35, 3, 3, 3, 3, 4, 4, 3, 22]) (ds := xs.map (·.1)) (j := 9) rfl hd _ h9
    rw [hx]
    simp only [DataW.weights, Try.underlying70]
    exact k
end
/-- a packet's head that came in -/
theorem open_pk {H : Type} {enc : TypeId × Value → H} {W : World} {v : Value} {d : DataW H} {p : List MemPlace} {ts : List TypeId} {ds : List (DataW H)} (h : DataW.Trod enc Try.prog W 0 (fun _ => true) true 70 v d p)
    (hsz : (DataW.weightsEach Try.prog ts ds).all (· ≤ reachBytes) = true) {j : Nat} (ht : ts[j]? = some 70) (hd : ds[j]? = some d) : ∃ (a : Pk) (ov : Value), v = .agg (a.cells ov).toArray ∧ IsB W.heap.size W ov a.opts ∧ PkOk a := by
  obtain ⟨fuel, hf⟩ := h
  obtain ⟨a, ov, e, hb, ok1, ok2, ok3, hw⟩ := open_pc hf
  obtain ⟨cs, rfl, hc⟩ := agg_of (v := v) 16 (by omega) (by rw [e]; rfl)
  have e2 : cs.toList = a.cells ov := e
  refine ⟨a, ov, by rw [← e2, Array.toArray_toList], hb, ok1, ok2, ok3, ?_⟩
  rcases hw with h | ⟨k, hk, hle⟩
  · rw [h]; simp
  · have h1 : k ≤ reachBytes := of_decide_eq_true (List.all_eq_true.1 hsz _ (DataW.weights_mem_each ht hd k hk))
    simp only [reachBytes] at h1
    omega

end Go.Proofs.Ytlhkdjockodneaa
