
/-
  How the arguments are opened: a head, an address, a slice of bytes; what the bound on sizes gives.
-/
import Derived.Test.YtipebfaappangaaE10
import Derived.ProofKit
import Derived.OpenShut
import Derived.SizedLaws
import Derived.Deep.Slices
namespace Go.Proofs.Ytipebfaappangaa
open Go.ChangeShapes Go.WideShapes Go.ChangeAt Go.RowKit Go.Deep

theorem ownK : ownKnob Try.prog.godebug = none := by kernel_rfl
theorem laidOut : laidOutB Try.prog = true := by kernel_rfl
theorem bytes_u8 : Try.prog.bytesOf 5 = 1 := by kernel_rfl
theorem cells_u8 : Try.prog.cellsOf 5 = 1 := by kernel_rfl
theorem cells_i : Try.prog.cellsOf 3 = 1 := by kernel_rfl
theorem cells_b : Try.prog.cellsOf 4 = 1 := by kernel_rfl
theorem cells_m : Try.prog.cellsOf 23 = 6 := by kernel_rfl
theorem cells_f : Try.prog.cellsOf 25 = 16 := by kernel_rfl

theorem int_wf {n : Int} (h : (Lit.int .i64 n).wf = true) : -9223372036854775808 ≤ n ∧ n ≤ 9223372036854775807 := by
  simpa [Lit.wf, IntKind.min, IntKind.max, IntKind.signed, IntKind.bits] using h
theorem byte_wf {n : Int} (h : (Lit.int .u8 n).wf = true) : 0 ≤ n ∧ n ≤ 255 := by
  simpa [Lit.wf, IntKind.min, IntKind.max, IntKind.signed, IntKind.bits] using h

/-- bytes, and numbers of 64 bits -/
def M6.Ok (m : M6) : Prop := (0 ≤ m.a ∧ m.a ≤ 255) ∧ (0 ≤ m.b ∧ m.b ≤ 255) ∧ (0 ≤ m.c ∧ m.c ≤ 255) ∧ (0 ≤ m.d ∧ m.d ≤ 255) ∧ (0 ≤ m.e ∧ m.e ≤ 255) ∧ (0 ≤ m.f ∧ m.f ≤ 255)
structure Fr.Ok (f : Fr) : Prop where
  dst : f.dst.Ok
  src : f.src.Ok

section
variable {H : Type} {enc : TypeId × Value → H} {W : World} {sp : Nat → Bool} {held : Bool} {fuel : Nat} {x : DataW H × List MemPlace}

theorem byte_cell {cs : List Value} (hf : DataW.trod enc Try.prog W 0 sp held fuel 5 cs = some x) : ∃ a : Int, cs = [.int .u8 a] ∧ 0 ≤ a ∧ a ≤ 255 := by
  obtain ⟨a, e, _, hw⟩ := DataW.trod_int Try.underlying5 hf
  exact ⟨a, e, byte_wf hw⟩
theorem six_list {cs : List Value} (h : cs.length = 6) : ∃ v0 v1 v2 v3 v4 v5, cs = [v0, v1, v2, v3, v4, v5] := by
  match cs, h with
  | [v0, v1, v2, v3, v4, v5], _ => exact ⟨v0, v1, v2, v3, v4, v5, rfl⟩
theorem open_six {cs : List Value} (hf : DataW.trod enc Try.prog W 0 sp held fuel 23 cs = some x) : ∃ m : M6, cs = m.vals ∧ m.Ok := by
  obtain ⟨xs, n, _, rfl, hl, hx, hi⟩ := DataW.trod_array Try.underlying23 hf
  rw [cells_m] at hl
  obtain ⟨v0, v1, v2, v3, v4, v5, rfl⟩ := six_list hl
  rw [cells_u8] at hi
  have key : ∀ i, i < 6 → ∃ y, xs[i]? = some y := fun i h => ⟨_, List.getElem?_eq_getElem (by omega)⟩
  have each : ∀ i, i < 6 → ∃ a : Int, ([v0, v1, v2, v3, v4, v5].drop (i * 1)).take 1 = [.int .u8 a] ∧ 0 ≤ a ∧ a ≤ 255 := fun i h => by
    obtain ⟨y, hy⟩ := key i h
    exact byte_cell ((hi i h).trans hy)
  obtain ⟨a0, e0, b0⟩ := each 0 (by omega)
  obtain ⟨a1, e1, b1⟩ := each 1 (by omega)
  obtain ⟨a2, e2, b2⟩ := each 2 (by omega)
  obtain ⟨a3, e3, b3⟩ := each 3 (by omega)
  obtain ⟨a4, e4, b4⟩ := each 4 (by omega)
  obtain ⟨a5, e5, b5⟩ := each 5 (by omega)
  simp at e0 e1 e2 e3 e4 e5
  subst e0; subst e1; subst e2; subst e3; subst e4; subst e5
  exact ⟨⟨a0, a1, a2, a3, a4, a5⟩, rfl, b0, b1, b2, b3, b4, b5⟩
end

theorem agg_of {v : Value} (n : Nat) (hn : n ≠ 1) (h : v.cells.toList.length = n) : ∃ cs : Array Value, v = .agg cs ∧ v.cells = cs := by
  cases v with
  | agg cs => exact ⟨cs, rfl, rfl⟩
  | _ => simp [Value.cells] at h; omega

/-- an address that came in -/
theorem open_mac {H : Type} {enc : TypeId × Value → H} {W : World} {v : Value} {d : DataW H} {p : List MemPlace} (h : DataW.Trod enc Try.prog W 0 (fun _ => true) true 23 v d p) : ∃ m : M6, v = m.val ∧ m.Ok := by
  obtain ⟨fuel, hf⟩ := h
  obtain ⟨m, e, ok⟩ := open_six hf
  obtain ⟨cs, rfl, hc⟩ := agg_of (v := v) 6 (by omega) (by rw [e]; rfl)
  refine ⟨m, ?_, ok⟩
  have : cs.toList = m.vals := e
  rw [M6.val, ← Array.toArray_toList (xs := cs), this]
  rfl

theorem sixteen_list {cs : List Value} (h : cs.length = 16) : ∃ v0 v1 v2 v3 v4 v5 v6 v7 v8 v9 v10 v11 v12 v13 v14 v15, cs = [v0, v1, v2, v3, v4, v5, v6, v7, v8, v9, v10, v11, v12, v13, v14, v15] := by
  match cs, h with
  | [v0, v1, v2, v3, v4, v5, v6, v7, v8, v9, v10, v11, v12, v13, v14, v15], _ => exact ⟨v0, v1, v2, v3, v4, v5, v6, v7, v8, v9, v10, v11, v12, v13, v14, v15, rfl⟩

/-- a head that came in -/
theorem open_fr {H : Type} {enc : TypeId × Value → H} {W : World} {v : Value} {d : DataW H} {p : List MemPlace} (h : DataW.Trod enc Try.prog W 0 (fun _ => true) true 25 v d p) : ∃ f : Fr, v = f.val ∧ f.Ok := by
  obtain ⟨fuel, hf⟩ := h
  obtain ⟨xs, n, _, hx, hl0, hl, hi⟩ := DataW.trod_struct Try.underlying25 hf
  rw [cells_f] at hl0
  obtain ⟨cs, rfl, hc⟩ := agg_of (v := v) 16 (by omega) hl0
  replace hl : xs.length = 6 := hl
  have key : ∀ i (h : i < 6), xs[i]? = some (xs[i]'(by omega)) := fun i h => List.getElem?_eq_getElem (by omega)
  have g0 : DataW.trod enc Try.prog W 0 (fun _ => true) true n 23 ((cs.toList.drop 0).take (Try.prog.cellsOf 23)) = xs[0]? := hi 0 _ rfl
  rw [cells_m, key 0 (by omega)] at g0
  have g1 : DataW.trod enc Try.prog W 0 (fun _ => true) true n 23 ((cs.toList.drop 6).take (Try.prog.cellsOf 23)) = xs[1]? := hi 1 _ rfl
  rw [cells_m, key 1 (by omega)] at g1
  have g2 : DataW.trod enc Try.prog W 0 (fun _ => true) true n 4 ((cs.toList.drop 12).take (Try.prog.cellsOf 4)) = xs[2]? := hi 2 _ rfl
  rw [cells_b, key 2 (by omega)] at g2
  have g3 : DataW.trod enc Try.prog W 0 (fun _ => true) true n 3 ((cs.toList.drop 13).take (Try.prog.cellsOf 3)) = xs[3]? := hi 3 _ rfl
  rw [cells_i, key 3 (by omega)] at g3
  have g4 : DataW.trod enc Try.prog W 0 (fun _ => true) true n 3 ((cs.toList.drop 14).take (Try.prog.cellsOf 3)) = xs[4]? := hi 4 _ rfl
  rw [cells_i, key 4 (by omega)] at g4
  have g5 : DataW.trod enc Try.prog W 0 (fun _ => true) true n 3 ((cs.toList.drop 15).take (Try.prog.cellsOf 3)) = xs[5]? := hi 5 _ rfl
  rw [cells_i, key 5 (by omega)] at g5
  obtain ⟨v0, v1, v2, v3, v4, v5, v6, v7, v8, v9, v10, v11, v12, v13, v14, v15, e⟩ := sixteen_list (cs := cs.toList) hl0
  rw [e] at g0 g1 g2 g3 g4 g5
  obtain ⟨m, em, okm⟩ := open_six g0
  obtain ⟨q, eq, okq⟩ := open_six g1
  obtain ⟨t, et, _⟩ := DataW.trod_bool Try.underlying4 g2
  obtain ⟨a3, e3, _⟩ := DataW.trod_int Try.underlying3 g3
  obtain ⟨a4, e4, _⟩ := DataW.trod_int Try.underlying3 g4
  obtain ⟨a5, e5, _⟩ := DataW.trod_int Try.underlying3 g5
  simp [M6.vals] at em eq et e3 e4 e5
  obtain ⟨rfl, rfl, rfl, rfl, rfl, rfl⟩ := em
  obtain ⟨rfl, rfl, rfl, rfl, rfl, rfl⟩ := eq
  subst et; subst e3; subst e4; subst e5
  refine ⟨⟨m, q, t, a3, a4, a5⟩, ?_, okm, okq⟩
  rw [Fr.val, ← Array.toArray_toList (xs := cs), e]
  rfl

/-- a slice of bytes that came in -/
theorem open_bF {H : Type} {enc : TypeId × Value → H} {W : World} {base : Nat} {v : Value} {d : DataW H} {p : List MemPlace} {ts : List TypeId} {ds : List (DataW H)} (hok : Value.okWide Try.prog W .any base 26 v)
    (h : DataW.Trod enc Try.prog W 0 (fun _ => true) true 26 v d p) (hsz : (DataW.weightsEach Try.prog ts ds).all (· ≤ reachBytes) = true) {j : Nat} (ht : ts[j]? = some 26) (hd : ds[j]? = some d) :
    ∃ bs : List Int, IsF (fun _ => False) W v bs ∧ Bytes bs ∧ bs.length ≤ 140737488351232 := by
  obtain ⟨a0, len, cap, rfl⟩ := okWide_slice Try.underlying26 hok
  obtain ⟨fuel, hf⟩ := h
  simp only [Value.cells] at hf
  rcases open_ints Try.underlying26 Try.underlying5 cells_u8 hf with ⟨hcs, hx⟩ | ⟨a, len, cap, zs, hcs, _, hl, hm, hz, hx, hcell, hwz⟩
  · simp at hcs
    obtain ⟨rfl, rfl, rfl⟩ := hcs
    exact ⟨[], IsF.nil _ _, Bytes.nil, by simp⟩
  · simp at hcs
    obtain ⟨rfl, rfl, rfl⟩ := hcs
    have hzl : len ≤ zs.length := by rw [hz]; split <;> omega
    have hlz : (zs.take len).length = len := by simp; omega
    refine ⟨zs.take len, ⟨_, _, by rw [hlz], by omega, (fun e => by cases e), fun h0 => ?_⟩, fun b hb => byte_wf (hwz b (List.mem_of_mem_take hb)), ?_⟩
    · obtain ⟨b, off, rfl, hc⟩ := ints_at hcell (by omega)
      refine ⟨b, off, rfl, World.block_lt_of_cell? W _ (hc 0 (by omega)), id, fun j hj => ?_⟩
      rw [hc j (by omega), List.getElem?_take, if_pos (by omega)]
      simp [List.getD]
    · simp only [Prod.mk.injEq] at hx
      have := of_decide_eq_true (List.all_eq_true.1 hsz _ (DataW.weights_mem_each ht hd (((lits (H := H) .u8 (zs.take len)).length + (lits (H := H) .u8 (zs.drop len)).length) * Try.prog.bytesOf 5) (by rw [hx.1]; simp [DataW.weights, Try.underlying26])))
      rw [bytes_u8] at this
      simp only [reachBytes, lits, List.length_map] at this
      omega

end Go.Proofs.Ytipebfaappangaa
