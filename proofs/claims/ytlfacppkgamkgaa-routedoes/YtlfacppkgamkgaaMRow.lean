
/-
  How the arguments are opened: an address, a slice of ways, of numbers, of calls; what the bound on sizes gives.
-/
import Derived.Test.YtlfacppkgamkgaaM21
import Derived.Test.YtlfacppkgamkgaaMOp
import Derived.ProofKit
import Derived.OpenShut
import Derived.SizedLaws
import Derived.Deep.Slices
namespace Go.Proofs.Ytlfacppkgamkgaa
open Go.ChangeShapes Go.WideShapes Go.ChangeAt Go.RowKit Go.Deep

theorem ownK : ownKnob Try.prog.godebug = none := by kernel_rfl
theorem laidOut : laidOutB Try.prog = true := by kernel_rfl
theorem bytes_u8 : Try.prog.bytesOf 5 = 1 := by kernel_rfl
theorem cells_u8 : Try.prog.cellsOf 5 = 1 := by kernel_rfl
theorem cells_i : Try.prog.cellsOf 3 = 1 := by kernel_rfl
theorem cells_b : Try.prog.cellsOf 4 = 1 := by kernel_rfl

theorem int_wf {n : Int} (h : (Lit.int .i64 n).wf = true) : -9223372036854775808 ≤ n ∧ n ≤ 9223372036854775807 := by
  simpa [Lit.wf, IntKind.min, IntKind.max, IntKind.signed, IntKind.bits] using h
theorem byte_wf {n : Int} (h : (Lit.int .u8 n).wf = true) : 0 ≤ n ∧ n ≤ 255 := by
  simpa [Lit.wf, IntKind.min, IntKind.max, IntKind.signed, IntKind.bits] using h

theorem bytes_i : Try.prog.bytesOf 3 = 8 := by kernel_rfl
theorem bytes_w : Try.prog.bytesOf 33 = 24 := by kernel_rfl
theorem cells_w : Try.prog.cellsOf 33 = 10 := by kernel_rfl
theorem bytes_op : Try.prog.bytesOf 35 = 32 := by kernel_rfl
theorem cells_op : Try.prog.cellsOf 35 = 11 := by kernel_rfl
theorem cells_4 : Try.prog.cellsOf 31 = 4 := by kernel_rfl
theorem int_cell {H : Type} {enc : TypeId × Value → H} {W : World} {sp : Nat → Bool} {held : Bool} {fuel : Nat} {v : Value} {x : DataW H × List MemPlace} (hf : DataW.trod enc Try.prog W 0 sp held fuel 3 [v] = some x) : ∃ a, v = .int .i64 a ∧ -9223372036854775808 ≤ a ∧ a ≤ 9223372036854775807 := by
  obtain ⟨a, e, hx, hw⟩ := DataW.trod_int Try.underlying3 hf
  simp only [List.cons.injEq, and_true] at e
  exact ⟨a, e, int_wf hw⟩
theorem bool_cell {H : Type} {enc : TypeId × Value → H} {W : World} {sp : Nat → Bool} {held : Bool} {fuel : Nat} {v : Value} {x : DataW H × List MemPlace} (hf : DataW.trod enc Try.prog W 0 sp held fuel 4 [v] = some x) : ∃ a, v = .bool a := by
  obtain ⟨a, e, _⟩ := DataW.trod_bool Try.underlying4 hf
  simp only [List.cons.injEq, and_true] at e
  exact ⟨a, e⟩

section
variable {H : Type} {enc : TypeId × Value → H} {W : World} {sp : Nat → Bool} {held : Bool} {fuel : Nat} {x : DataW H × List MemPlace}
theorem byte_cell {cs : List Value} (hf : DataW.trod enc Try.prog W 0 sp held fuel 5 cs = some x) : ∃ a : Int, cs = [.int .u8 a] ∧ 0 ≤ a ∧ a ≤ 255 := by
  obtain ⟨a, e, _, hw⟩ := DataW.trod_int Try.underlying5 hf
  exact ⟨a, e, byte_wf hw⟩
theorem four_list {cs : List Value} (h : cs.length = 4) : ∃ v0 v1 v2 v3, cs = [v0, v1, v2, v3] := by
  match cs, h with
  | [v0, v1, v2, v3], _ => exact ⟨v0, v1, v2, v3, rfl⟩
theorem open_four {cs : List Value} (hf : DataW.trod enc Try.prog W 0 sp held fuel 31 cs = some x) : ∃ m : I4, cs = m.vals ∧ m.Ok := by
  obtain ⟨xs, n, _, rfl, hl, hx, hi⟩ := DataW.trod_array Try.underlying31 hf
  rw [cells_4] at hl
  obtain ⟨v0, v1, v2, v3, rfl⟩ := four_list hl
  rw [cells_u8] at hi
  have each : ∀ i, i < 4 → ∃ a : Int, ([v0, v1, v2, v3].drop (i * 1)).take 1 = [.int .u8 a] ∧ 0 ≤ a ∧ a ≤ 255 := fun i h => by
    obtain ⟨y, hy⟩ : ∃ y, xs[i]? = some y := ⟨_, List.getElem?_eq_getElem (by omega)⟩
    exact byte_cell ((hi i h).trans hy)
  obtain ⟨a0, e0, b0⟩ := each 0 (by omega)
  obtain ⟨a1, e1, b1⟩ := each 1 (by omega)
  obtain ⟨a2, e2, b2⟩ := each 2 (by omega)
  obtain ⟨a3, e3, b3⟩ := each 3 (by omega)
  simp at e0 e1 e2 e3
  subst e0; subst e1; subst e2; subst e3
  exact ⟨⟨a0, a1, a2, a3⟩, rfl, b0, b1, b2, b3⟩
theorem list10 {cs : List Value} (h : cs.length = 10) : ∃ v0 v1 v2 v3 v4 v5 v6 v7 v8 v9, cs = [v0, v1, v2, v3, v4, v5, v6, v7, v8, v9] := by
  match cs, h with
  | [v0, v1, v2, v3, v4, v5, v6, v7, v8, v9], _ => exact ⟨v0, v1, v2, v3, v4, v5, v6, v7, v8, v9, rfl⟩
theorem open_wy {cs : List Value} (hf : DataW.trod enc Try.prog W 0 sp held fuel 33 cs = some x) (hc : cs.length = 10) : ∃ a : Wy, cs = a.cells ∧ a.Ok := by
  obtain ⟨xs, n, _, hx, hl0, hl, hi⟩ := DataW.trod_struct Try.underlying33 hf
  replace hl : xs.length = 4 := hl
  have key : ∀ i (h : i < 4), xs[i]? = some (xs[i]'(by omega)) := fun i h => List.getElem?_eq_getElem (by omega)
  have g0 : DataW.trod enc Try.prog W 0 sp held n 31 ((cs.drop 0).take (Try.prog.cellsOf 31)) = xs[0]? := hi 0 _ rfl
  rw [cells_4, key 0 (by omega)] at g0
  have g1 : DataW.trod enc Try.prog W 0 sp held n 3 ((cs.drop 4).take (Try.prog.cellsOf 3)) = xs[1]? := hi 1 _ rfl
  rw [cells_i, key 1 (by omega)] at g1
  have g2 : DataW.trod enc Try.prog W 0 sp held n 31 ((cs.drop 5).take (Try.prog.cellsOf 31)) = xs[2]? := hi 2 _ rfl
  rw [cells_4, key 2 (by omega)] at g2
  have g3 : DataW.trod enc Try.prog W 0 sp held n 4 ((cs.drop 9).take (Try.prog.cellsOf 4)) = xs[3]? := hi 3 _ rfl
  rw [cells_b, key 3 (by omega)] at g3
  obtain ⟨v0, v1, v2, v3, v4, v5, v6, v7, v8, v9, rfl⟩ := list10 hc
  obtain ⟨si, e0, ok0⟩ := open_four g0
  obtain ⟨a1, e1, _⟩ := int_cell (v := v4) g1
  obtain ⟨di, e2, ok2⟩ := open_four g2
  obtain ⟨a3, e3⟩ := bool_cell (v := v9) g3
  simp [I4.vals] at e0 e2
  obtain ⟨rfl, rfl, rfl, rfl⟩ := e0
  obtain ⟨rfl, rfl, rfl, rfl⟩ := e2
  subst e1 e3
  exact ⟨⟨si, a1, di, a3⟩, rfl, ok0, ok2⟩
theorem open_op {cs : List Value} (hf : DataW.trod enc Try.prog W 0 sp held fuel 35 cs = some x) (hc : cs.length = 11) : ∃ o : OpR, cs = o.cells ∧ o.Ok := by
  obtain ⟨xs, n, _, hx, hl0, hl, hi⟩ := DataW.trod_struct Try.underlying35 hf
  replace hl : xs.length = 2 := hl
  have key : ∀ i (h : i < 2), xs[i]? = some (xs[i]'(by omega)) := fun i h => List.getElem?_eq_getElem (by omega)
  have g0 : DataW.trod enc Try.prog W 0 sp held n 3 ((cs.drop 0).take (Try.prog.cellsOf 3)) = xs[0]? := hi 0 _ rfl
  rw [cells_i, key 0 (by omega)] at g0
  have g1 : DataW.trod enc Try.prog W 0 sp held n 33 ((cs.drop 1).take (Try.prog.cellsOf 33)) = xs[1]? := hi 1 _ rfl
  rw [cells_w, key 1 (by omega)] at g1
  obtain ⟨v0, c1, rfl⟩ : ∃ v0 c1, cs = v0 :: c1 := by cases cs with | nil => simp at hc | cons a b => exact ⟨a, b, rfl⟩
  have hc1 : c1.length = 10 := by simpa using hc
  obtain ⟨k0, e0, w0⟩ := int_cell (v := v0) (by simpa using g0)
  have e1' : ((v0 :: c1).drop 1).take 10 = c1 := by simp [List.take_of_length_le, hc1]
  rw [e1'] at g1
  obtain ⟨y, e1, w1⟩ := open_wy g1 hc1
  refine ⟨⟨k0, y⟩, ?_, ⟨w1⟩⟩
  rw [e0, e1]; rfl
end
theorem agg_of {v : Value} (n : Nat) (hn : n ≠ 1) (h : v.cells.toList.length = n) : ∃ cs : Array Value, v = .agg cs ∧ v.cells = cs := by
  cases v with
  | agg cs => exact ⟨cs, rfl, rfl⟩
  | _ => simp [Value.cells] at h; omega

theorem open_ip {H : Type} {enc : TypeId × Value → H} {W : World} {v : Value} {d : DataW H} {p : List MemPlace} (h : DataW.Trod enc Try.prog W 0 (fun _ => true) true 31 v d p) : ∃ m : I4, v = m.val ∧ m.Ok := by
  obtain ⟨fuel, hf⟩ := h
  obtain ⟨m, e, ok⟩ := open_four hf
  obtain ⟨cs, rfl, hc⟩ := agg_of (v := v) 4 (by omega) (by rw [e]; rfl)
  refine ⟨m, ?_, ok⟩
  have : cs.toList = m.vals := e
  rw [I4.val_eq, ← Array.toArray_toList (xs := cs), this]
/-- a slice of ways that came in -/
theorem open_w {H : Type} {enc : TypeId × Value → H} {W : World} {base : Nat} {v : Value} {d : DataW H} {p : List MemPlace} {ts : List TypeId} {ds : List (DataW H)} (hok : Value.okWide Try.prog W .any base 27 v)
    (h : DataW.Trod enc Try.prog W 0 (fun _ => true) true 27 v d p) (hsz : (DataW.weightsEach Try.prog ts ds).all (· ≤ reachBytes) = true) {j : Nat} (ht : ts[j]? = some 27) (hd : ds[j]? = some d) :
    ∃ l : List Wy, IsW W.heap.size W v l ∧ l.length ≤ 5864062014634 := by
  obtain ⟨a0, len, cap, rfl⟩ := okWide_slice Try.underlying27 hok
  obtain ⟨fuel, hf⟩ := h
  have hall : ∀ k ∈ d.weights Try.prog 27, k ≤ 140737488351232 := fun k hk => by
    have h1 : k ≤ reachBytes := of_decide_eq_true (List.all_eq_true.1 hsz _ (DataW.weights_mem_each ht hd k hk))
    simp only [reachBytes] at h1
    exact h1
  simp only [Value.cells] at hf
  rcases open_slice Try.underlying27 hf with ⟨hcs, hx⟩ | ⟨a, len', cap', m, n, D, Pl, hcs, _, hl, hm, hmm, hx, hel⟩
  · simp at hcs
    obtain ⟨rfl, rfl, rfl⟩ := hcs
    exact ⟨[], ⟨none, 0, rfl, fun h => by simp at h, fun o ho => by cases ho⟩, by simp⟩
  · simp at hcs
    obtain ⟨rfl, rfl, rfl⟩ := hcs
    simp only [if_true] at hmm
    subst hmm
    simp only [Prod.mk.injEq] at hx
    obtain ⟨rfl, _⟩ := hx
    have hlen : len ≤ 5864062014634 := by
      have := hall ((((List.range len).map D).length + ((List.range (m - len)).map fun j => D (len + j)).length) * Try.prog.bytesOf 33) (by simp [DataW.weights, Try.underlying27])
      rw [bytes_w] at this
      simp at this
      omega
    have each : ∀ i, i < len → ∃ o : Wy, (∀ j v, o.cells[j]? = some v → W.cell? (a.add (i * 10 + j)) = some v) ∧ o.Ok := by
      intro i hi
      obtain ⟨cs', h1, h2⟩ := hel i (by omega)
      rw [cells_w] at h1
      obtain ⟨_, hlen5, hcell⟩ := World.cells?_some h1
      obtain ⟨o, rfl, hw⟩ := open_wy h2 hlen5
      refine ⟨o, fun j v hv => ?_, hw⟩
      have hj := (List.getElem?_eq_some_iff.1 hv).1
      have := hcell j (by rw [hlen5] at hj; exact hj)
      rw [add_add] at this
      rw [this]
      rw [← hv]
    obtain ⟨f, hf⟩ := choose_lt each
    refine ⟨(List.range len).map f, ⟨some a, m, by simp, fun h0 => ?_, fun o ho => ?_⟩, by simpa using hlen⟩
    · have hpos : 0 < len := by simpa using h0
      have c0 := (hf 0 hpos).1 0 _ rfl
      obtain ⟨gb, off, sp⟩ := a
      have hsp : sp = none := by
        cases sp with
        | none => rfl
        | some q =>
          exfalso
          unfold World.cell? at c0
          split at c0
          · simp [Addr.add] at c0
          · cases c0
      subst hsp
      have hlt : gb < W.heap.size := by
        have := World.block_lt_of_cell? W _ c0
        simpa [Addr.add] using this
      refine ⟨gb, off, rfl, hlt, fun i o hi => ?_⟩
      have hil : i < len := by have := (List.getElem?_eq_some_iff.1 hi).1; simpa using this
      have ho : f i = o := by simpa [hil] using hi
      subst ho
      intro j v hv
      have := (hf i hil).1 j v hv
      simpa [Addr.add_lit, Nat.add_assoc] using this
    · obtain ⟨i, hi, rfl⟩ := List.mem_map.1 ho
      exact (hf i (by simpa using hi)).2

/-- a slice of calls that came in -/
theorem open_o {H : Type} {enc : TypeId × Value → H} {W : World} {base : Nat} {v : Value} {d : DataW H} {p : List MemPlace} {ts : List TypeId} {ds : List (DataW H)} (hok : Value.okWide Try.prog W .any base 22 v)
    (h : DataW.Trod enc Try.prog W 0 (fun _ => true) true 22 v d p) (hsz : (DataW.weightsEach Try.prog ts ds).all (· ≤ reachBytes) = true) {j : Nat} (ht : ts[j]? = some 22) (hd : ds[j]? = some d) :
    ∃ l : List OpR, IsO W.heap.size W v l ∧ l.length ≤ 4398046510976 := by
  obtain ⟨a0, len, cap, rfl⟩ := okWide_slice Try.underlying22 hok
  obtain ⟨fuel, hf⟩ := h
  have hall : ∀ k ∈ d.weights Try.prog 22, k ≤ 140737488351232 := fun k hk => by
    have h1 : k ≤ reachBytes := of_decide_eq_true (List.all_eq_true.1 hsz _ (DataW.weights_mem_each ht hd k hk))
    simp only [reachBytes] at h1
    exact h1
  simp only [Value.cells] at hf
  rcases open_slice Try.underlying22 hf with ⟨hcs, hx⟩ | ⟨a, len', cap', m, n, D, Pl, hcs, _, hl, hm, hmm, hx, hel⟩
  · simp at hcs
    obtain ⟨rfl, rfl, rfl⟩ := hcs
    exact ⟨[], ⟨none, 0, rfl, fun h => by simp at h, fun o ho => by cases ho⟩, by simp⟩
  · simp at hcs
    obtain ⟨rfl, rfl, rfl⟩ := hcs
    simp only [if_true] at hmm
    subst hmm
    simp only [Prod.mk.injEq] at hx
    obtain ⟨rfl, _⟩ := hx
    have hlen : len ≤ 4398046510976 := by
      have := hall ((((List.range len).map D).length + ((List.range (m - len)).map fun j => D (len + j)).length) * Try.prog.bytesOf 35) (by simp [DataW.weights, Try.underlying22])
      rw [bytes_op] at this
      simp at this
      omega
    have each : ∀ i, i < len → ∃ o : OpR, (∀ j v, o.cells[j]? = some v → W.cell? (a.add (i * 11 + j)) = some v) ∧ o.Ok := by
      intro i hi
      obtain ⟨cs', h1, h2⟩ := hel i (by omega)
      rw [cells_op] at h1
      obtain ⟨_, hlen5, hcell⟩ := World.cells?_some h1
      obtain ⟨o, rfl, hw⟩ := open_op h2 hlen5
      refine ⟨o, fun j v hv => ?_, hw⟩
      have hj := (List.getElem?_eq_some_iff.1 hv).1
      have := hcell j (by rw [hlen5] at hj; exact hj)
      rw [add_add] at this
      rw [this]
      rw [← hv]
    obtain ⟨f, hf⟩ := choose_lt each
    refine ⟨(List.range len).map f, ⟨some a, m, by simp, fun h0 => ?_, fun o ho => ?_⟩, by simpa using hlen⟩
    · have hpos : 0 < len := by simpa using h0
      have c0 := (hf 0 hpos).1 0 _ rfl
      obtain ⟨gb, off, sp⟩ := a
      have hsp : sp = none := by
        cases sp with
        | none => rfl
        | some q =>
          exfalso
          unfold World.cell? at c0
          split at c0
          · simp [Addr.add] at c0
          · cases c0
      subst hsp
      have hlt : gb < W.heap.size := by
        have := World.block_lt_of_cell? W _ c0
        simpa [Addr.add] using this
      refine ⟨gb, off, rfl, hlt, fun i o hi => ?_⟩
      have hil : i < len := by have := (List.getElem?_eq_some_iff.1 hi).1; simpa using this
      have ho : f i = o := by simpa [hil] using hi
      subst ho
      intro j v hv
      have := (hf i hil).1 j v hv
      simpa [Addr.add_lit, Nat.add_assoc] using this
    · obtain ⟨i, hi, rfl⟩ := List.mem_map.1 ho
      exact (hf i (by simpa using hi)).2

/-- a slice of numbers that came in -/
theorem open_n {H : Type} {enc : TypeId × Value → H} {W : World} {base : Nat} {v : Value} {d : DataW H} {p : List MemPlace} {ts : List TypeId} {ds : List (DataW H)} (hok : Value.okWide Try.prog W .any base 43 v)
    (h : DataW.Trod enc Try.prog W 0 (fun _ => true) true 43 v d p) (hsz : (DataW.weightsEach Try.prog ts ds).all (· ≤ reachBytes) = true) {j : Nat} (ht : ts[j]? = some 43) (hd : ds[j]? = some d) :
    ∃ l : List Int, IsI W.heap.size W v l ∧ l.length ≤ 140737488351232 := by
  obtain ⟨a0, len, cap, rfl⟩ := okWide_slice Try.underlying43 hok
  obtain ⟨fuel, hf⟩ := h
  have hall : ∀ k ∈ d.weights Try.prog 43, k ≤ 140737488351232 := fun k hk => by
    have h1 : k ≤ reachBytes := of_decide_eq_true (List.all_eq_true.1 hsz _ (DataW.weights_mem_each ht hd k hk))
    simp only [reachBytes] at h1
    exact h1
  simp only [Value.cells] at hf
  rcases open_slice Try.underlying43 hf with ⟨hcs, hx⟩ | ⟨a, len', cap', m, n, D, Pl, hcs, _, hl, hm, hmm, hx, hel⟩
  · simp at hcs
    obtain ⟨rfl, rfl, rfl⟩ := hcs
    exact ⟨[], ⟨none, 0, rfl, fun h => by simp at h⟩, by simp⟩
  · simp at hcs
    obtain ⟨rfl, rfl, rfl⟩ := hcs
    simp only [if_true] at hmm
    subst hmm
    simp only [Prod.mk.injEq] at hx
    obtain ⟨rfl, _⟩ := hx
    have hlen : len ≤ 140737488351232 := by
      have := hall ((((List.range len).map D).length + ((List.range (m - len)).map fun j => D (len + j)).length) * Try.prog.bytesOf 3) (by simp [DataW.weights, Try.underlying43])
      rw [bytes_i] at this
      simp at this
      omega
    have each : ∀ i, i < len → ∃ x : Int, W.cell? (a.add i) = some (.int .i64 x) := by
      intro i hi
      obtain ⟨cs', h1, h2⟩ := hel i (by omega)
      rw [cells_i] at h1
      obtain ⟨_, hlen5, hcell⟩ := World.cells?_some h1
      obtain ⟨v0, rfl⟩ : ∃ v0, cs' = [v0] := by
        match cs', hlen5 with
        | [v0], _ => exact ⟨v0, rfl⟩
      obtain ⟨x, rfl, _⟩ := int_cell h2
      exact ⟨x, by have := hcell 0 (by omega); rw [add_add] at this; simpa using this⟩
    obtain ⟨f, hf⟩ := choose_lt each
    refine ⟨(List.range len).map f, ⟨some a, m, by simp, fun h0 => ?_⟩, by simpa using hlen⟩
    have hpos : 0 < len := by simpa using h0
    have c0 := hf 0 hpos
    obtain ⟨gb, off, sp⟩ := a
    have hsp : sp = none := by
      cases sp with
      | none => rfl
      | some q =>
        exfalso
        unfold World.cell? at c0
        split at c0
        · simp [Addr.add] at c0
        · cases c0
    subst hsp
    have hlt : gb < W.heap.size := by
      have := World.block_lt_of_cell? W _ c0
      simpa [Addr.add] using this
    refine ⟨gb, off, rfl, hlt, fun i o hi => ?_⟩
    have hil : i < len := by have := (List.getElem?_eq_some_iff.1 hi).1; simpa using this
    have ho : f i = o := by simpa [hil] using hi
    subst ho
    have := hf i hil
    simpa [Addr.add_lit, Nat.add_assoc] using this
end Go.Proofs.Ytlfacppkgamkgaa
