
/-
  How the arguments are opened: a slice of calls, a slice of numbers; what the bound on sizes gives.
-/
import Derived.Test.YtglbobobifejmaaQOp
import Derived.ProofKit
import Derived.OpenShut
import Derived.SizedLaws
import Derived.Deep.Slices
namespace Go.Proofs.Ytglbobobifejmaa
open Go.ChangeShapes Go.WideShapes Go.ChangeAt Go.RowKit Go.Deep

theorem ownK : ownKnob Try.prog.godebug = none := by kernel_rfl
theorem laidOut : laidOutB Try.prog = true := by kernel_rfl
theorem bytes_i : Try.prog.bytesOf 3 = 8 := by kernel_rfl
theorem bytes_op : Try.prog.bytesOf 36 = 32 := by kernel_rfl
theorem cells_op : Try.prog.cellsOf 36 = 4 := by kernel_rfl
theorem cells_i : Try.prog.cellsOf 3 = 1 := by kernel_rfl
theorem cells_l : Try.prog.cellsOf 4 = 1 := by kernel_rfl

theorem int_wf {n : Int} (h : (Lit.int .i64 n).wf = true) : -9223372036854775808 ≤ n ∧ n ≤ 9223372036854775807 := by
  simpa [Lit.wf, IntKind.min, IntKind.max, IntKind.signed, IntKind.bits] using h
theorem int_cell {H : Type} {enc : TypeId × Value → H} {W : World} {sp : Nat → Bool} {held : Bool} {fuel : Nat} {v : Value} {x : DataW H × List MemPlace} (hf : DataW.trod enc Try.prog W 0 sp held fuel 3 [v] = some x) : ∃ a, v = .int .i64 a ∧ -9223372036854775808 ≤ a ∧ a ≤ 9223372036854775807 := by
  obtain ⟨a, e, hx, hw⟩ := DataW.trod_int Try.underlying3 hf
  simp only [List.cons.injEq, and_true] at e
  exact ⟨a, e, int_wf hw⟩
theorem bool_cell {H : Type} {enc : TypeId × Value → H} {W : World} {sp : Nat → Bool} {held : Bool} {fuel : Nat} {v : Value} {x : DataW H × List MemPlace} (hf : DataW.trod enc Try.prog W 0 sp held fuel 4 [v] = some x) : ∃ a, v = .bool a := by
  obtain ⟨a, e, _⟩ := DataW.trod_bool Try.underlying4 hf
  simp only [List.cons.injEq, and_true] at e
  exact ⟨a, e⟩
/-- one call of the list -/
theorem open_op {H : Type} {enc : TypeId × Value → H} {W : World} {sp : Nat → Bool} {held : Bool} {fuel : Nat} {cs : List Value} {x : DataW H × List MemPlace} (h : DataW.trod enc Try.prog W 0 sp held fuel 36 cs = some x) (hc : cs.length = 4) :
    ∃ o : OpW, cs = [.int .i64 o.kind, .int .i64 o.id, .int .i64 o.at_, .bool o.near] ∧ (-9223372036854775808 ≤ o.kind ∧ o.kind ≤ 9223372036854775807) ∧ (-9223372036854775808 ≤ o.id ∧ o.id ≤ 9223372036854775807) ∧ (-9223372036854775808 ≤ o.at_ ∧ o.at_ ≤ 9223372036854775807) := by
  obtain ⟨xs, n, _, rfl, _, hl, hf⟩ := DataW.trod_struct Try.underlying36 h
  match xs, hl, cs, hc with
  | [y0, y1, y2, y3], _, [v0, v1, v2, v3], _ =>
    have g0 := hf 0 _ rfl
    have g1 := hf 1 _ rfl
    have g2 := hf 2 _ rfl
    have g3 := hf 3 _ rfl
    simp [cells_i, cells_l] at g0 g1 g2 g3
    obtain ⟨a0, rfl, w0⟩ := int_cell g0
    obtain ⟨a1, rfl, w1⟩ := int_cell g1
    obtain ⟨a2, rfl, w2⟩ := int_cell g2
    obtain ⟨a3, rfl⟩ := bool_cell g3
    exact ⟨⟨a0, a1, a2, a3⟩, rfl, w0, w1, w2⟩

/-- a slice of calls that came in -/
theorem open_o {H : Type} {enc : TypeId × Value → H} {W : World} {base : Nat} {v : Value} {d : DataW H} {p : List MemPlace} {ts : List TypeId} {ds : List (DataW H)} (hok : Value.okWide Try.prog W .any base 22 v)
    (h : DataW.Trod enc Try.prog W 0 (fun _ => true) true 22 v d p) (hsz : (DataW.weightsEach Try.prog ts ds).all (· ≤ reachBytes) = true) {j : Nat} (ht : ts[j]? = some 22) (hd : ds[j]? = some d) :
    ∃ l : List OpW, IsO W.heap.size W v l ∧ l.length ≤ 4398046510976 := by
  obtain ⟨a0, len, cap, rfl⟩ := okWide_slice Try.underlying22 hok
  obtain ⟨fuel, hf⟩ := h
  have hall : ∀ k ∈ d.weights Try.prog 22, k ≤ 140737488351232 := fun k hk => by
    have h1 : k ≤ reachBytes := of_decide_eq_true (List.all_eq_true.1 hsz _ (DataW.weights_mem_each ht hd k hk))
    simp only [reachBytes] at h1
    exact h1
  simp only [Value.cells] at hf
  rcases open_slice Try.underlying22 hf with ⟨hcs, hx⟩ | ⟨a, len', cap', m, n, D, Pl, hcs, _, hl, hm, hmm, hx, hel⟩
  · simp at hcs
    obtain ⟨rfl, rfl, rfl⟩ := hcs
    exact ⟨[], ⟨none, 0, rfl, fun h => by simp at h, fun o ho => by cases ho⟩, by simp⟩
  · simp at hcs
    obtain ⟨rfl, rfl, rfl⟩ := hcs
    simp only [if_true] at hmm
    subst hmm
    simp only [Prod.mk.injEq] at hx
    obtain ⟨rfl, _⟩ := hx
    have hlen : len ≤ 4398046510976 := by
      have := hall ((((List.range len).map D).length + ((List.range (m - len)).map fun j => D (len + j)).length) * Try.prog.bytesOf 36) (by simp [DataW.weights, Try.underlying22])
      rw [bytes_op] at this
      simp at this
      omega
    have each : ∀ i, i < len → ∃ o : OpW, (W.cell? (a.add (i * 4)) = some (.int .i64 o.kind) ∧ W.cell? (a.add (i * 4 + 1)) = some (.int .i64 o.id) ∧ W.cell? (a.add (i * 4 + 2)) = some (.int .i64 o.at_) ∧ W.cell? (a.add (i * 4 + 3)) = some (.bool o.near)) ∧
        ((-9223372036854775808 ≤ o.kind ∧ o.kind ≤ 9223372036854775807) ∧ (-9223372036854775808 ≤ o.id ∧ o.id ≤ 9223372036854775807) ∧ (-9223372036854775808 ≤ o.at_ ∧ o.at_ ≤ 9223372036854775807)) := by
      intro i hi
      obtain ⟨cs', h1, h2⟩ := hel i (by omega)
      rw [cells_op] at h1
      obtain ⟨_, hlen5, hcell⟩ := World.cells?_some h1
      obtain ⟨o, rfl, hw⟩ := open_op h2 hlen5
      refine ⟨o, ⟨?_, ?_, ?_, ?_⟩, hw⟩
      · have := hcell 0 (by omega); rw [add_add] at this; exact this
      · have := hcell 1 (by omega); rw [add_add] at this; exact this
      · have := hcell 2 (by omega); rw [add_add] at this; exact this
      · have := hcell 3 (by omega); rw [add_add] at this; exact this
    obtain ⟨f, hf⟩ := choose_lt each
    refine ⟨(List.range len).map f, ⟨some a, m, by simp, fun h0 => ?_, fun o ho => ?_⟩, by simpa using hlen⟩
    · have hpos : 0 < len := by simpa using h0
      obtain ⟨⟨c0, _⟩, _⟩ := hf 0 hpos
      obtain ⟨gb, off, sp⟩ := a
      have hsp : sp = none := by
        cases sp with
        | none => rfl
        | some q =>
          exfalso
          unfold World.cell? at c0
          split at c0
          · simp [Addr.add] at c0
          · cases c0
      subst hsp
      have hlt : gb < W.heap.size := by
        have := World.block_lt_of_cell? W _ c0
        simpa [Addr.add] using this
      refine ⟨gb, off, rfl, hlt, fun i o hi => ?_⟩
      have hil : i < len := by have := (List.getElem?_eq_some_iff.1 hi).1; simpa using this
      have ho : f i = o := by simpa [hil] using hi
      subst ho
      have := (hf i hil).1
      simpa [Addr.add_lit, Nat.add_assoc] using this
    · obtain ⟨i, hi, rfl⟩ := List.mem_map.1 ho
      exact (hf i (by simpa using hi)).2

/-- a slice of numbers that came in -/
theorem open_n {H : Type} {enc : TypeId × Value → H} {W : World} {base : Nat} {v : Value} {d : DataW H} {p : List MemPlace} {ts : List TypeId} {ds : List (DataW H)} (hok : Value.okWide Try.prog W .any base 52 v)
    (h : DataW.Trod enc Try.prog W 0 (fun _ => true) true 52 v d p) (hsz : (DataW.weightsEach Try.prog ts ds).all (· ≤ reachBytes) = true) {j : Nat} (ht : ts[j]? = some 52) (hd : ds[j]? = some d) :
    ∃ l : List Int, IsI W.heap.size W v l ∧ l.length ≤ 140737488351232 := by
  obtain ⟨a0, len, cap, rfl⟩ := okWide_slice Try.underlying52 hok
  obtain ⟨fuel, hf⟩ := h
  have hall : ∀ k ∈ d.weights Try.prog 52, k ≤ 140737488351232 := fun k hk => by
    have h1 : k ≤ reachBytes := of_decide_eq_true (List.all_eq_true.1 hsz _ (DataW.weights_mem_each ht hd k hk))
    simp only [reachBytes] at h1
    exact h1
  simp only [Value.cells] at hf
  rcases open_slice Try.underlying52 hf with ⟨hcs, hx⟩ | ⟨a, len', cap', m, n, D, Pl, hcs, _, hl, hm, hmm, hx, hel⟩
  · simp at hcs
    obtain ⟨rfl, rfl, rfl⟩ := hcs
    exact ⟨[], ⟨none, 0, rfl, fun h => by simp at h⟩, by simp⟩
  · simp at hcs
    obtain ⟨rfl, rfl, rfl⟩ := hcs
    simp only [if_true] at hmm
    subst hmm
    simp only [Prod.mk.injEq] at hx
    obtain ⟨rfl, _⟩ := hx
    have hlen : len ≤ 140737488351232 := by
      have := hall ((((List.range len).map D).length + ((List.range (m - len)).map fun j => D (len + j)).length) * Try.prog.bytesOf 3) (by simp [DataW.weights, Try.underlying52])
      rw [bytes_i] at this
      simp at this
      omega
    have each : ∀ i, i < len → ∃ x : Int, W.cell? (a.add i) = some (.int .i64 x) := by
      intro i hi
      obtain ⟨cs', h1, h2⟩ := hel i (by omega)
      rw [cells_i] at h1
      obtain ⟨_, hlen5, hcell⟩ := World.cells?_some h1
      obtain ⟨v0, rfl⟩ : ∃ v0, cs' = [v0] := by
        match cs', hlen5 with
        | [v0], _ => exact ⟨v0, rfl⟩
      obtain ⟨x, rfl, _⟩ := int_cell h2
      exact ⟨x, by have := hcell 0 (by omega); rw [add_add] at this; simpa using this⟩
    obtain ⟨f, hf⟩ := choose_lt each
    refine ⟨(List.range len).map f, ⟨some a, m, by simp, fun h0 => ?_⟩, by simpa using hlen⟩
    have hpos : 0 < len := by simpa using h0
    have c0 := hf 0 hpos
    obtain ⟨gb, off, sp⟩ := a
    have hsp : sp = none := by
      cases sp with
      | none => rfl
      | some q =>
        exfalso
        unfold World.cell? at c0
        split at c0
        · simp [Addr.add] at c0
        · cases c0
    subst hsp
    have hlt : gb < W.heap.size := by
      have := World.block_lt_of_cell? W _ c0
      simpa [Addr.add] using this
    refine ⟨gb, off, rfl, hlt, fun i o hi => ?_⟩
    have hil : i < len := by have := (List.getElem?_eq_some_iff.1 hi).1; simpa using this
    have ho : f i = o := by simpa [hil] using hi
    subst ho
    have := hf i hil
    simpa [Addr.add_lit, Nat.add_assoc] using this
end Go.Proofs.Ytglbobobifejmaa
