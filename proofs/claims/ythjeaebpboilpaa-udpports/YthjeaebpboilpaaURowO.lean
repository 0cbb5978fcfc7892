
/-
  How a slice of calls of a table of ports is opened.
-/
import Derived.Test.YthjeaebpboilpaaU13
import Derived.Test.YthjeaebpboilpaaURow
namespace Go.Proofs.Ythjeaebpboilpaa
open Go.ChangeShapes Go.WideShapes Go.ChangeAt Go.RowKit Go.Deep

instance : Inhabited OpU := ⟨⟨0, 0, 0⟩⟩
theorem bytes_op : Try.prog.bytesOf 42 = 24 := by kernel_rfl
theorem cells_op : Try.prog.cellsOf 42 = 3 := by kernel_rfl
set_option maxRecDepth 100000 in
theorem open_op {H : Type} {enc : TypeId × Value → H} {W : World} {sp : Nat → Bool} {held : Bool} {fuel : Nat} {cs : List Value} {x : DataW H × List MemPlace} (h : DataW.trod enc Try.prog W 0 sp held fuel 42 cs = some x) (hc : cs.length = 3) :
    ∃ o : OpU, cs = [.int .i64 o.kind, .int .i64 o.who, .int .i64 o.port] := by
  obtain ⟨xs, n, _, rfl, _, hl, hf⟩ := DataW.trod_struct Try.underlying42 h
  match xs, hl, cs, hc with
  | [y0, y1, y2], _, [v0, v1, v2], _ =>
    have g0 := hf 0 _ rfl
    have g1 := hf 1 _ rfl
    have g2 := hf 2 _ rfl
    simp [cells_i] at g0 g1 g2
    obtain ⟨a0, rfl⟩ := int_cell g0
    obtain ⟨a1, rfl⟩ := int_cell g1
    obtain ⟨a2, rfl⟩ := int_cell g2
    exact ⟨⟨a0, a1, a2⟩, rfl⟩
set_option maxRecDepth 100000 in
/-- a slice of calls that came in -/
theorem open_o {H : Type} {enc : TypeId × Value → H} {W : World} {base : Nat} {v : Value} {d : DataW H} {p : List MemPlace} {ts : List TypeId} {ds : List (DataW H)} (hok : Value.okWide Try.prog W .any base 34 v)
    (h : DataW.Trod enc Try.prog W 0 (fun _ => true) true 34 v d p) (hsz : (DataW.weightsEach Try.prog ts ds).all (· ≤ reachBytes) = true) {j : Nat} (ht : ts[j]? = some 34) (hd : ds[j]? = some d) :
    ∃ l : List OpU, IsO W.heap.size W v l ∧ l.length ≤ 8796093021952 := by
  obtain ⟨a0, len, cap, rfl⟩ := okWide_slice Try.underlying34 hok
  obtain ⟨fuel, hf⟩ := h
  have hall : ∀ k ∈ d.weights Try.prog 34, k ≤ 140737488351232 := fun k hk => by
    have h1 : k ≤ reachBytes := of_decide_eq_true (List.all_eq_true.1 hsz _ (DataW.weights_mem_each ht hd k hk))
    simp only [reachBytes] at h1
    exact h1
  simp only [Value.cells] at hf
  rcases open_slice Try.underlying34 hf with ⟨hcs, hx⟩ | ⟨a, len', cap', m, n, D, Pl, hcs, _, hl, hm, hmm, hx, hel⟩
  · simp at hcs
    obtain ⟨rfl, rfl, rfl⟩ := hcs
    exact ⟨[], ⟨none, 0, rfl, fun h => by simp at h⟩, by simp⟩
  · simp at hcs
    obtain ⟨rfl, rfl, rfl⟩ := hcs
    simp only [if_true] at hmm
    subst hmm
    simp only [Prod.mk.injEq] at hx
    obtain ⟨rfl, _⟩ := hx
    have hlen : len ≤ 8796093021952 := by
      have := hall ((((List.range len).map D).length + ((List.range (m - len)).map fun j => D (len + j)).length) * Try.prog.bytesOf 42) (by simp [DataW.weights, Try.underlying34])
      rw [bytes_op] at this
      simp at this
      omega
    have each : ∀ i, i < len → ∃ o : OpU, W.cell? (a.add (i * 3)) = some (.int .i64 o.kind) ∧ W.cell? (a.add (i * 3 + 1)) = some (.int .i64 o.who) ∧ W.cell? (a.add (i * 3 + 2)) = some (.int .i64 o.port) := by
      intro i hi
      obtain ⟨cs', h1, h2⟩ := hel i (by omega)
      rw [cells_op] at h1
      obtain ⟨_, hlen5, hcell⟩ := World.cells?_some h1
      obtain ⟨o, rfl⟩ := open_op h2 hlen5
      refine ⟨o, ?_, ?_, ?_⟩
      · have := hcell 0 (by omega); rw [add_add] at this; exact this
      · have := hcell 1 (by omega); rw [add_add] at this; exact this
      · have := hcell 2 (by omega); rw [add_add] at this; exact this
    obtain ⟨f, hf⟩ := choose_lt each
    refine ⟨(List.range len).map f, ⟨some a, m, by simp, fun h0 => ?_⟩, by simpa using hlen⟩
    have hpos : 0 < len := by simpa using h0
    obtain ⟨c0, _⟩ := hf 0 hpos
    obtain ⟨gb, off, sp⟩ := a
    have hsp : sp = none := by
      cases sp with
      | none => rfl
      | some q =>
        exfalso
        unfold World.cell? at c0
        split at c0
        · simp [Addr.add] at c0
        · cases c0
    subst hsp
    have hlt : gb < W.heap.size := by
      have := World.block_lt_of_cell? W _ c0
      simpa [Addr.add] using this
    refine ⟨gb, off, rfl, hlt, fun i o hi => ?_⟩
    have hil : i < len := by have := (List.getElem?_eq_some_iff.1 hi).1; simpa using this
    have ho : f i = o := by simpa [hil] using hi
    subst ho
    have k := hf i hil
    rw [Addr.add_lit, Addr.add_lit, Addr.add_lit] at k
    intro j v hv
    rcases j with _ | _ | _ | j
    · cases hv; exact k.1
    · cases hv; exact k.2.1
    · cases hv; exact k.2.2
    · cases hv
end Go.Proofs.Ythjeaebpboilpaa
