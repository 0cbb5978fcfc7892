
/-
  How the arguments are opened: a slice of calls, a slice of bytes; what the bound on sizes gives.
-/
import Derived.Test.YtjkfjijnjkpbbaaS25
import Derived.ProofKit
import Derived.OpenShut
import Derived.SizedLaws
import Derived.Deep.Slices
namespace Go.Proofs.Ytjkfjijnjkpbbaa
open Go.ChangeShapes Go.WideShapes Go.ChangeAt Go.RowKit Go.Deep

theorem ownK : ownKnob Try.prog.godebug = none := by kernel_rfl
theorem laidOut : laidOutB Try.prog = true := by kernel_rfl
theorem bytes_u8 : Try.prog.bytesOf 5 = 1 := by kernel_rfl
theorem cells_u8 : Try.prog.cellsOf 5 = 1 := by kernel_rfl
theorem bytes_op : Try.prog.bytesOf 29 = 48 := by kernel_rfl
theorem cells_op : Try.prog.cellsOf 29 = 4 := by kernel_rfl
theorem cells_i : Try.prog.cellsOf 3 = 1 := by kernel_rfl
theorem cells_b : Try.prog.cellsOf 4 = 1 := by kernel_rfl
theorem cells_s : Try.prog.cellsOf 27 = 1 := by kernel_rfl

set_option maxRecDepth 100000 in
/-- a slice of bytes that came in, by its one cell -/
theorem open_b1 {H : Type} {enc : TypeId × Value → H} {W : World} {sp : Nat → Bool} {held : Bool} {fuel : Nat} {v : Value} {x : DataW H × List MemPlace} (hf : DataW.trod enc Try.prog W 0 sp held fuel 27 [v] = some x) :
    ∃ bs : List Int, IsF (fun g => W.heap.size ≤ g) W v bs ∧ (∀ a m c, v = .slice a m c → c ≤ maxLen) ∧ ((x.1 = .nil ∧ bs = []) ∨ ∃ e s, x.1 = .slice e s ∧ e.length = bs.length) := by
  rcases open_ints Try.underlying27 Try.underlying5 cells_u8 hf with ⟨hcs, hx⟩ | ⟨a, len, cap, zs, hcs, _, hl, hm, hz, hx, hcell, hwz⟩
  · simp only [List.cons.injEq, and_true] at hcs
    subst hcs
    exact ⟨[], IsF.nil _ _, (fun a m c e => by simp only [Value.slice.injEq] at e; rw [← e.2.2]; exact Nat.zero_le _), .inl ⟨by rw [hx], rfl⟩⟩
  · simp only [List.cons.injEq, and_true] at hcs
    subst hcs
    have hzl : len ≤ zs.length := by rw [hz]; split <;> omega
    have hlz : (zs.take len).length = len := by simp; omega
    refine ⟨zs.take len, ⟨_, _, by rw [hlz], by omega, (fun e => by cases e), fun h0 => ?_⟩, (fun a m c e => by simp only [Value.slice.injEq] at e; rw [← e.2.2]; exact hm), .inr ⟨_, _, by rw [hx], by simp [lits]⟩⟩
    obtain ⟨b, off, rfl, hc⟩ := ints_at hcell (by omega)
    refine ⟨b, off, rfl, World.block_lt_of_cell? W _ (hc 0 (by omega)), ?_, fun j hj => ?_⟩
    · have := World.block_lt_of_cell? W _ (hc 0 (by omega))
      simpa using this
    · rw [hc j (by omega), List.getElem?_take, if_pos (by omega)]
      simp [List.getD]

instance : Inhabited OpV := ⟨⟨0, 0, undef, [], false⟩⟩

set_option maxRecDepth 100000 in
theorem int_cell {H : Type} {enc : TypeId × Value → H} {W : World} {sp : Nat → Bool} {held : Bool} {fuel : Nat} {v : Value} {x : DataW H × List MemPlace} (hf : DataW.trod enc Try.prog W 0 sp held fuel 3 [v] = some x) : ∃ a, v = .int .i64 a := by
  obtain ⟨a, e, _⟩ := DataW.trod_int Try.underlying3 hf
  simp only [List.cons.injEq, and_true] at e
  exact ⟨a, e⟩
set_option maxRecDepth 100000 in
theorem bool_cell {H : Type} {enc : TypeId × Value → H} {W : World} {sp : Nat → Bool} {held : Bool} {fuel : Nat} {v : Value} {x : DataW H × List MemPlace} (hf : DataW.trod enc Try.prog W 0 sp held fuel 4 [v] = some x) : ∃ a, v = .bool a := by
  obtain ⟨a, e, _⟩ := DataW.trod_bool Try.underlying4 hf
  simp only [List.cons.injEq, and_true] at e
  exact ⟨a, e⟩

set_option maxRecDepth 100000 in
/-- one call of the list -/
theorem open_op {H : Type} {enc : TypeId × Value → H} {W : World} {sp : Nat → Bool} {held : Bool} {fuel : Nat} {cs : List Value} {x : DataW H × List MemPlace} (h : DataW.trod enc Try.prog W 0 sp held fuel 29 cs = some x) (hc : cs.length = 4) :
    ∃ o : OpV, cs = [.int .i64 o.kind, .int .i64 o.k, o.bv, .bool o.yes] ∧ IsF (fun g => W.heap.size ≤ g) W o.bv o.bs ∧ (∀ a m c, o.bv = .slice a m c → c ≤ maxLen) ∧ (o.bs = [] ∨ ∃ k ∈ x.1.weights Try.prog 29, o.bs.length ≤ k) := by
  obtain ⟨xs, n, _, rfl, _, hl, hf⟩ := DataW.trod_struct Try.underlying29 h
  match xs, hl, cs, hc with
  | [y0, y1, y2, y3], _, [v0, v1, v2, v3], _ =>
    have g0 := hf 0 _ rfl
    have g1 := hf 1 _ rfl
    have g2 := hf 2 _ rfl
    have g3 := hf 3 _ rfl
    simp [cells_i, cells_b, cells_s] at g0 g1 g2 g3
    obtain ⟨a0, rfl⟩ := int_cell g0
    obtain ⟨a1, rfl⟩ := int_cell g1
    obtain ⟨a4, rfl⟩ := bool_cell g3
    obtain ⟨bs, hb, hcp, hw⟩ := open_b1 g2
    refine ⟨⟨a0, a1, v2, bs, a4⟩, rfl, hb, hcp, ?_⟩
    rcases hw with ⟨_, rfl⟩ | ⟨e, s, he, hel⟩
    · exact .inl rfl
    · refine .inr ⟨(e.length + s.length) * Try.prog.bytesOf 5, ?_, by rw [bytes_u8]; show bs.length ≤ _; omega⟩
      have : ((e.length + s.length) * Try.prog.bytesOf 5) ∈ y2.1.weights Try.prog 27 := by rw [he]; simp [DataW.weights, Try.underlying27]
      have k := DataW.weights_mem_each (P := Try.prog) (ts := [3, 3, 27, 4]) (ds := [y0.1, y1.1, y2.1, y3.1]) (j := 2) rfl rfl _ this
      simp only [List.map_cons, List.map_nil, DataW.weights, Try.underlying29]
      exact k

set_option maxRecDepth 100000 in
theorem weights_all_mem {H : Type} {e : TypeId} : ∀ {l : List (DataW H)} {d : DataW H}, d ∈ l → ∀ k ∈ d.weights Try.prog e, k ∈ DataW.weightsAll Try.prog e l
  | x :: l, d, h, k, hk => by
    simp only [DataW.weightsAll, List.mem_append]
    rcases List.mem_cons.1 h with rfl | h
    · exact .inl hk
    · exact .inr (weights_all_mem h k hk)

set_option maxRecDepth 100000 in
/-- a slice of calls that came in -/
theorem open_o {H : Type} {enc : TypeId × Value → H} {W : World} {base : Nat} {v : Value} {d : DataW H} {p : List MemPlace} {ts : List TypeId} {ds : List (DataW H)} (hok : Value.okWide Try.prog W .any base 22 v)
    (h : DataW.Trod enc Try.prog W 0 (fun _ => true) true 22 v d p) (hsz : (DataW.weightsEach Try.prog ts ds).all (· ≤ reachBytes) = true) {j : Nat} (ht : ts[j]? = some 22) (hd : ds[j]? = some d) :
    ∃ l : List OpV, IsO W.heap.size W v l ∧ l.length ≤ 2932031007318 := by
  obtain ⟨a0, len, cap, rfl⟩ := okWide_slice Try.underlying22 hok
  obtain ⟨fuel, hf⟩ := h
  have hall : ∀ k ∈ d.weights Try.prog 22, k ≤ 140737488351232 := fun k hk => by
    have h1 : k ≤ reachBytes := of_decide_eq_true (List.all_eq_true.1 hsz _ (DataW.weights_mem_each ht hd k hk))
    simp only [reachBytes] at h1
    exact h1
  simp only [Value.cells] at hf
  rcases open_slice Try.underlying22 hf with ⟨hcs, hx⟩ | ⟨a, len', cap', m, n, D, Pl, hcs, _, hl, hm, hmm, hx, hel⟩
  · simp at hcs
    obtain ⟨rfl, rfl, rfl⟩ := hcs
    exact ⟨[], ⟨none, 0, rfl, fun h => by simp at h, fun o ho => by cases ho⟩, by simp⟩
  · simp at hcs
    obtain ⟨rfl, rfl, rfl⟩ := hcs
    simp only [if_true] at hmm
    subst hmm
    simp only [Prod.mk.injEq] at hx
    obtain ⟨rfl, _⟩ := hx
    have hlen : len ≤ 2932031007318 := by
      have := hall ((((List.range len).map D).length + ((List.range (m - len)).map fun j => D (len + j)).length) * Try.prog.bytesOf 29) (by simp [DataW.weights, Try.underlying22])
      rw [bytes_op] at this
      simp at this
      omega
    have each : ∀ i, i < len → ∃ o : OpV, (W.cell? (a.add (i * 4)) = some (.int .i64 o.kind) ∧ W.cell? (a.add (i * 4 + 1)) = some (.int .i64 o.k) ∧ W.cell? (a.add (i * 4 + 2)) = some o.bv ∧ W.cell? (a.add (i * 4 + 3)) = some (.bool o.yes)) ∧
        IsF (fun g => W.heap.size ≤ g) W o.bv o.bs ∧ o.bs.length ≤ 140737488351232 ∧ ∀ a m c, o.bv = .slice a m c → c ≤ maxLen := by
      intro i hi
      obtain ⟨cs', h1, h2⟩ := hel i (by omega)
      rw [cells_op] at h1
      obtain ⟨_, hlen5, hcell⟩ := World.cells?_some h1
      obtain ⟨o, rfl, hF, hcp, hw⟩ := open_op h2 hlen5
      refine ⟨o, ⟨?_, ?_, ?_, ?_⟩, hF, ?_, hcp⟩
      · have := hcell 0 (by omega); rw [add_add] at this; exact this
      · have := hcell 1 (by omega); rw [add_add] at this; exact this
      · have := hcell 2 (by omega); rw [add_add] at this; exact this
      · have := hcell 3 (by omega); rw [add_add] at this; exact this
      · rcases hw with h0 | ⟨k, hk, hkl⟩
        · rw [h0]; simp
        · have hk2 := hall k (by
            simp only [DataW.weights, Try.underlying22, List.mem_cons, List.mem_append]
            exact .inr (.inl (weights_all_mem (List.mem_map.2 ⟨i, by simpa using hi, rfl⟩) k hk)))
          omega
    obtain ⟨f, hf⟩ := choose_lt each
    refine ⟨(List.range len).map f, ⟨some a, m, by simp, fun h0 => ?_, fun o ho => ?_⟩, by simpa using hlen⟩
    · have hpos : 0 < len := by simpa using h0
      obtain ⟨⟨c0, _⟩, _⟩ := hf 0 hpos
      obtain ⟨gb, off, sp⟩ := a
      have hsp : sp = none := by
        cases sp with
        | none => rfl
        | some q =>
          exfalso
          unfold World.cell? at c0
          split at c0
          · simp [Addr.add] at c0
          · cases c0
      subst hsp
      have hlt : gb < W.heap.size := by
        have := World.block_lt_of_cell? W _ c0
        simpa [Addr.add] using this
      refine ⟨gb, off, rfl, hlt, fun i o hi => ?_⟩
      have hil : i < len := by have := (List.getElem?_eq_some_iff.1 hi).1; simpa using this
      have ho : f i = o := by simpa [hil] using hi
      subst ho
      have := (hf i hil).1
      simpa [Addr.add_lit, Nat.add_assoc] using this
    · obtain ⟨i, hi, rfl⟩ := List.mem_map.1 ho
      exact (hf i (by simpa using hi)).2

set_option maxRecDepth 100000 in
/-- a slice of bytes that came in -/
theorem open_bF {H : Type} {enc : TypeId × Value → H} {W : World} {base : Nat} {v : Value} {d : DataW H} {p : List MemPlace} {ts : List TypeId} {ds : List (DataW H)} (hok : Value.okWide Try.prog W .any base 27 v)
    (h : DataW.Trod enc Try.prog W 0 (fun _ => true) true 27 v d p) (hsz : (DataW.weightsEach Try.prog ts ds).all (· ≤ reachBytes) = true) {j : Nat} (ht : ts[j]? = some 27) (hd : ds[j]? = some d) :
    ∃ bs : List Int, IsF (fun g => W.heap.size ≤ g) W v bs ∧ bs.length ≤ 140737488351232 := by
  obtain ⟨a0, len, cap, rfl⟩ := okWide_slice Try.underlying27 hok
  obtain ⟨fuel, hf⟩ := h
  simp only [Value.cells] at hf
  obtain ⟨bs, hb, _, hw⟩ := open_b1 hf
  refine ⟨bs, hb, ?_⟩
  rcases hw with ⟨_, rfl⟩ | ⟨e, s, he, hel⟩
  · simp
  · have := of_decide_eq_true (List.all_eq_true.1 hsz _ (DataW.weights_mem_each ht hd ((e.length + s.length) * Try.prog.bytesOf 5) (by rw [show d = .slice e s from he]; simp [DataW.weights, Try.underlying27])))
    rw [bytes_u8] at this
    simp only [reachBytes] at this
    omega

end Go.Proofs.Ytjkfjijnjkpbbaa
