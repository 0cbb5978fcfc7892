
/-
  FragApart: the walk over the arguments as they come in, and how a slice of flags is opened.
-/
import Derived.Test.YtgempelfamjabaaF47
import Derived.Test.YtgempelfamjabaaFRow
namespace Go.Proofs.Ytgempelfamjabaa
open Go.ChangeShapes Go.WideShapes Go.ChangeAt Go.RowKit Go.Deep

theorem cells_t1 : Try.prog.cellsOf 4 = 1 := by kernel_rfl
/-- a packet's head that came in, with its options as bytes -/
theorem open_pkY {H : Type} {enc : TypeId × Value → H} {W : World} {v : Value} {d : DataW H} {p : List MemPlace} {ts : List TypeId} {ds : List (DataW H)} (h : DataW.Trod enc Try.prog W 0 (fun _ => true) true 26 v d p)
    (hsz : (DataW.weightsEach Try.prog ts ds).all (· ≤ reachBytes) = true) {j : Nat} (ht : ts[j]? = some 26) (hd : ds[j]? = some d) : ∃ (a : Pk) (ov : Value), v = .agg (a.cells ov).toArray ∧ IsB W.heap.size W ov a.opts ∧ (Bytes a.opts ∧ a.opts.length ≤ 140737488351232) := by
  obtain ⟨fuel, hf⟩ := h
  obtain ⟨a, ov, e, hb, ok1, ok2, ok3, hw⟩ := open_pc hf
  obtain ⟨cs, rfl, hc⟩ := agg_of (v := v) 16 (by omega) (by rw [e]; rfl)
  have e2 : cs.toList = a.cells ov := e
  refine ⟨a, ov, by rw [← e2, Array.toArray_toList], hb, ok3, ?_⟩
  rcases hw with h | ⟨k, hk, hle⟩
  · rw [h]; simp
  · have h1 : k ≤ reachBytes := of_decide_eq_true (List.all_eq_true.1 hsz _ (DataW.weights_mem_each ht hd k hk))
    simp only [reachBytes] at h1
    omega
set_option maxRecDepth 100000 in
/-- a slice of flags that came in -/
theorem open_t {H : Type} {enc : TypeId × Value → H} {W : World} {base : Nat} {v : Value} {d : DataW H} {p : List MemPlace} {ts : List TypeId} {ds : List (DataW H)} (hok : Value.okWide Try.prog W .any base 56 v)
    (h : DataW.Trod enc Try.prog W 0 (fun _ => true) true 56 v d p) (_ : (DataW.weightsEach Try.prog ts ds).all (· ≤ reachBytes) = true) {j : Nat} (_ : ts[j]? = some 56) (_ : ds[j]? = some d) :
    ∃ T : List Bool, IsT W v T ∧ T.length ≤ 9223372036854775807 := by
  obtain ⟨a0, len0, cap0, rfl⟩ := okWide_slice Try.underlying56 hok
  obtain ⟨fuel, hf⟩ := h
  rcases open_slice1 Try.underlying56 cells_t1 hf with ⟨hcs, hx⟩ | ⟨a, len, cap, m, n, V, D, Pl, hcs, _, hl, hm, hmm, hx, hel⟩
  · injection hcs with hcs
    injection hcs with h1 h2 h3
    subst h1; subst h2; subst h3
    exact ⟨[], ⟨none, 0, rfl, fun h0 => by simp at h0⟩, by simp⟩
  · injection hcs with hcs
    injection hcs with h1 h2 h3
    subst h1; subst h2; subst h3
    simp only [if_true] at hmm
    subst hmm
    have each : ∀ i, i < len0 → ∃ t : Bool, W.cell? (a.add i) = some (.bool t) := fun i hi => by
      obtain ⟨h1, h2⟩ := hel i (by omega)
      obtain ⟨t, ht⟩ := bool_cell h2
      exact ⟨t, by rw [h1, ht]⟩
    obtain ⟨f, hfe⟩ := choose_lt each
    refine ⟨(List.range len0).map f, ⟨some a, m, by simp, fun h0 => ?_⟩, by simp only [maxLen] at hm; simp; omega⟩
    have hpos : 0 < len0 := by simpa using h0
    have c0 := hfe 0 hpos
    obtain ⟨gb, off, sp⟩ := a
    have hsp : sp = none := by
      cases sp with
      | none => rfl
      | some q =>
        exfalso
        unfold World.cell? at c0
        split at c0
        · simp [Addr.add] at c0
        · cases c0
    subst hsp
    have hlt : gb < W.heap.size := by
      have := World.block_lt_of_cell? W _ c0
      simpa [Addr.add] using this
    refine ⟨gb, off, rfl, hlt, fun i t hi => ?_⟩
    have hil : i < len0 := by have := (List.getElem?_eq_some_iff.1 hi).1; simpa using this
    have ho : f i = t := by simpa [hil] using hi
    subst ho
    have := hfe i hil
    simpa [Addr.add_lit] using this
theorem apart_row (p : Pk) (pv dv : Value) (D : List Int) (o : Pk) (ov ev : Value) (E : List Int) (tv : Value) (T : List Bool) (w : World) (hp : IsB w.heap.size w pv p.opts) (kp : Bytes p.opts ∧ p.opts.length ≤ 140737488351232)
    (hd : IsB w.heap.size w dv D) (_ : Bytes D) (hdl : D.length ≤ 140737488351232) (ho : IsB w.heap.size w ov o.opts) (ko : Bytes o.opts ∧ o.opts.length ≤ 140737488351232) (he : IsB w.heap.size w ev E) (_ : Bytes E) (hel : E.length ≤ 140737488351232)
    (ht : IsT w tv T) (htl : T.length ≤ 9223372036854775807) :
    Calls Try.prog 7 #[.agg (p.cells pv).toArray, dv, .agg (o.cells ov).toArray, ev, tv] w fun e w' => e = .returned (.bool true) ∧ Below w.heap.size w w' :=
  apart_walk p pv dv D o ov ev E tv T w (hp.cn (Nat.le_refl _)) (by omega) kp.1 (hd.cn (Nat.le_refl _)) (by omega) (ho.cn (Nat.le_refl _)) (by omega) ko.1 (he.cn (Nat.le_refl _)) (by omega) ht (by omega)
end Go.Proofs.Ytgempelfamjabaa
