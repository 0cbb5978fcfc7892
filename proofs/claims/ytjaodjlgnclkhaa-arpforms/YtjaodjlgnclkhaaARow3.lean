
/-
  How the arguments are opened: a request by itself, a slice of bytes.
-/
import Derived.Test.YtjaodjlgnclkhaaARow2
import Derived.Test.YtjaodjlgnclkhaaAMem
namespace Go.Proofs.Ytjaodjlgnclkhaa
open Go.ChangeShapes Go.WideShapes Go.ChangeAt Go.RowKit Go.Deep

/-- a request that came in -/
theorem open_arp {H : Type} {enc : TypeId × Value → H} {W : World} {v : Value} {d : DataW H} {p : List MemPlace} (h : DataW.Trod enc Try.prog W 0 (fun _ => true) true 27 v d p) : ∃ a : Ar, v = a.val ∧ a.Ok := by
  obtain ⟨fuel, hf⟩ := h
  obtain ⟨a, e, ok⟩ := open_ar hf
  obtain ⟨cs, rfl, hc⟩ := agg_of (v := v) 21 (by omega) (by rw [e]; rfl)
  refine ⟨a, ?_, ok⟩
  have : cs.toList = a.vals := e
  rw [Ar.val, ← Array.toArray_toList (xs := cs), this]

/-- a slice of bytes that came in -/
theorem open_bF {H : Type} {enc : TypeId × Value → H} {W : World} {base : Nat} {v : Value} {d : DataW H} {p : List MemPlace} {ts : List TypeId} {ds : List (DataW H)} (hok : Value.okWide Try.prog W .any base 28 v)
    (h : DataW.Trod enc Try.prog W 0 (fun _ => true) true 28 v d p) (hsz : (DataW.weightsEach Try.prog ts ds).all (· ≤ reachBytes) = true) {j : Nat} (ht : ts[j]? = some 28) (hd : ds[j]? = some d) :
    ∃ bs : List Int, IsF (fun _ => False) W v bs ∧ Bytes bs ∧ bs.length ≤ 140737488351232 := by
  obtain ⟨a0, len, cap, rfl⟩ := okWide_slice Try.underlying28 hok
  obtain ⟨fuel, hf⟩ := h
  simp only [Value.cells] at hf
  rcases open_ints Try.underlying28 Try.underlying5 cells_u8 hf with ⟨hcs, hx⟩ | ⟨a, len, cap, zs, hcs, _, hl, hm, hz, hx, hcell, hwz⟩
  · simp at hcs
    obtain ⟨rfl, rfl, rfl⟩ := hcs
    exact ⟨[], IsF.nil _ _, Bytes.nil, by simp⟩
  · simp at hcs
    obtain ⟨rfl, rfl, rfl⟩ := hcs
    have hzl : len ≤ zs.length := by rw [hz]; split <;> omega
    have hlz : (zs.take len).length = len := by simp; omega
    refine ⟨zs.take len, ⟨_, _, by rw [hlz], by omega, (fun e => by cases e), fun h0 => ?_⟩, fun b hb => byte_wf (hwz b (List.mem_of_mem_take hb)), ?_⟩
    · obtain ⟨b, off, rfl, hc⟩ := ints_at hcell (by omega)
      refine ⟨b, off, rfl, World.block_lt_of_cell? W _ (hc 0 (by omega)), id, fun j hj => ?_⟩
      rw [hc j (by omega), List.getElem?_take, if_pos (by omega)]
      simp [List.getD]
    · simp only [Prod.mk.injEq] at hx
      have := of_decide_eq_true (List.all_eq_true.1 hsz _ (DataW.weights_mem_each ht hd (((lits (H := H) .u8 (zs.take len)).length + (lits (H := H) .u8 (zs.drop len)).length) * Try.prog.bytesOf 5) (by rw [hx.1]; simp [DataW.weights, Try.underlying28])))
      rw [bytes_u8] at this
      simp only [reachBytes, lits, List.length_map] at this
      omega

end Go.Proofs.Ytjaodjlgnclkhaa
