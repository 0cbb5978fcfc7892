
/-
  The chapter's examples: awake.
-/
import Derived.Test.YtgempelfamjabaaU5
import Derived.Lib.SmallJoins
namespace Go.Proofs.Ytgempelfamjabaa
open Go.RowKit Go.Shelf

theorem newI (w : World) (X : List Value) (hX : X.length = 4) : ∃ w0 w1, w0 = w.alloc (.cells zI.vals.toArray 23) ∧ w1 = w0.setCells w.heap.size 0 X ∧ CellsAt w0 w.heap.size 0 zI.vals ∧ (∀ y, w0.frozen? ⟨w.heap.size, y, none⟩ = false) ∧ CellsAt w1 w.heap.size 0 X ∧ Below w.heap.size w w1 ∧ w.heap.size < w1.heap.size := by
  refine ⟨_, _, rfl, rfl, CellsAt.new w _ _, fun y => frozen_new w _ _ _, (CellsAt.new w _ _).stored (by rw [hX]; rfl), (Below.refl _ w).alloc (Nat.le_refl _) _ |>.trans ((But.cells w.heap.size X 0 _).below (by simp) (fun g hg e => by have e : g = w.heap.size := e; omega)), ?_⟩
  have h := (But.cells w.heap.size X 0 (w.alloc (.cells zI.vals.toArray 23))).size
  rw [World.size_alloc] at h
  omega
def ipU1 : I4 := ⟨10, 0, 0, 1⟩
def ipU2 : I4 := ⟨10, 0, 0, 2⟩
def ipU3 : I4 := ⟨10, 0, 0, 3⟩
theorem ipU1_ok : ipU1.Ok := ⟨⟨by decide, by decide⟩, ⟨by decide, by decide⟩, ⟨by decide, by decide⟩, ⟨by decide, by decide⟩⟩
theorem ipU2_ok : ipU2.Ok := ⟨⟨by decide, by decide⟩, ⟨by decide, by decide⟩, ⟨by decide, by decide⟩, ⟨by decide, by decide⟩⟩
theorem ipU3_ok : ipU3.Ok := ⟨⟨by decide, by decide⟩, ⟨by decide, by decide⟩, ⟨by decide, by decide⟩, ⟨by decide, by decide⟩⟩
def xA : List Int := [0, 5, 0, 7, 0, 9, 138, 205, 97]
theorem xA_e : ueE 5 7 1 = 0 := by decide +kernel
theorem xA_b : ueB ipU1 ipU2 5 7 [97] = xA := by decide +kernel
theorem xA_by : Bytes xA := by intro x hx; simp [xA] at hx; omega
theorem xA_d : udE ipU1 ipU2 xA = 0 := by decide +kernel
theorem xC_d : udE ipU1 ipU3 xA = 5 := by decide +kernel
theorem xA_f : udF ipU1 ipU2 xA = 5 := by decide +kernel
theorem xA_t : udT ipU1 ipU2 xA = 7 := by decide +kernel
theorem xA_dd : udD ipU1 ipU2 xA = [97] := by decide +kernel
theorem bd1 {r err : Int} {L : List Po} {ck : Nat} {nx : Int} (h : Bnd 49152 [] 0 1 7 r err L ck nx) : r = 7 ∧ err = 0 ∧ L = [⟨7, 1, 0⟩] ∧ ck = 1 ∧ nx = 49152 := by
  rcases h with h | h | h | h | h
  · rcases h.1 with h1 | h1
    · exact absurd h1.2 (by decide)
    · omega
  · omega
  · omega
  · exact absurd h.2.2.2.1 (by decide)
  · obtain ⟨_, _, _, _, h1, h2, h3, h4, h5⟩ := h
    exact ⟨h1, h2, h3, h4, h5⟩
theorem bd2 {r err : Int} {L : List Po} {ck : Nat} {nx : Int} (h : Bnd 49152 [⟨7, 1, 0⟩] 1 2 7 r err L ck nx) : r = 0 ∧ err = 130 ∧ L = [⟨7, 1, 0⟩] ∧ ck = 1 ∧ nx = 49152 := by
  rcases h with h | h | h | h | h
  · rcases h.1 with h1 | h1
    · exact absurd h1.2 (by decide)
    · omega
  · omega
  · omega
  · obtain ⟨_, _, _, _, h1, h2, h3, h4, h5⟩ := h
    exact ⟨h1, h2, h3, h4, h5⟩
  · exact absurd h.2.2.2.1 (by decide)
theorem bd3 {r err : Int} {L : List Po} {ck : Nat} {nx : Int} (h : Bnd 49152 [⟨7, 1, 0⟩] 1 2 0 r err L ck nx) : r = 49152 ∧ err = 0 := by
  have hn : ∀ p, FF 49152 [⟨7, 1, 0⟩] p → p = 49152 := fun p hp => by
    have h0 : otk 49152 [⟨7, 1, 0⟩] = false := by decide
    rcases hp with hp | hp | hp
    · have := hp.2 49152 (by omega) (by omega)
      rw [h0] at this
      cases this
    · by_cases e : p = 49152
      · exact e
      · have := hp.2.2.2 49152 (by omega) (by have := hp.1; omega)
        rw [h0] at this
        cases this
    · have := hp.1
      have := hp.2.1
      omega
  rcases h with h | h | h | h | h
  · rcases h.1 with h1 | h1
    · exact absurd rfl h1.1
    · omega
  · have := hn 0 h.2.2.2.1
    omega
  · exact ⟨hn r h.2.2.2.1, h.2.2.2.2.1⟩
  · exact absurd rfl h.1
  · exact absurd rfl h.1
end Go.Proofs.Ytgempelfamjabaa
