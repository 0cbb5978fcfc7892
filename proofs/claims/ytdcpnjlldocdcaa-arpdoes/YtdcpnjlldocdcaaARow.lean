
/-
  How the arguments are opened: an address.
-/
import Derived.Test.YtdcpnjlldocdcaaA0
import Derived.ProofKit
import Derived.OpenShut
import Derived.SizedLaws
import Derived.Deep.Slices
namespace Go.Proofs.Ytdcpnjlldocdcaa
open Go.ChangeShapes Go.WideShapes Go.ChangeAt Go.RowKit Go.Deep

theorem ownK : ownKnob Try.prog.godebug = none := by kernel_rfl
theorem laidOut : laidOutB Try.prog = true := by kernel_rfl
theorem bytes_u8 : Try.prog.bytesOf 5 = 1 := by kernel_rfl
theorem cells_u8 : Try.prog.cellsOf 5 = 1 := by kernel_rfl
theorem cells_i : Try.prog.cellsOf 3 = 1 := by kernel_rfl
theorem cells_b : Try.prog.cellsOf 4 = 1 := by kernel_rfl
theorem cells_m : Try.prog.cellsOf 23 = 6 := by kernel_rfl

theorem int_wf {n : Int} (h : (Lit.int .i64 n).wf = true) : -9223372036854775808 ≤ n ∧ n ≤ 9223372036854775807 := by
  simpa [Lit.wf, IntKind.min, IntKind.max, IntKind.signed, IntKind.bits] using h
theorem byte_wf {n : Int} (h : (Lit.int .u8 n).wf = true) : 0 ≤ n ∧ n ≤ 255 := by
  simpa [Lit.wf, IntKind.min, IntKind.max, IntKind.signed, IntKind.bits] using h

/-- bytes, and numbers of 64 bits -/
def M6.Ok (m : M6) : Prop := (0 ≤ m.a ∧ m.a ≤ 255) ∧ (0 ≤ m.b ∧ m.b ≤ 255) ∧ (0 ≤ m.c ∧ m.c ≤ 255) ∧ (0 ≤ m.d ∧ m.d ≤ 255) ∧ (0 ≤ m.e ∧ m.e ≤ 255) ∧ (0 ≤ m.f ∧ m.f ≤ 255)

section
variable {H : Type} {enc : TypeId × Value → H} {W : World} {sp : Nat → Bool} {held : Bool} {fuel : Nat} {x : DataW H × List MemPlace}

theorem byte_cell {cs : List Value} (hf : DataW.trod enc Try.prog W 0 sp held fuel 5 cs = some x) : ∃ a : Int, cs = [.int .u8 a] ∧ 0 ≤ a ∧ a ≤ 255 := by
  obtain ⟨a, e, _, hw⟩ := DataW.trod_int Try.underlying5 hf
  exact ⟨a, e, byte_wf hw⟩
theorem six_list {cs : List Value} (h : cs.length = 6) : ∃ v0 v1 v2 v3 v4 v5, cs = [v0, v1, v2, v3, v4, v5] := by
  match cs, h with
  | [v0, v1, v2, v3, v4, v5], _ => exact ⟨v0, v1, v2, v3, v4, v5, rfl⟩
theorem open_six {cs : List Value} (hf : DataW.trod enc Try.prog W 0 sp held fuel 23 cs = some x) : ∃ m : M6, cs = m.vals ∧ m.Ok := by
  obtain ⟨xs, n, _, rfl, hl, hx, hi⟩ := DataW.trod_array Try.underlying23 hf
  rw [cells_m] at hl
  obtain ⟨v0, v1, v2, v3, v4, v5, rfl⟩ := six_list hl
  rw [cells_u8] at hi
  have key : ∀ i, i < 6 → ∃ y, xs[i]? = some y := fun i h => ⟨_, List.getElem?_eq_getElem (by omega)⟩
  have each : ∀ i, i < 6 → ∃ a : Int, ([v0, v1, v2, v3, v4, v5].drop (i * 1)).take 1 = [.int .u8 a] ∧ 0 ≤ a ∧ a ≤ 255 := fun i h => by
    obtain ⟨y, hy⟩ := key i h
    exact byte_cell ((hi i h).trans hy)
  obtain ⟨a0, e0, b0⟩ := each 0 (by omega)
  obtain ⟨a1, e1, b1⟩ := each 1 (by omega)
  obtain ⟨a2, e2, b2⟩ := each 2 (by omega)
  obtain ⟨a3, e3, b3⟩ := each 3 (by omega)
  obtain ⟨a4, e4, b4⟩ := each 4 (by omega)
  obtain ⟨a5, e5, b5⟩ := each 5 (by omega)
  simp at e0 e1 e2 e3 e4 e5
  subst e0; subst e1; subst e2; subst e3; subst e4; subst e5
  exact ⟨⟨a0, a1, a2, a3, a4, a5⟩, rfl, b0, b1, b2, b3, b4, b5⟩
end

theorem agg_of {v : Value} (n : Nat) (hn : n ≠ 1) (h : v.cells.toList.length = n) : ∃ cs : Array Value, v = .agg cs ∧ v.cells = cs := by
  cases v with
  | agg cs => exact ⟨cs, rfl, rfl⟩
  | _ => simp [Value.cells] at h; omega

/-- an address that came in -/
theorem open_mac {H : Type} {enc : TypeId × Value → H} {W : World} {v : Value} {d : DataW H} {p : List MemPlace} (h : DataW.Trod enc Try.prog W 0 (fun _ => true) true 23 v d p) : ∃ m : M6, v = m.val ∧ m.Ok := by
  obtain ⟨fuel, hf⟩ := h
  obtain ⟨m, e, ok⟩ := open_six hf
  obtain ⟨cs, rfl, hc⟩ := agg_of (v := v) 6 (by omega) (by rw [e]; rfl)
  refine ⟨m, ?_, ok⟩
  have : cs.toList = m.vals := e
  rw [M6.val, ← Array.toArray_toList (xs := cs), this]
  rfl

end Go.Proofs.Ytdcpnjlldocdcaa
