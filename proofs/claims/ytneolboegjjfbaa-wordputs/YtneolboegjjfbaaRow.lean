/-
  How an argument that is a slice of bytes is opened: what a law's walk is told of it, and what the two bounds on sizes give.
-/
import Derived.Test.YtneolboegjjfbaaRows
import Derived.Test.YtneolboegjjfbaaMem
import Derived.ProofKit
import Derived.OpenShut
import Derived.SizedLaws
namespace Go.Proofs.Ytneolboegjjfbaa
open Go.ChangeShapes Go.WideShapes Go.ChangeAt Go.RowKit

theorem own : ownKnob Try.prog.godebug = none := by kernel_rfl
theorem laidOut : laidOutB Try.prog = true := by kernel_rfl
theorem bytes_u8 : Try.prog.bytesOf 5 = 1 := by kernel_rfl
theorem cells_u8 : Try.prog.cellsOf 5 = 1 := by kernel_rfl

theorem byte_wf {n : Int} (h : (Lit.int .u8 n).wf = true) : 0 ≤ n ∧ n ≤ 255 := by
  simpa [Lit.wf, IntKind.min, IntKind.max, IntKind.signed, IntKind.bits] using h
theorem int_wf {n : Int} (h : (Lit.int .i64 n).wf = true) : -9223372036854775808 ≤ n ∧ n ≤ 9223372036854775807 := by
  simpa [Lit.wf, IntKind.min, IntKind.max, IntKind.signed, IntKind.bits] using h
theorem u32_wf {n : Int} (h : (Lit.int .u32 n).wf = true) : 0 ≤ n ∧ n < 4294967296 := by
  have : 0 ≤ n ∧ n ≤ 4294967295 := by simpa [Lit.wf, IntKind.min, IntKind.max, IntKind.signed, IntKind.bits] using h
  omega

/-- a slice of bytes that came in -/
theorem open_b {H : Type} {enc : TypeId × Value → H} {W : World} {base : Nat} {v : Value} {d : DataW H} {p : List MemPlace} (hok : Value.okWide Try.prog W .any base 22 v)
    (h : DataW.Trod enc Try.prog W 0 (fun _ => true) true 22 v d p) :
    ∃ bs : List Int, IsB W.heap.size W v bs ∧ Bytes bs ∧ ((d = .nil ∧ bs = []) ∨ ∃ e s, d = .slice e s ∧ e.length = bs.length) := by
  obtain ⟨a0, len, cap, rfl⟩ := okWide_slice Try.underlying22 hok
  obtain ⟨fuel, hf⟩ := h
  rcases open_ints Try.underlying22 Try.underlying5 cells_u8 hf with ⟨hcs, hx⟩ | ⟨x, l, c, zs, hcs, _, hl, hm, hz, hx, hcell, hwz⟩
  · simp [Value.cells] at hcs
    obtain ⟨rfl, rfl, rfl⟩ := hcs
    simp only [Prod.mk.injEq] at hx
    exact ⟨[], IsB.nil _ _, Bytes.nil, .inl ⟨hx.1, rfl⟩⟩
  · simp [Value.cells] at hcs
    obtain ⟨rfl, rfl, rfl⟩ := hcs
    simp only [Prod.mk.injEq] at hx
    simp only [if_true] at hz
    have hlz : (zs.take len).length = len := by simp; omega
    refine ⟨zs.take len, ⟨_, _, by rw [hlz], by omega, (fun e => by cases e), fun h0 => ?_⟩, fun n hn => byte_wf (hwz n (List.mem_of_mem_take hn)), .inr ⟨_, _, hx.1, by simp [lits]⟩⟩
    obtain ⟨b, off, rfl, hc⟩ := ints_at hcell (by omega)
    refine ⟨b, off, rfl, World.block_lt_of_cell? W _ (hc 0 (by omega)), fun j hj => ?_⟩
    rw [hc j (by omega), List.getElem?_take, if_pos (by omega)]
    simp [List.getD]

/-- what the second form's bound gives -/
theorem bulk_le {H : Type} {d : DataW H} {bs : List Int} (h : (d = .nil ∧ bs = []) ∨ ∃ e s, d = .slice e s ∧ e.length = bs.length) : bs.length ≤ Rows.uptoBulk d := by
  have one : ∀ d : DataW H, 1 ≤ Rows.uptoBulk d := fun d => by
    cases d with
    | lit l => cases l <;> simp [Rows.uptoBulk]
    | nil => simp [Rows.uptoBulk]
    | ptr d => simp [Rows.uptoBulk]
    | slice elems spare => simp [Rows.uptoBulk]
    | agg parts => simp [Rows.uptoBulk]
    | iface t d => simp [Rows.uptoBulk]
    | map entries => simp [Rows.uptoBulk]
    | held h => simp [Rows.uptoBulk]
  have all : ∀ l : List (DataW H), l.length ≤ Rows.uptoBulkAll l := fun l => by
    induction l with
    | nil => simp [Rows.uptoBulkAll]
    | cons x r ih => have := one x; simp only [Rows.uptoBulkAll, List.length_cons]; omega
  rcases h with ⟨rfl, rfl⟩ | ⟨e, s, rfl, hl⟩
  · simp
  · have := all e
    simp only [Rows.uptoBulk]
    omega
theorem bulk_of {H : Type} {l : List (DataW H)} (hk : Rows.uptoSmall H l = true) : Rows.uptoBulkAll l ≤ 1048576 := of_decide_eq_true hk

/-- what the form's own reach gives -/
theorem reach_of {H : Type} {ts : List TypeId} {ds : List (DataW H)} (hsz : (DataW.weightsEach Try.prog ts ds).all (· ≤ reachBytes) = true) {j : Nat} {d : DataW H} {bs : List Int} (ht : ts[j]? = some 22) (hd : ds[j]? = some d)
    (h : (d = .nil ∧ bs = []) ∨ ∃ e s, d = .slice e s ∧ e.length = bs.length) : bs.length ≤ 140737488351232 := by
  rcases h with ⟨rfl, rfl⟩ | ⟨e, s, rfl, hl⟩
  · simp
  · have := sized_slice hsz ht hd Try.underlying22
    rw [bytes_u8] at this
    simp only [reachBytes] at this
    omega

end Go.Proofs.Ytneolboegjjfbaa
