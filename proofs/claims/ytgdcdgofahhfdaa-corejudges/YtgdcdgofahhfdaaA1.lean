
/-
  A row of numbers that is appended to and cut at its front.
-/
import Derived.Test.YtgdcdgofahhfdaaA0
import Derived.Deep.AppendSrc
import Derived.Deep.DeepAppendRoom
import Derived.Deep.MidRow
namespace Go.Proofs.Ytgdcdgofahhfdaa
open Go.RowKit

theorem info_int : (Try.prog.info? 3).map (fun i => (i.zero, i.size, i.bytes)) = some (some (.int .i64 0), 1, 8) := by kernel_rfl
def ints (l : List Int) : List Value := l.map (Value.int .i64)
theorem ints_append (a b : List Int) : ints (a ++ b) = ints a ++ ints b := by simp [ints]
theorem setCells_out {W : World} {g o : Nat} {cs : List Value} {k : Nat} (hk : k < o ∨ o + cs.length ≤ k) : (W.setCells g o cs).cell? ⟨g, k, none⟩ = W.cell? ⟨g, k, none⟩ := World.cell?_setCells_out g cs o W ⟨g, k, none⟩ (fun _ _ => hk)
theorem setCell_out {W : World} {g o k : Nat} {v : Value} (hk : k ≠ o) : (W.setCell ⟨g, o, none⟩ v).cell? ⟨g, k, none⟩ = W.cell? ⟨g, k, none⟩ := World.cell?_setCell_other _ _ _ _ (by intro q; cases q; exact hk rfl)
theorem frozen_new (w : World) (cs : Array Value) (t : TypeId) (k : Nat) : (w.alloc (.cells cs t)).frozen? ⟨w.heap.size, k, none⟩ = false := by
  unfold World.frozen?
  rw [heap_alloc_new w]
  simp

/-- the slice v holds the numbers L, in a block of O -/
def RowN (O : Nat → Prop) (W : World) (v : Value) (L : List Int) : Prop :=
  ∃ a cap, v = .slice a L.length cap ∧ L.length ≤ cap ∧ cap ≤ maxLen ∧ (a = none → cap = 0) ∧ ∀ ad, a = some ad → ∃ g off, O g ∧ g < W.heap.size ∧ (0 < cap → ad = ⟨g, off, none⟩) ∧ (∀ j, j < cap → (W.cell? ⟨g, off + j, none⟩).isSome = true) ∧ (∀ k, W.frozen? ⟨g, k, none⟩ = false) ∧ ∀ k x, L[k]? = some x → W.cell? ⟨g, off + k, none⟩ = some (.int .i64 x)

theorem RowN.nil (O : Nat → Prop) (W : World) : RowN O W (.slice none 0 0) [] := ⟨none, 0, rfl, Nat.le_refl _, Nat.zero_le _, fun _ => rfl, fun ad e => by cases e⟩
theorem RowN.but {O K : Nat → Prop} {W W' : World} {v : Value} {L : List Int} (h : RowN O W v L) (hb : But K W W') (hd : ∀ g, O g → ¬ K g) : RowN O W' v L := by
  obtain ⟨a, cap, c1, c2, c3, c4, c5⟩ := h
  refine ⟨a, cap, c1, c2, c3, c4, fun ad e => ?_⟩
  obtain ⟨g, off, d1, d3, d4, d5, d6, d7⟩ := c5 ad e
  have ng := hd g d1
  exact ⟨g, off, d1, Nat.lt_of_lt_of_le d3 hb.size, d4, fun j hj => by rw [hb.cell (p := ⟨g, off + j, none⟩) d3 ng]; exact d5 j hj, fun k => (hb.frozen (p := ⟨g, k, none⟩) d3 ng).trans (d6 k), fun k f hf => (hb.cell (p := ⟨g, off + k, none⟩) d3 ng).trans (d7 k f hf)⟩
theorem RowN.later {O : Nat → Prop} {W W' : World} {v : Value} {L : List Int} (h : RowN O W v L) (hb : Below W.heap.size W W') : RowN O W' v L := h.but (K := fun _ => False) (But.of_below hb) (fun _ _ => id)
theorem RowN.own {O O' : Nat → Prop} {W : World} {v : Value} {L : List Int} (h : RowN O W v L) (ho : ∀ g, g < W.heap.size → O g → O' g) : RowN O' W v L := by
  obtain ⟨a, cap, c1, c2, c3, c4, c5⟩ := h
  refine ⟨a, cap, c1, c2, c3, c4, fun ad e => ?_⟩
  obtain ⟨g, off, d1, d3, rest⟩ := c5 ad e
  exact ⟨g, off, ho g d3 d1, d3, rest⟩
theorem RowN.shape {O : Nat → Prop} {W : World} {v : Value} {L : List Int} (h : RowN O W v L) : ∃ a cap, v = .slice a L.length cap := by
  obtain ⟨a, cap, c1, _⟩ := h
  exact ⟨a, cap, c1⟩
/-- the k-th one -/
theorem RowN.at {O : Nat → Prop} {W : World} {a : Option Addr} {m cap : Nat} {L : List Int} (h : RowN O W (.slice a m cap) L) (hp : 0 < L.length) : ∃ g off, a = some ⟨g, off, none⟩ ∧ g < W.heap.size ∧ O g ∧ ∀ k x, L[k]? = some x → W.cell? ⟨g, off + k, none⟩ = some (.int .i64 x) := by
  obtain ⟨a', cap', e, c2, c3, c4, c5⟩ := h
  simp only [Value.slice.injEq] at e
  obtain ⟨rfl, rfl, rfl⟩ := e
  cases a with
  | none => have := c4 rfl; omega
  | some ad =>
    obtain ⟨g, off, d1, d3, d4, d5, d6, d7⟩ := c5 ad rfl
    obtain rfl := d4 (by omega)
    exact ⟨g, off, rfl, d3, d1, d7⟩
/-- without the first one -/
theorem RowN.rest {O : Nat → Prop} {W : World} {x : Int} {L : List Int} {v : Value} (h : RowN O W v (x :: L)) : ∃ g off cap, v = .slice (some ⟨g, off, none⟩) (L.length + 1) cap ∧ L.length + 1 ≤ cap ∧ cap ≤ maxLen ∧ W.cell? ⟨g, off, none⟩ = some (.int .i64 x) ∧ O g ∧
    ∀ a', (1 < cap → a' = ⟨g, off + 1, none⟩) → RowN O W (.slice (some a') L.length (cap - 1)) L := by
  obtain ⟨a, cap, rfl, c2, c3, c4, c5⟩ := h
  have c2 : L.length + 1 ≤ cap := c2
  obtain ⟨ad, rfl⟩ : ∃ ad, a = some ad := by
    cases a with
    | none => have := c4 rfl; omega
    | some ad => exact ⟨ad, rfl⟩
  obtain ⟨g, off, d1, d3, d4, d5, d6, d7⟩ := c5 ad rfl
  obtain rfl := d4 (by omega)
  refine ⟨g, off, cap, rfl, c2, c3, d7 0 x rfl, d1, fun a' ha => ⟨_, _, rfl, by omega, by omega, (fun e => by cases e), fun ad e => ?_⟩⟩
  cases e
  refine ⟨g, off + 1, d1, d3, fun h0 => ha (by omega), fun j hj => ?_, d6, fun k f' hf' => ?_⟩
  · rw [show off + 1 + j = off + (1 + j) by omega]; exact d5 _ (by omega)
  · rw [show off + 1 + k = off + (k + 1) by omega]; exact d7 (k + 1) f' (by simpa using hf')

theorem ints_get (L : List Int) (k : Nat) : (ints L)[k]? = (L[k]?).map (Value.int .i64) := by unfold ints; rw [List.getElem?_map]
theorem ints_one' (L : List Int) : ∀ u ∈ ints L, u.oneCell' = true := by
  intro u hu
  obtain ⟨x, _, rfl⟩ := List.mem_map.1 hu
  rfl
theorem ints_len (L : List Int) : (ints L).length = L.length := by unfold ints; simp

end Go.Proofs.Ytgdcdgofahhfdaa
