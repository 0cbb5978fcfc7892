
/-
  A row of numbers that is appended to and cut at its front.
-/
import Derived.Test.YtgempelfamjabaaA0
import Derived.Deep.AppendSrc
import Derived.Deep.DeepAppendRoom
import Derived.Deep.MidRow
namespace Go.Proofs.Ytgempelfamjabaa
open Go.RowKit

theorem info_int : (Try.prog.info? 3).map (fun i => (i.zero, i.size, i.bytes)) = some (some (.int .i64 0), 1, 8) := by kernel_rfl
def ints (l : List Int) : List Value := l.map (Value.int .i64)
theorem ints_append (a b : List Int) : ints (a ++ b) = ints a ++ ints b := by simp [ints]
theorem setCells_out {W : World} {g o : Nat} {cs : List Value} {k : Nat} (hk : k < o ∨ o + cs.length ≤ k) : (W.setCells g o cs).cell? ⟨g, k, none⟩ = W.cell? ⟨g, k, none⟩ := World.cell?_setCells_out g cs o W ⟨g, k, none⟩ (fun _ _ => hk)
theorem setCell_out {W : World} {g o k : Nat} {v : Value} (hk : k ≠ o) : (W.setCell ⟨g, o, none⟩ v).cell? ⟨g, k, none⟩ = W.cell? ⟨g, k, none⟩ := World.cell?_setCell_other _ _ _ _ (by intro q; cases q; exact hk rfl)
theorem frozen_new (w : World) (cs : Array Value) (t : TypeId) (k : Nat) : (w.alloc (.cells cs t)).frozen? ⟨w.heap.size, k, none⟩ = false := by
  unfold World.frozen?
  rw [heap_alloc_new w]
  simp

/-- the slice v holds the numbers L, in a block of O -/
def RowN (O : Nat → Prop) (W : World) (v : Value) (L : List Int) : Prop :=
  ∃ a cap, v = .slice a L.length cap ∧ L.length ≤ cap ∧ cap ≤ maxLen ∧ (a = none → cap = 0) ∧ ∀ ad, a = some ad → ∃ g off, O g ∧ g < W.heap.size ∧ (0 < cap → ad = ⟨g, off, none⟩) ∧ (∀ j, j < cap → (W.cell? ⟨g, off + j, none⟩).isSome = true) ∧ (∀ k, W.frozen? ⟨g, k, none⟩ = false) ∧ ∀ k x, L[k]? = some x → W.cell? ⟨g, off + k, none⟩ = some (.int .i64 x)

theorem RowN.nil (O : Nat → Prop) (W : World) : RowN O W (.slice none 0 0) [] := ⟨none, 0, rfl, Nat.le_refl _, Nat.zero_le _, fun _ => rfl, fun ad e => by cases e⟩
theorem RowN.but {O K : Nat → Prop} {W W' : World} {v : Value} {L : List Int} (h : RowN O W v L) (hb : But K W W') (hd : ∀ g, O g → ¬ K g) : RowN O W' v L := by
  obtain ⟨a, cap, c1, c2, c3, c4, c5⟩ := h
  refine ⟨a, cap, c1, c2, c3, c4, fun ad e => ?_⟩
  obtain ⟨g, off, d1, d3, d4, d5, d6, d7⟩ := c5 ad e
  have ng := hd g d1
  exact ⟨g, off, d1, Nat.lt_of_lt_of_le d3 hb.size, d4, fun j hj => by rw [hb.cell (p := ⟨g, off + j, none⟩) d3 ng]; exact d5 j hj, fun k => (hb.frozen (p := ⟨g, k, none⟩) d3 ng).trans (d6 k), fun k f hf => (hb.cell (p := ⟨g, off + k, none⟩) d3 ng).trans (d7 k f hf)⟩
theorem RowN.later {O : Nat → Prop} {W W' : World} {v : Value} {L : List Int} (h : RowN O W v L) (hb : Below W.heap.size W W') : RowN O W' v L := h.but (K := fun _ => False) (But.of_below hb) (fun _ _ => id)
theorem RowN.own {O O' : Nat → Prop} {W : World} {v : Value} {L : List Int} (h : RowN O W v L) (ho : ∀ g, g < W.heap.size → O g → O' g) : RowN O' W v L := by
  obtain ⟨a, cap, c1, c2, c3, c4, c5⟩ := h
  refine ⟨a, cap, c1, c2, c3, c4, fun ad e => ?_⟩
  obtain ⟨g, off, d1, d3, rest⟩ := c5 ad e
  exact ⟨g, off, ho g d3 d1, d3, rest⟩
theorem RowN.shape {O : Nat → Prop} {W : World} {v : Value} {L : List Int} (h : RowN O W v L) : ∃ a cap, v = .slice a L.length cap := by
  obtain ⟨a, cap, c1, _⟩ := h
  exact ⟨a, cap, c1⟩
/-- the k-th one -/
theorem RowN.at {O : Nat → Prop} {W : World} {a : Option Addr} {m cap : Nat} {L : List Int} (h : RowN O W (.slice a m cap) L) (hp : 0 < L.length) : ∃ g off, a = some ⟨g, off, none⟩ ∧ g < W.heap.size ∧ O g ∧ ∀ k x, L[k]? = some x → W.cell? ⟨g, off + k, none⟩ = some (.int .i64 x) := by
  obtain ⟨a', cap', e, c2, c3, c4, c5⟩ := h
  simp only [Value.slice.injEq] at e
  obtain ⟨rfl, rfl, rfl⟩ := e
  cases a with
  | none => have := c4 rfl; omega
  | some ad =>
    obtain ⟨g, off, d1, d3, d4, d5, d6, d7⟩ := c5 ad rfl
    obtain rfl := d4 (by omega)
    exact ⟨g, off, rfl, d3, d1, d7⟩
/-- without the first one -/
theorem RowN.rest {O : Nat → Prop} {W : World} {x : Int} {L : List Int} {v : Value} (h : RowN O W v (x :: L)) : ∃ g off cap, v = .slice (some ⟨g, off, none⟩) (L.length + 1) cap ∧ L.length + 1 ≤ cap ∧ cap ≤ maxLen ∧ W.cell? ⟨g, off, none⟩ = some (.int .i64 x) ∧ O g ∧
    ∀ a', (1 < cap → a' = ⟨g, off + 1, none⟩) → RowN O W (.slice (some a') L.length (cap - 1)) L := by
  obtain ⟨a, cap, rfl, c2, c3, c4, c5⟩ := h
  have c2 : L.length + 1 ≤ cap := c2
  obtain ⟨ad, rfl⟩ : ∃ ad, a = some ad := by
    cases a with
    | none => have := c4 rfl; omega
    | some ad => exact ⟨ad, rfl⟩
  obtain ⟨g, off, d1, d3, d4, d5, d6, d7⟩ := c5 ad rfl
  obtain rfl := d4 (by omega)
  refine ⟨g, off, cap, rfl, c2, c3, d7 0 x rfl, d1, fun a' ha => ⟨_, _, rfl, by omega, by omega, (fun e => by cases e), fun ad e => ?_⟩⟩
  cases e
  refine ⟨g, off + 1, d1, d3, fun h0 => ha (by omega), fun j hj => ?_, d6, fun k f' hf' => ?_⟩
  · rw [show off + 1 + j = off + (1 + j) by omega]; exact d5 _ (by omega)
  · rw [show off + 1 + k = off + (k + 1) by omega]; exact d7 (k + 1) f' (by simpa using hf')

theorem ints_get (L : List Int) (k : Nat) : (ints L)[k]? = (L[k]?).map (Value.int .i64) := by unfold ints; rw [List.getElem?_map]
theorem ints_one' (L : List Int) : ∀ u ∈ ints L, u.oneCell' = true := by
  intro u hu
  obtain ⟨x, _, rfl⟩ := List.mem_map.1 hu
  rfl
theorem ints_len (L : List Int) : (ints L).length = L.length := by unfold ints; simp

/-- some numbers of a row, as append reads them -/
theorem src_ints {W : World} (g off c : Nat) (M : List Int) (hc : ∀ k x, M[k]? = some x → W.cell? ⟨g, off + k, none⟩ = some (.int .i64 x)) : Src Try.prog 1 46 (.slice (some ⟨g, off, none⟩) M.length c) M.length (ints M) W :=
  Src.ofSlice (P := Try.prog) _ Try.underlying46 ⟨g, off, none⟩ M.length c (ints M) (by rw [ints_len, Nat.mul_one]) (fun j u hu => by
    rw [ints_get] at hu
    rw [Addr.add_mid]
    cases hm : M[j]? with
    | none => rw [hm] at hu; cases hu
    | some x => rw [hm] at hu; cases hu; exact hc j x hm) (ints_one' M)
theorem src_one (W : World) (x : Int) : Src Try.prog 1 46 (.slice (some ⟨W.heap.size, 0, none⟩) 1 1) 1 (ints [x]) (W.alloc (.cells #[.int .i64 x] 3)) :=
  src_ints (W := W.alloc (.cells #[.int .i64 x] 3)) W.heap.size 0 1 [x] (fun k y hy => by
    rw [cell_of_row _ W.heap.size (0 + k) _ 3 (0, 0) (heap_alloc_new W _), Nat.zero_add]
    cases k with
    | zero => simp at hy; subst hy; rfl
    | succ k => simp at hy)

/-- numbers more -/
theorem RowN.more {O : Nat → Prop} {W : World} {v : Value} {L : List Int} (h : RowN O W v L) (x : Value) (M : List Int) (hs : Src Try.prog 1 46 x M.length (ints M) W) (hM : 0 < M.length) (hl : L.length + M.length ≤ 8796093022208) :
    ∃ a' c' w2, (Builtin.append_ #[46, 46] 46 #[v, x]).run Try.prog W = .ok (.slice a' (L ++ M).length c') w2 ∧ RowN (fun g => O g ∨ W.heap.size ≤ g ∧ g < w2.heap.size) w2 (.slice a' (L ++ M).length c') (L ++ M) ∧ But O W w2 := by
  obtain ⟨i, hi, hz0, hz1, hz2⟩ := info_parts info_int
  obtain ⟨a, cap, rfl, c2, c3, c4, c5⟩ := h
  by_cases hr : L.length + M.length ≤ cap
  · obtain ⟨ad, rfl⟩ : ∃ ad, a = some ad := by
      cases a with
      | none => have := c4 rfl; omega
      | some ad => exact ⟨ad, rfl⟩
    obtain ⟨g, off, d1, d3, d4, d5, d6, d7⟩ := c5 ad rfl
    obtain rfl := d4 (by omega)
    have hrun := run_append_room_src (P := Try.prog) W 46 46 46 3 i Try.underlying46 hi g off L.length cap x M.length (ints M) (by rw [hz1]; exact hs) hr
      (fun j hj => by rw [ints_len] at hj; rw [hz1, Nat.mul_one, Nat.add_assoc]; exact d5 _ (by omega)) (fun j hj => d6 _)
    rw [hz1, Nat.mul_one] at hrun
    have b2 : But O W (W.setCells g (off + L.length) (ints M)) := (But.cells g (ints M) _ _).mono (fun y e => e ▸ d1)
    refine ⟨_, cap, _, by rw [List.length_append]; exact hrun, ⟨_, cap, rfl, by rw [List.length_append]; exact hr, c3, (fun e => by cases e), fun ad e => ?_⟩, b2⟩
    cases e
    have inn : ∀ j, j < M.length → (W.setCells g (off + L.length) (ints M)).cell? ⟨g, off + L.length + j, none⟩ = (ints M)[j]? := fun j hj => by
      have := World.cell?_setCells_in g (ints M) (off + L.length) W (fun j hj => by rw [ints_len] at hj; rw [Nat.add_assoc]; exact d5 _ (by omega)) j (by rw [ints_len]; exact hj)
      rw [this]
      exact (List.getElem?_eq_getElem (by rw [ints_len]; exact hj)).symm
    refine ⟨g, off, .inl d1, Nat.lt_of_lt_of_le d3 b2.size, fun _ => rfl, fun j hj => ?_, fun k => ?_, fun k y hy => ?_⟩
    · by_cases e : L.length ≤ j ∧ j < L.length + M.length
      · rw [show off + j = off + L.length + (j - L.length) by omega, inn _ (by omega), List.getElem?_eq_getElem (by rw [ints_len]; omega)]; rfl
      · rw [setCells_out (by rw [ints_len]; omega)]; exact d5 j hj
    · rw [World.frozen?_setCells]; exact d6 k
    · by_cases e : k < L.length
      · rw [List.getElem?_append_left e] at hy
        rw [setCells_out (by omega)]; exact d7 k y hy
      · have hk : k < L.length + M.length := by have := (List.getElem?_eq_some_iff.1 hy).1; simpa using this
        rw [List.getElem?_append_right (by omega)] at hy
        rw [show off + k = off + L.length + (k - L.length) by omega, inn _ (by omega), ints_get, hy]; rfl
  · obtain ⟨olds, hold, ho1⟩ : ∃ olds : List Value, (Builtin.firstCells i.size L.length (.slice a L.length cap)).run Try.prog W.drew = .ok olds.toArray W.drew ∧ olds = ints L := by
      rw [hz1]
      cases a with
      | none =>
        have h0 := c4 rfl
        have hL : L = [] := List.eq_nil_of_length_eq_zero (by omega)
        subst hL
        exact ⟨[], run_firstCells_none _ 1 0 0 cap, rfl⟩
      | some ad =>
        obtain ⟨g, off, d1, d3, d4, d5, d6, d7⟩ := c5 ad rfl
        refine ⟨ints L, run_firstCells_some _ 1 L.length ad L.length cap _ (by rw [ints_len, Nat.mul_one]) (fun j u hu => ?_), rfl⟩
        rw [ints_get] at hu
        cases hm : L[j]? with
        | none => rw [hm] at hu; cases hu
        | some y =>
          rw [hm] at hu
          cases hu
          have hj : j < L.length := (List.getElem?_eq_some_iff.1 hm).1
          obtain rfl := d4 (by omega)
          rw [Addr.add_mid]
          exact d7 j y hm
    subst ho1
    have hrun := run_append_grow_src (P := Try.prog) W 46 46 46 3 i _ Try.underlying46 hi hz0 a L.length cap (ints L) hold x M.length (ints M) (by rw [hz1]; exact hs) (by omega) (by omega) (growslice_fits (by omega) (by rw [hz2]; omega))
    obtain ⟨C, hC⟩ : ∃ C, C = grownCap W (L.length + M.length) cap 3 := ⟨_, rfl⟩
    have hge := grownCap_ge W (L.length + M.length) cap 3
    have hle := grownCap_le_maxLen W (L.length + M.length) cap 3 (by unfold maxLen; omega)
    rw [← hC] at hrun hge hle
    obtain ⟨Z, hZ⟩ : ∃ Z, Z = (ints L ++ ints M).toArray ++ Builtin.zeroCells (Value.int .i64 0).cells (C - (L.length + M.length)) := ⟨_, rfl⟩
    rw [← hZ] at hrun
    have zs : Z.size = C := by
      rw [hZ, Array.size_append, size_zeroCells]
      simp [Value.cells, ints_len]
      omega
    have zk : ∀ k y, (L ++ M)[k]? = some y → Z[k]? = some (Value.int .i64 y) := fun k y hk => by
      have hlt := (List.getElem?_eq_some_iff.1 hk).1
      rw [List.length_append] at hlt
      rw [hZ, Array.getElem?_append_left (by simp [ints_len]; exact hlt)]
      show (ints L ++ ints M).toArray[k]? = _
      rw [← ints_append, List.getElem?_toArray, ints_get, hk]; rfl
    have bD : But O W (W.drew.alloc (.cells Z 3)) := ((But.refl _ _).drew).alloc _
    have sD : (W.drew.alloc (.cells Z 3)).heap.size = W.heap.size + 1 := by simp
    have hn : W.drew.heap.size = W.heap.size := rfl
    have cz : ∀ k u', Z[k]? = some u' → (W.drew.alloc (.cells Z 3)).cell? ⟨W.heap.size, k, none⟩ = some u' := fun k u' hk => by
      rw [← hn, cell_of_row _ W.drew.heap.size k _ 3 (0, 0) (heap_alloc_new _ _)]
      exact hk
    refine ⟨_, C, _, by rw [List.length_append]; exact hrun, ⟨_, C, rfl, by rw [List.length_append]; exact hge, hle, (fun e => by cases e), fun ad e => ?_⟩, bD⟩
    cases e
    refine ⟨W.heap.size, 0, .inr ⟨Nat.le_refl _, by rw [sD]; omega⟩, by rw [sD]; omega, fun _ => rfl, fun j hj => ?_, fun k => ?_, fun k y hy => ?_⟩
    · rw [Nat.zero_add, cz j Z[j] (Array.getElem?_eq_getElem (by omega))]; rfl
    · rw [← hn]; exact frozen_new _ _ _ _
    · rw [Nat.zero_add]; exact cz k _ (zk k y hy)

/-- one number more -/
theorem RowN.push {O : Nat → Prop} {W : World} {v : Value} {L : List Int} (h : RowN O W v L) (x : Int) (hl : L.length ≤ 8796093022207) :
    ∃ a' c' w2, (Builtin.append_ #[46, 46] 46 #[v, .slice (some ⟨W.heap.size, 0, none⟩) 1 1]).run Try.prog (W.alloc (.cells #[.int .i64 x] 3)) = .ok (.slice a' (L.length + 1) c') w2 ∧ RowN (fun g => O g ∨ W.heap.size ≤ g ∧ g < w2.heap.size) w2 (.slice a' (L.length + 1) c') (L ++ [x]) ∧ But O W w2 := by
  have b1 : But (fun _ => False) W (W.alloc (.cells #[.int .i64 x] 3)) := (But.refl _ _).alloc _
  obtain ⟨a', c', w2, hrun, hrow, hb⟩ := (h.but b1 (fun _ _ => id)).more _ [x] (src_one W x) (by simp) (by simp; omega)
  rw [List.length_append] at hrun hrow
  have sz := hb.size
  rw [World.size_alloc] at sz
  exact ⟨a', c', w2, hrun, hrow.own (fun g hg e => e.elim .inl (fun e => .inr ⟨by have := e.1; rw [World.size_alloc] at this; omega, e.2⟩)), (b1.mono (fun _ e => e.elim)).trans hb⟩
end Go.Proofs.Ytgempelfamjabaa
