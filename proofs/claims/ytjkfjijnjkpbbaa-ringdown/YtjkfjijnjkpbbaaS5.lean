
/-
  A row of numbers that is appended to and cut at its front. The document's ring in memory: its rows, and how they turn. The document's ring: fill.
-/
import Derived.Test.YtjkfjijnjkpbbaaG4
import Derived.Deep.AppendSrc
import Derived.Test.YtjkfjijnjkpbbaaH1
namespace Go.Proofs.Ytjkfjijnjkpbbaa
open Go.RowKit

/-- the slice v holds the numbers L, in a block of O -/
def RowN (O : Nat → Prop) (W : World) (v : Value) (L : List Int) : Prop :=
  ∃ a cap, v = .slice a L.length cap ∧ L.length ≤ cap ∧ cap ≤ maxLen ∧ (a = none → cap = 0) ∧ ∀ ad, a = some ad → ∃ g off, O g ∧ g < W.heap.size ∧ (0 < cap → ad = ⟨g, off, none⟩) ∧ (∀ j, j < cap → (W.cell? ⟨g, off + j, none⟩).isSome = true) ∧ (∀ k, W.frozen? ⟨g, k, none⟩ = false) ∧ ∀ k x, L[k]? = some x → W.cell? ⟨g, off + k, none⟩ = some (.int .i64 x)

theorem RowN.nil (O : Nat → Prop) (W : World) : RowN O W (.slice none 0 0) [] := ⟨none, 0, rfl, Nat.le_refl _, Nat.zero_le _, fun _ => rfl, fun ad e => by cases e⟩
theorem RowN.but {O K : Nat → Prop} {W W' : World} {v : Value} {L : List Int} (h : RowN O W v L) (hb : But K W W') (hd : ∀ g, O g → ¬ K g) : RowN O W' v L := by
  obtain ⟨a, cap, c1, c2, c3, c4, c5⟩ := h
  refine ⟨a, cap, c1, c2, c3, c4, fun ad e => ?_⟩
  obtain ⟨g, off, d1, d3, d4, d5, d6, d7⟩ := c5 ad e
  have ng := hd g d1
  exact ⟨g, off, d1, Nat.lt_of_lt_of_le d3 hb.size, d4, fun j hj => by rw [hb.cell (p := ⟨g, off + j, none⟩) d3 ng]; exact d5 j hj, fun k => (hb.frozen (p := ⟨g, k, none⟩) d3 ng).trans (d6 k), fun k f hf => (hb.cell (p := ⟨g, off + k, none⟩) d3 ng).trans (d7 k f hf)⟩
theorem RowN.later {O : Nat → Prop} {W W' : World} {v : Value} {L : List Int} (h : RowN O W v L) (hb : Below W.heap.size W W') : RowN O W' v L := h.but (K := fun _ => False) (But.of_below hb) (fun _ _ => id)
theorem RowN.own {O O' : Nat → Prop} {W : World} {v : Value} {L : List Int} (h : RowN O W v L) (ho : ∀ g, g < W.heap.size → O g → O' g) : RowN O' W v L := by
  obtain ⟨a, cap, c1, c2, c3, c4, c5⟩ := h
  refine ⟨a, cap, c1, c2, c3, c4, fun ad e => ?_⟩
  obtain ⟨g, off, d1, d3, rest⟩ := c5 ad e
  exact ⟨g, off, ho g d3 d1, d3, rest⟩
theorem RowN.shape {O : Nat → Prop} {W : World} {v : Value} {L : List Int} (h : RowN O W v L) : ∃ a cap, v = .slice a L.length cap := by
  obtain ⟨a, cap, c1, _⟩ := h
  exact ⟨a, cap, c1⟩
/-- the k-th one -/
theorem RowN.at {O : Nat → Prop} {W : World} {a : Option Addr} {m cap : Nat} {L : List Int} (h : RowN O W (.slice a m cap) L) (hp : 0 < L.length) : ∃ g off, a = some ⟨g, off, none⟩ ∧ g < W.heap.size ∧ O g ∧ ∀ k x, L[k]? = some x → W.cell? ⟨g, off + k, none⟩ = some (.int .i64 x) := by
  obtain ⟨a', cap', e, c2, c3, c4, c5⟩ := h
  simp only [Value.slice.injEq] at e
  obtain ⟨rfl, rfl, rfl⟩ := e
  cases a with
  | none => have := c4 rfl; omega
  | some ad =>
    obtain ⟨g, off, d1, d3, d4, d5, d6, d7⟩ := c5 ad rfl
    obtain rfl := d4 (by omega)
    exact ⟨g, off, rfl, d3, d1, d7⟩
/-- without the first one -/
theorem RowN.rest {O : Nat → Prop} {W : World} {x : Int} {L : List Int} {v : Value} (h : RowN O W v (x :: L)) : ∃ g off cap, v = .slice (some ⟨g, off, none⟩) (L.length + 1) cap ∧ L.length + 1 ≤ cap ∧ cap ≤ maxLen ∧ W.cell? ⟨g, off, none⟩ = some (.int .i64 x) ∧ O g ∧
    ∀ a', (1 < cap → a' = ⟨g, off + 1, none⟩) → RowN O W (.slice (some a') L.length (cap - 1)) L := by
  obtain ⟨a, cap, rfl, c2, c3, c4, c5⟩ := h
  have c2 : L.length + 1 ≤ cap := c2
  obtain ⟨ad, rfl⟩ : ∃ ad, a = some ad := by
    cases a with
    | none => have := c4 rfl; omega
    | some ad => exact ⟨ad, rfl⟩
  obtain ⟨g, off, d1, d3, d4, d5, d6, d7⟩ := c5 ad rfl
  obtain rfl := d4 (by omega)
  refine ⟨g, off, cap, rfl, c2, c3, d7 0 x rfl, d1, fun a' ha => ⟨_, _, rfl, by omega, by omega, (fun e => by cases e), fun ad e => ?_⟩⟩
  cases e
  refine ⟨g, off + 1, d1, d3, fun h0 => ha (by omega), fun j hj => ?_, d6, fun k f' hf' => ?_⟩
  · rw [show off + 1 + j = off + (1 + j) by omega]; exact d5 _ (by omega)
  · rw [show off + 1 + k = off + (k + 1) by omega]; exact d7 (k + 1) f' (by simpa using hf')

theorem ints_get (L : List Int) (k : Nat) : (ints L)[k]? = (L[k]?).map (Value.int .i64) := by unfold ints; rw [List.getElem?_map]
theorem ints_one' (L : List Int) : ∀ u ∈ ints L, u.oneCell' = true := by
  intro u hu
  obtain ⟨x, _, rfl⟩ := List.mem_map.1 hu
  rfl
theorem ints_len (L : List Int) : (ints L).length = L.length := by unfold ints; simp

/-- some numbers of a row, as append reads them -/
theorem src_ints {W : World} (g off c : Nat) (M : List Int) (hc : ∀ k x, M[k]? = some x → W.cell? ⟨g, off + k, none⟩ = some (.int .i64 x)) : Src Try.prog 1 31 (.slice (some ⟨g, off, none⟩) M.length c) M.length (ints M) W :=
  Src.ofSlice (P := Try.prog) _ Try.underlying31 ⟨g, off, none⟩ M.length c (ints M) (by rw [ints_len, Nat.mul_one]) (fun j u hu => by
    rw [ints_get] at hu
    rw [Addr.add_mid]
    cases hm : M[j]? with
    | none => rw [hm] at hu; cases hu
    | some x => rw [hm] at hu; cases hu; exact hc j x hm) (ints_one' M)
theorem src_one (W : World) (x : Int) : Src Try.prog 1 31 (.slice (some ⟨W.heap.size, 0, none⟩) 1 1) 1 (ints [x]) (W.alloc (.cells #[.int .i64 x] 3)) :=
  src_ints (W := W.alloc (.cells #[.int .i64 x] 3)) W.heap.size 0 1 [x] (fun k y hy => by
    rw [cell_of_row _ W.heap.size (0 + k) _ 3 (0, 0) (heap_alloc_new W _), Nat.zero_add]
    cases k with
    | zero => simp at hy; subst hy; rfl
    | succ k => simp at hy)

/-- numbers more -/
theorem RowN.more {O : Nat → Prop} {W : World} {v : Value} {L : List Int} (h : RowN O W v L) (x : Value) (M : List Int) (hs : Src Try.prog 1 31 x M.length (ints M) W) (hM : 0 < M.length) (hl : L.length + M.length ≤ 8796093022208) :
    ∃ a' c' w2, (Builtin.append_ #[31, 31] 31 #[v, x]).run Try.prog W = .ok (.slice a' (L ++ M).length c') w2 ∧ RowN (fun g => O g ∨ W.heap.size ≤ g ∧ g < w2.heap.size) w2 (.slice a' (L ++ M).length c') (L ++ M) ∧ But O W w2 := by
  obtain ⟨i, hi, hz0, hz1, hz2⟩ := info_parts info_int
  obtain ⟨a, cap, rfl, c2, c3, c4, c5⟩ := h
  by_cases hr : L.length + M.length ≤ cap
  · obtain ⟨ad, rfl⟩ : ∃ ad, a = some ad := by
      cases a with
      | none => have := c4 rfl; omega
      | some ad => exact ⟨ad, rfl⟩
    obtain ⟨g, off, d1, d3, d4, d5, d6, d7⟩ := c5 ad rfl
    obtain rfl := d4 (by omega)
    have hrun := run_append_room_src (P := Try.prog) W 31 31 31 3 i Try.underlying31 hi g off L.length cap x M.length (ints M) (by rw [hz1]; exact hs) hr
      (fun j hj => by rw [ints_len] at hj; rw [hz1, Nat.mul_one, Nat.add_assoc]; exact d5 _ (by omega)) (fun j hj => d6 _)
    rw [hz1, Nat.mul_one] at hrun
    have b2 : But O W (W.setCells g (off + L.length) (ints M)) := (But.cells g (ints M) _ _).mono (fun y e => e ▸ d1)
    refine ⟨_, cap, _, by rw [List.length_append]; exact hrun, ⟨_, cap, rfl, by rw [List.length_append]; exact hr, c3, (fun e => by cases e), fun ad e => ?_⟩, b2⟩
    cases e
    have inn : ∀ j, j < M.length → (W.setCells g (off + L.length) (ints M)).cell? ⟨g, off + L.length + j, none⟩ = (ints M)[j]? := fun j hj => by
      have := World.cell?_setCells_in g (ints M) (off + L.length) W (fun j hj => by rw [ints_len] at hj; rw [Nat.add_assoc]; exact d5 _ (by omega)) j (by rw [ints_len]; exact hj)
      rw [this]
      exact (List.getElem?_eq_getElem (by rw [ints_len]; exact hj)).symm
    refine ⟨g, off, .inl d1, Nat.lt_of_lt_of_le d3 b2.size, fun _ => rfl, fun j hj => ?_, fun k => ?_, fun k y hy => ?_⟩
    · by_cases e : L.length ≤ j ∧ j < L.length + M.length
      · rw [show off + j = off + L.length + (j - L.length) by omega, inn _ (by omega), List.getElem?_eq_getElem (by rw [ints_len]; omega)]; rfl
      · rw [setCells_out (by rw [ints_len]; omega)]; exact d5 j hj
    · rw [World.frozen?_setCells]; exact d6 k
    · by_cases e : k < L.length
      · rw [List.getElem?_append_left e] at hy
        rw [setCells_out (by omega)]; exact d7 k y hy
      · have hk : k < L.length + M.length := by have := (List.getElem?_eq_some_iff.1 hy).1; simpa using this
        rw [List.getElem?_append_right (by omega)] at hy
        rw [show off + k = off + L.length + (k - L.length) by omega, inn _ (by omega), ints_get, hy]; rfl
  · obtain ⟨olds, hold, ho1⟩ : ∃ olds : List Value, (Builtin.firstCells i.size L.length (.slice a L.length cap)).run Try.prog W.drew = .ok olds.toArray W.drew ∧ olds = ints L := by
      rw [hz1]
      cases a with
      | none =>
        have h0 := c4 rfl
        have hL : L = [] := List.eq_nil_of_length_eq_zero (by omega)
        subst hL
        exact ⟨[], run_firstCells_none _ 1 0 0 cap, rfl⟩
      | some ad =>
        obtain ⟨g, off, d1, d3, d4, d5, d6, d7⟩ := c5 ad rfl
        refine ⟨ints L, run_firstCells_some _ 1 L.length ad L.length cap _ (by rw [ints_len, Nat.mul_one]) (fun j u hu => ?_), rfl⟩
        rw [ints_get] at hu
        cases hm : L[j]? with
        | none => rw [hm] at hu; cases hu
        | some y =>
          rw [hm] at hu
          cases hu
          have hj : j < L.length := (List.getElem?_eq_some_iff.1 hm).1
          obtain rfl := d4 (by omega)
          rw [Addr.add_mid]
          exact d7 j y hm
    subst ho1
    have hrun := run_append_grow_src (P := Try.prog) W 31 31 31 3 i _ Try.underlying31 hi hz0 a L.length cap (ints L) hold x M.length (ints M) (by rw [hz1]; exact hs) (by omega) (by omega) (growslice_fits (by omega) (by rw [hz2]; omega))
    obtain ⟨C, hC⟩ : ∃ C, C = grownCap W (L.length + M.length) cap 3 := ⟨_, rfl⟩
    have hge := grownCap_ge W (L.length + M.length) cap 3
    have hle := grownCap_le_maxLen W (L.length + M.length) cap 3 (by unfold maxLen; omega)
    rw [← hC] at hrun hge hle
    obtain ⟨Z, hZ⟩ : ∃ Z, Z = (ints L ++ ints M).toArray ++ Builtin.zeroCells (Value.int .i64 0).cells (C - (L.length + M.length)) := ⟨_, rfl⟩
    rw [← hZ] at hrun
    have zs : Z.size = C := by
      rw [hZ, Array.size_append, size_zeroCells]
      simp [Value.cells, ints_len]
      omega
    have zk : ∀ k y, (L ++ M)[k]? = some y → Z[k]? = some (Value.int .i64 y) := fun k y hk => by
      have hlt := (List.getElem?_eq_some_iff.1 hk).1
      rw [List.length_append] at hlt
      rw [hZ, Array.getElem?_append_left (by simp [ints_len]; exact hlt)]
      show (ints L ++ ints M).toArray[k]? = _
      rw [← ints_append, List.getElem?_toArray, ints_get, hk]; rfl
    have bD : But O W (W.drew.alloc (.cells Z 3)) := ((But.refl _ _).drew).alloc _
    have sD : (W.drew.alloc (.cells Z 3)).heap.size = W.heap.size + 1 := by simp
    have hn : W.drew.heap.size = W.heap.size := rfl
    have cz : ∀ k u', Z[k]? = some u' → (W.drew.alloc (.cells Z 3)).cell? ⟨W.heap.size, k, none⟩ = some u' := fun k u' hk => by
      rw [← hn, cell_of_row _ W.drew.heap.size k _ 3 (0, 0) (heap_alloc_new _ _)]
      exact hk
    refine ⟨_, C, _, by rw [List.length_append]; exact hrun, ⟨_, C, rfl, by rw [List.length_append]; exact hge, hle, (fun e => by cases e), fun ad e => ?_⟩, bD⟩
    cases e
    refine ⟨W.heap.size, 0, .inr ⟨Nat.le_refl _, by rw [sD]; omega⟩, by rw [sD]; omega, fun _ => rfl, fun j hj => ?_, fun k => ?_, fun k y hy => ?_⟩
    · rw [Nat.zero_add, cz j Z[j] (Array.getElem?_eq_getElem (by omega))]; rfl
    · rw [← hn]; exact frozen_new _ _ _ _
    · rw [Nat.zero_add]; exact cz k _ (zk k y hy)

/-- one number more -/
theorem RowN.push {O : Nat → Prop} {W : World} {v : Value} {L : List Int} (h : RowN O W v L) (x : Int) (hl : L.length ≤ 8796093022207) :
    ∃ a' c' w2, (Builtin.append_ #[31, 31] 31 #[v, .slice (some ⟨W.heap.size, 0, none⟩) 1 1]).run Try.prog (W.alloc (.cells #[.int .i64 x] 3)) = .ok (.slice a' (L.length + 1) c') w2 ∧ RowN (fun g => O g ∨ W.heap.size ≤ g ∧ g < w2.heap.size) w2 (.slice a' (L.length + 1) c') (L ++ [x]) ∧ But O W w2 := by
  have b1 : But (fun _ => False) W (W.alloc (.cells #[.int .i64 x] 3)) := (But.refl _ _).alloc _
  obtain ⟨a', c', w2, hrun, hrow, hb⟩ := (h.but b1 (fun _ _ => id)).more _ [x] (src_one W x) (by simp) (by simp; omega)
  rw [List.length_append] at hrun hrow
  have sz := hb.size
  rw [World.size_alloc] at sz
  exact ⟨a', c', w2, hrun, hrow.own (fun g hg e => e.elim .inl (fun e => .inr ⟨by have := e.1; rw [World.size_alloc] at this; omega, e.2⟩)), (b1.mono (fun _ e => e.elim)).trans hb⟩

/-- the document's ring: ρ tells whose a block is (0: nobody's) -/
structure RQ (ρ : Nat → Nat) (W : World) (k : Bl) (n : Nat) (D : Dev) (B : Nat → Buf) (tv cv : Value) (nx fl : Nat) (T C : List Int) : Prop where
  rf : Rf (fun g => ρ g ≠ 0) W k n D B tv cv nx fl
  t : RowN (fun g => ρ g = 9) W tv T
  c : RowN (fun g => ρ g = 10) W cv C
  d5 : ρ k.d = 5
  p6 : ρ k.p = 6
  g7 : ρ k.g = 7
  r8 : ρ k.r = 8
  lt : ∀ g, ρ g ≠ 0 → g < W.heap.size

/-- what a call of the document's ring leaves: its own blocks have turned, roles are given to new blocks alone -/
structure Nx (ρ : Nat → Nat) (w : World) (ρ' : Nat → Nat) (w' : World) : Prop where
  but : But (fun g => 5 ≤ ρ g ∧ ρ g ≤ 10) w w'
  old : ∀ g, g < w.heap.size → ρ' g = ρ g
  new : ∀ g, w.heap.size ≤ g → ρ' g ≠ 0 → ρ' g = 9 ∨ ρ' g = 10 ∨ ρ' g = 14
theorem Nx.refl {ρ : Nat → Nat} {w : World} (h : ∀ g, ρ g ≠ 0 → g < w.heap.size) : Nx ρ w ρ w := ⟨But.refl _ _, fun _ _ => rfl, fun g hg e => by have := h g e; omega⟩
theorem Nx.trans {ρ ρ' ρ'' : Nat → Nat} {w w' w'' : World} (h : Nx ρ w ρ' w') (h' : Nx ρ' w' ρ'' w'') : Nx ρ w ρ'' w'' :=
  ⟨h.but.trans' h'.but (fun g hg e => by have := h.old g hg; rw [this] at e; exact e), fun g hg => (h'.old g (Nat.lt_of_lt_of_le hg h.but.size)).trans (h.old g hg), fun g hg e => by
    by_cases h1 : g < w'.heap.size
    · rw [h'.old g h1] at e ⊢; exact h.new g hg e
    · exact h'.new g (by omega) e⟩
theorem Nx.of {ρ : Nat → Nat} {w w' : World} (h : ∀ g, ρ g ≠ 0 → g < w.heap.size) {K : Nat → Prop} (hb : But K w w') (hk : ∀ g, K g → 5 ≤ ρ g ∧ ρ g ≤ 10) : Nx ρ w ρ w' := ⟨hb.mono hk, fun _ _ => rfl, fun g hg e => by have := h g e; omega⟩

section
variable {ρ : Nat → Nat} {W W' : World} {k : Bl} {n : Nat} {D D' : Dev} {B B' : Nat → Buf} {tv cv : Value} {nx fl nx' fl' : Nat} {T C : List Int}
theorem RQ.but {K : Nat → Prop} (h : RQ ρ W k n D B tv cv nx fl T C) (hb : But K W W') (hk : ∀ g, K g → ρ g ≠ 0 ∧ (ρ g < 5 ∨ 10 < ρ g)) : RQ ρ W' k n D B tv cv nx fl T C :=
  ⟨h.rf.but hb (fun g e => (hk g e).1) (fun e => by have := hk _ e; have := h.d5; omega) (fun e => by have := hk _ e; have := h.p6; omega) (fun e => by have := hk _ e; have := h.g7; omega) (fun e => by have := hk _ e; have := h.r8; omega),
    h.t.but hb (fun g e e2 => by have := hk _ e2; omega), h.c.but hb (fun g e e2 => by have := hk _ e2; omega), h.d5, h.p6, h.g7, h.r8, fun g e => Nat.lt_of_lt_of_le (h.lt g e) hb.size⟩
theorem RQ.later (h : RQ ρ W k n D B tv cv nx fl T C) (hb : Below W.heap.size W W') : RQ ρ W' k n D B tv cv nx fl T C := h.but (K := fun _ => False) (But.of_below hb) (fun _ e => e.elim)
theorem RQ.onDev (h : RQ ρ W k n D B tv cv nx fl T C) (hb : But (Only k.d) W W') (hd : DevAt LR (fun g => ρ g ≠ 0) W' k.d D') (ok : D'.Ok) : RQ ρ W' k n D' B tv cv nx fl T C ∧ Nx ρ W ρ W' :=
  ⟨⟨h.rf.onDev hb hd ok, h.t.but hb (fun g e e2 => by have e2 : g = k.d := e2; have := h.d5; subst e2; omega), h.c.but hb (fun g e e2 => by have e2 : g = k.d := e2; have := h.d5; subst e2; omega), h.d5, h.p6, h.g7, h.r8, fun g e => Nat.lt_of_lt_of_le (h.lt g e) hb.size⟩,
    Nx.of h.lt hb (fun g e => by have e : g = k.d := e; have := h.d5; subst e; omega)⟩
theorem RQ.onPool (h : RQ ρ W k n D B tv cv nx fl T C) (hb : But (Only k.g) W W') (hp : RPool (fun g => ρ g ≠ 0) W' k.p k.g n B') : RQ ρ W' k n D B' tv cv nx fl T C ∧ Nx ρ W ρ W' :=
  ⟨⟨h.rf.onPool hb hp, h.t.but hb (fun g e e2 => by have e2 : g = k.g := e2; have := h.g7; subst e2; omega), h.c.but hb (fun g e e2 => by have e2 : g = k.g := e2; have := h.g7; subst e2; omega), h.d5, h.p6, h.g7, h.r8, fun g e => Nat.lt_of_lt_of_le (h.lt g e) hb.size⟩,
    Nx.of h.lt hb (fun g e => by have e : g = k.g := e; have := h.g7; subst e; omega)⟩
/-- roles of new blocks -/
theorem RQ.grow {K : Nat → Prop} {ρ' : Nat → Nat} (h : RQ ρ W k n D B tv cv nx fl T C) (hb : But K W W') (hk : ∀ g, K g → ρ g ≠ 0 ∧ (ρ g < 5 ∨ 10 < ρ g)) (old : ∀ g, g < W.heap.size → ρ' g = ρ g) (lt' : ∀ g, ρ' g ≠ 0 → g < W'.heap.size) : RQ ρ' W' k n D B tv cv nx fl T C := by
  have dlt := h.rf.dev.lt
  have plt := h.rf.pool.blt
  have glt := h.rf.pool.glt
  have rl := h.rf.rlt
  have r0 : Rf (fun g => ρ' g ≠ 0) W k n D B tv cv nx fl := ⟨h.rf.dev.avoid (fun g hg e => by rw [old g hg] at e; exact e) (by show ρ' k.d ≠ 0; rw [old _ dlt, h.d5]; omega), h.rf.ok, h.rf.pool.avoid (fun g hg e => by rw [old g hg] at e; exact e) (by show ρ' k.g ≠ 0; rw [old _ glt, h.g7]; omega), h.rf.c0, h.rf.c1, h.rf.c2, h.rf.c3, h.rf.c4, h.rf.c5, h.rf.fz, by show ρ' k.r ≠ 0; rw [old _ rl, h.r8]; omega, h.rf.dp, h.rf.dg, h.rf.dr, h.rf.pr, h.rf.gr⟩
  have hk' : ∀ g, K g → ρ' g ≠ 0 := fun g e => by have := hk g e; rw [old g (h.lt g this.1)]; exact this.1
  exact ⟨r0.but hb hk' (fun e => by have := hk _ e; have := h.d5; omega) (fun e => by have := hk _ e; have := h.p6; omega) (fun e => by have := hk _ e; have := h.g7; omega) (fun e => by have := hk _ e; have := h.r8; omega),
    (h.t.own (O' := fun g => ρ' g = 9) (fun g hg e => (old g hg).trans e)).but hb (fun g e e2 => by have h2 := hk _ e2; have e : ρ' g = 9 := e; rw [old g (h.lt g h2.1)] at e; omega),
    (h.c.own (O' := fun g => ρ' g = 10) (fun g hg e => (old g hg).trans e)).but hb (fun g e e2 => by have h2 := hk _ e2; have e : ρ' g = 10 := e; rw [old g (h.lt g h2.1)] at e; omega),
    (old _ dlt).trans h.d5, (old _ plt).trans h.p6, (old _ glt).trans h.g7, (old _ rl).trans h.r8, lt'⟩
/-- a cell of the ring itself -/
theorem RQ.store (h : RQ ρ W k n D B tv cv nx fl T C) (j : Nat) (v : Value) (hj : 2 ≤ j) {tv' cv' : Value} {T' C' : List Int}
    (h2 : (if j = 2 then v else tv) = tv') (h3 : (if j = 3 then v else cv) = cv') (h4 : (if j = 4 then v else .int .i64 (nx : Int)) = .int .i64 (nx' : Int)) (h5 : (if j = 5 then v else .int .i64 (fl : Int)) = .int .i64 (fl' : Int))
    (ht : RowN (fun g => ρ g = 9) W tv' T') (hc : RowN (fun g => ρ g = 10) W cv' C') : RQ ρ (W.setCell ⟨k.r, j, none⟩ v) k n D B tv' cv' nx' fl' T' C' ∧ Nx ρ W ρ (W.setCell ⟨k.r, j, none⟩ v) := by
  have b1 : But (Only k.r) W (W.setCell ⟨k.r, j, none⟩ v) := (But.refl _ _).cellb _ _
  have nr : ∀ g, ρ g = 9 ∨ ρ g = 10 → ¬ Only k.r g := fun g e e2 => by have e2 : g = k.r := e2; have := h.r8; subst e2; omega
  exact ⟨⟨h.rf.store j v h2 h3 h4 h5 hj, ht.but b1 (fun g e => nr g (.inl e)), hc.but b1 (fun g e => nr g (.inr e)), h.d5, h.p6, h.g7, h.r8, fun g e => Nat.lt_of_lt_of_le (h.lt g e) b1.size⟩, Nx.of h.lt b1 (fun g e => by have e : g = k.r := e; have := h.r8; subst e; omega)⟩

/-- one more behind C -/
theorem RQ.pushC (h : RQ ρ W k n D B tv cv nx fl T C) (x : Int) (hl : C.length ≤ 100) :
    ∃ a' c' w2, (Builtin.append_ #[31, 31] 31 #[cv, .slice (some ⟨W.heap.size, 0, none⟩) 1 1]).run Try.prog (W.alloc (.cells #[.int .i64 x] 3)) = .ok (.slice a' (C.length + 1) c') w2 ∧ w2.cell? ⟨k.r, 3, none⟩ = some cv ∧ w2.frozen? ⟨k.r, 3, none⟩ = false ∧
      ∃ ρ', RQ ρ' (w2.setCell ⟨k.r, 3, none⟩ (.slice a' (C.length + 1) c')) k n D B tv (.slice a' (C.length + 1) c') nx fl T (C ++ [x]) ∧ Nx ρ W ρ' (w2.setCell ⟨k.r, 3, none⟩ (.slice a' (C.length + 1) c')) := by
  obtain ⟨a', c', w2, hrun, hrow, hb⟩ := h.c.push x (by omega)
  have rl := h.rf.rlt
  have nr : ¬ ρ k.r = 10 := by have := h.r8; omega
  refine ⟨a', c', w2, hrun, (hb.cell (p := ⟨k.r, 3, none⟩) rl nr).trans h.rf.c3, (hb.frozen (p := ⟨k.r, 3, none⟩) rl nr).trans (h.rf.fz 3), ?_⟩
  obtain ⟨ρ', hρ⟩ : ∃ ρ' : Nat → Nat, ρ' = fun g => if W.heap.size ≤ g ∧ g < w2.heap.size then 10 else ρ g := ⟨_, rfl⟩
  have old : ∀ g, g < W.heap.size → ρ' g = ρ g := fun g hg => by rw [hρ]; exact if_neg (by omega)
  have newr : ∀ g, W.heap.size ≤ g → g < w2.heap.size → ρ' g = 10 := fun g h1 h2 => by rw [hρ]; exact if_pos ⟨h1, h2⟩
  have out : ∀ g, w2.heap.size ≤ g → ρ' g = ρ g := fun g h1 => by rw [hρ]; exact if_neg (by omega)
  have dlt := h.rf.dev.lt
  have plt := h.rf.pool.blt
  have glt := h.rf.pool.glt
  have sz := hb.size
  have lt' : ∀ g, ρ' g ≠ 0 → g < w2.heap.size := fun g e => by
    rcases Nat.lt_or_ge g w2.heap.size with h1 | h1
    · exact h1
    · rw [out g h1] at e
      have := h.lt g e
      omega
  have r0 : Rf (fun g => ρ' g ≠ 0) W k n D B tv cv nx fl := ⟨h.rf.dev.avoid (fun g hg e => by rw [old g hg] at e; exact e) (by show ρ' k.d ≠ 0; rw [old _ dlt, h.d5]; omega), h.rf.ok, h.rf.pool.avoid (fun g hg e => by rw [old g hg] at e; exact e) (by show ρ' k.g ≠ 0; rw [old _ glt, h.g7]; omega), h.rf.c0, h.rf.c1, h.rf.c2, h.rf.c3, h.rf.c4, h.rf.c5, h.rf.fz, by show ρ' k.r ≠ 0; rw [old _ rl, h.r8]; omega, h.rf.dp, h.rf.dg, h.rf.dr, h.rf.pr, h.rf.gr⟩
  have ne : ∀ g, ρ g = 10 → ρ' g ≠ 0 := fun g e => by rw [old g (h.lt g (by omega)), e]; omega
  have r2 := r0.but hb ne (fun e => by have := h.d5; omega) (fun e => by have := h.p6; omega) (fun e => by have := h.g7; omega) nr
  have r3 := r2.store (tv' := tv) (cv' := (.slice a' (C.length + 1) c')) (nx' := nx) (fl' := fl) 3 (.slice a' (C.length + 1) c') (if_neg (by omega)) (if_pos rfl) (if_neg (by omega)) (if_neg (by omega)) (by omega)
  have b3 : But (Only k.r) w2 (w2.setCell ⟨k.r, 3, none⟩ (.slice a' (C.length + 1) c')) := (But.refl _ _).cellb _ _
  have nk : ∀ g, ρ' g = 9 ∨ ρ' g = 10 → ¬ Only k.r g := fun g e e2 => by have e2 : g = k.r := e2; have h8 := h.r8; subst e2; rw [old _ rl] at e; omega
  have oth := (h.t.own (O' := fun g => ρ' g = 9) (fun g hg e => by show ρ' g = 9; rw [old g hg]; exact e)).but hb (fun g e e2 => by have e : ρ' g = 9 := e; rw [old g (h.lt g (by omega))] at e; omega)
  have own := hrow.own (O' := fun g => ρ' g = 10) (fun g hg e => by
    show ρ' g = 10
    rcases e with e | e
    · rw [old g (h.lt g (by omega))]; exact e
    · exact newr g e.1 e.2)
  have own3 := own.but b3 (fun g e => nk g (.inr e))
  have oth3 := oth.but b3 (fun g e => nk g (.inl e))
  refine ⟨ρ', ⟨r3, oth3, own3, (old _ dlt).trans h.d5, (old _ plt).trans h.p6, (old _ glt).trans h.g7, (old _ rl).trans h.r8, fun g e => Nat.lt_of_lt_of_le (lt' g e) b3.size⟩, ⟨(hb.mono (fun g e => by omega)).trans' b3 (fun g hg e => by have e : g = k.r := e; have h8 := h.r8; subst e; omega), old, fun g hg e => ?_⟩⟩
  rcases Nat.lt_or_ge g w2.heap.size with h1 | h1
  · rw [newr g hg h1]; omega
  · have := lt' g e; omega

/-- one more behind T -/
theorem RQ.pushT (h : RQ ρ W k n D B tv cv nx fl T C) (x : Int) (hl : T.length ≤ 100) :
    ∃ a' c' w2, (Builtin.append_ #[31, 31] 31 #[tv, .slice (some ⟨W.heap.size, 0, none⟩) 1 1]).run Try.prog (W.alloc (.cells #[.int .i64 x] 3)) = .ok (.slice a' (T.length + 1) c') w2 ∧ w2.cell? ⟨k.r, 2, none⟩ = some tv ∧ w2.frozen? ⟨k.r, 2, none⟩ = false ∧
      ∃ ρ', RQ ρ' (w2.setCell ⟨k.r, 2, none⟩ (.slice a' (T.length + 1) c')) k n D B (.slice a' (T.length + 1) c') cv nx fl (T ++ [x]) C ∧ Nx ρ W ρ' (w2.setCell ⟨k.r, 2, none⟩ (.slice a' (T.length + 1) c')) := by
  obtain ⟨a', c', w2, hrun, hrow, hb⟩ := h.t.push x (by omega)
  have rl := h.rf.rlt
  have nr : ¬ ρ k.r = 9 := by have := h.r8; omega
  refine ⟨a', c', w2, hrun, (hb.cell (p := ⟨k.r, 2, none⟩) rl nr).trans h.rf.c2, (hb.frozen (p := ⟨k.r, 2, none⟩) rl nr).trans (h.rf.fz 2), ?_⟩
  obtain ⟨ρ', hρ⟩ : ∃ ρ' : Nat → Nat, ρ' = fun g => if W.heap.size ≤ g ∧ g < w2.heap.size then 9 else ρ g := ⟨_, rfl⟩
  have old : ∀ g, g < W.heap.size → ρ' g = ρ g := fun g hg => by rw [hρ]; exact if_neg (by omega)
  have newr : ∀ g, W.heap.size ≤ g → g < w2.heap.size → ρ' g = 9 := fun g h1 h2 => by rw [hρ]; exact if_pos ⟨h1, h2⟩
  have out : ∀ g, w2.heap.size ≤ g → ρ' g = ρ g := fun g h1 => by rw [hρ]; exact if_neg (by omega)
  have dlt := h.rf.dev.lt
  have plt := h.rf.pool.blt
  have glt := h.rf.pool.glt
  have sz := hb.size
  have lt' : ∀ g, ρ' g ≠ 0 → g < w2.heap.size := fun g e => by
    rcases Nat.lt_or_ge g w2.heap.size with h1 | h1
    · exact h1
    · rw [out g h1] at e
      have := h.lt g e
      omega
  have r0 : Rf (fun g => ρ' g ≠ 0) W k n D B tv cv nx fl := ⟨h.rf.dev.avoid (fun g hg e => by rw [old g hg] at e; exact e) (by show ρ' k.d ≠ 0; rw [old _ dlt, h.d5]; omega), h.rf.ok, h.rf.pool.avoid (fun g hg e => by rw [old g hg] at e; exact e) (by show ρ' k.g ≠ 0; rw [old _ glt, h.g7]; omega), h.rf.c0, h.rf.c1, h.rf.c2, h.rf.c3, h.rf.c4, h.rf.c5, h.rf.fz, by show ρ' k.r ≠ 0; rw [old _ rl, h.r8]; omega, h.rf.dp, h.rf.dg, h.rf.dr, h.rf.pr, h.rf.gr⟩
  have ne : ∀ g, ρ g = 9 → ρ' g ≠ 0 := fun g e => by rw [old g (h.lt g (by omega)), e]; omega
  have r2 := r0.but hb ne (fun e => by have := h.d5; omega) (fun e => by have := h.p6; omega) (fun e => by have := h.g7; omega) nr
  have r3 := r2.store (tv' := (.slice a' (T.length + 1) c')) (cv' := cv) (nx' := nx) (fl' := fl) 2 (.slice a' (T.length + 1) c') (if_pos rfl) (if_neg (by omega)) (if_neg (by omega)) (if_neg (by omega)) (by omega)
  have b3 : But (Only k.r) w2 (w2.setCell ⟨k.r, 2, none⟩ (.slice a' (T.length + 1) c')) := (But.refl _ _).cellb _ _
  have nk : ∀ g, ρ' g = 9 ∨ ρ' g = 10 → ¬ Only k.r g := fun g e e2 => by have e2 : g = k.r := e2; have h8 := h.r8; subst e2; rw [old _ rl] at e; omega
  have oth := (h.c.own (O' := fun g => ρ' g = 10) (fun g hg e => by show ρ' g = 10; rw [old g hg]; exact e)).but hb (fun g e e2 => by have e : ρ' g = 10 := e; rw [old g (h.lt g (by omega))] at e; omega)
  have own := hrow.own (O' := fun g => ρ' g = 9) (fun g hg e => by
    show ρ' g = 9
    rcases e with e | e
    · rw [old g (h.lt g (by omega))]; exact e
    · exact newr g e.1 e.2)
  have own3 := own.but b3 (fun g e => nk g (.inl e))
  have oth3 := oth.but b3 (fun g e => nk g (.inr e))
  refine ⟨ρ', ⟨r3, own3, oth3, (old _ dlt).trans h.d5, (old _ plt).trans h.p6, (old _ glt).trans h.g7, (old _ rl).trans h.r8, fun g e => Nat.lt_of_lt_of_le (lt' g e) b3.size⟩, ⟨(hb.mono (fun g e => by omega)).trans' b3 (fun g hg e => by have e : g = k.r := e; have h8 := h.r8; subst e; omega), old, fun g hg e => ?_⟩⟩
  rcases Nat.lt_or_ge g w2.heap.size with h1 | h1
  · rw [newr g hg h1]; omega
  · have := lt' g e; omega

end

/-- between the rounds of a fill -/
structure RfJ (ρ : Nat → Nat) (w : World) (k : Bl) (n : Nat) (x : Fl) (tv : Value) (nx : Nat) (T : List Int) (j : Nat) (y : Fl) (cv : Value) (ρ' : Nat → Nat) (wr : World) : Prop where
  q : RQ ρ' wr k n y.D y.B tv cv nx y.c.nx T y.c.ids
  b : Nx ρ w ρ' wr
  f : flN n 15 x = flN n (15 - j) y
  l : y.c.ids.length = x.c.ids.length + j
  m : y.c.ids.length ≤ 15

theorem put_nx (c : Sd) (id : Int) : (((c.nx + 1) % 16 : Nat)) = (c.put id).nx := by
  unfold Sd.nx Sd.put
  simp only [List.length_append, List.length_cons, List.length_nil]
  omega

set_option maxRecDepth 100000 in
set_option maxHeartbeats 2000000 in
theorem rfill_any {ρ : Nat → Nat} {w : World} {k : Bl} {n : Nat} {x : Fl} {tv cv : Value} {nx : Nat} {T : List Int} (h : RQ ρ w k n x.D x.B tv cv nx x.c.nx T x.c.ids) (hm : x.c.ids.length ≤ 15) :
    Calls Try.prog 91 #[.pointer (some ⟨k.r, 0, none⟩)] w fun e w' => e = .returned (.tuple #[]) ∧ ∃ ρ' cv', RQ ρ' w' k n (flF n x).D (flF n x).B tv cv' nx (flF n x).c.nx T (flF n x).c.ids ∧ Nx ρ w ρ' w' := by
  have I0 := hide h
  have HM : Hid (x.c.ids.length ≤ 15) := hm
  clear h hm
  go_enter Try.func91, Try.ntmps91
  go_wp2
  go_loopw [2] (fun v2 wr => ∃ (b : Bool) (j : Nat) (y : Fl) (cv : Value) (ρ' : Nat → Nat), v2 = .bool b ∧ Hid (b = decide (0 < j)) ∧ Hid (RfJ ρ w k n x tv nx T j y cv ρ' wr)) (fun _ wr => 15 - lenV ((wr.cell? ⟨k.r, 3, none⟩).getD undef))
  case atStart => exact ⟨false, 0, x, cv, ρ, rfl, by simp [Hid], ⟨I0.out, Nx.refl I0.out.lt, rfl, rfl, HM.out⟩⟩
  case round =>
    clear I0
    obtain ⟨b, j, y, cv, ρ', rfl, hbj, hI⟩ := hrel
    have hR := hI.out.q.rf
    have c0 := hR.c0
    have c1 := hR.c1
    have c3 := hR.c3
    have c5 := hR.c5
    obtain ⟨C, hC⟩ : ∃ C, C = y.c.ids := ⟨_, rfl⟩
    have hm := hI.out.m
    rw [← hC] at hm
    have zC : (C.length : Int) ≤ 15 := by omega
    obtain ⟨fl, hfl⟩ : ∃ fl, fl = y.c.nx := ⟨_, rfl⟩
    have fl16 : fl < 16 := by rw [hfl]; exact Nat.mod_lt _ (by omega)
    have zf : (fl : Int) < 16 := by omega
    obtain ⟨a, cc, e⟩ := hI.out.q.c.shape
    rw [← hC] at e
    subst e
    rw [← hfl] at c5
    have HC := hide hC
    have HFL := hide hfl
    have C3R := hide c3
    have XW : Hid (∀ W, Below wr.heap.size wr W → Calls Try.prog 73 #[.pointer (some ⟨k.d, 0, none⟩), .int .i64 3, .int .i64 (fl : Int)] W fun e w' => e = .returned (.int .i64 (wrE 3 (fl : Int))) ∧ RQ ρ' w' k n (y.D.wrD 3 (fl : Int)) y.B tv (.slice a C.length cc) nx y.c.nx T y.c.ids ∧ Nx ρ w ρ' w') := fun W hb => by
      have q := hI.out.q.later hb
      refine (rWrite_any q.rf.dev q.rf.ok 3 _).mono ?_
      rintro e w' ⟨rfl, hd', hbd⟩
      obtain ⟨z1, z2⟩ := q.onDev hbd hd' (q.rf.ok.wr _ _)
      exact ⟨rfl, z1, hI.out.b.trans ((Nx.of hI.out.q.lt (K := fun _ => False) (But.of_below hb) (fun _ e => e.elim)).trans z2)⟩
    have XR : Hid (∀ W B2, RQ ρ' W k n y.D B2 tv (.slice a C.length cc) nx fl T y.c.ids → Calls Try.prog 98 #[.pointer (some ⟨k.d, 0, none⟩), .int .i64 (fl : Int), .int .i64 274] W fun e w' => (∃ x, e = .returned (.int .i64 x)) ∧ RQ ρ' w' k n (y.D.srD (fl : Int) 274) B2 tv (.slice a C.length cc) nx fl T y.c.ids ∧ Nx ρ' W ρ' w') := fun W B2 p => by
      refine (rSetRx_any p.rf.dev p.rf.ok _ _).mono ?_
      rintro e w' ⟨rfl, hdv, hbd⟩
      obtain ⟨z1, z2⟩ := p.onDev hbd hdv (p.rf.ok.sr _ _)
      exact ⟨⟨_, rfl⟩, z1, z2⟩
    have fin0 : flS n y = none → b = false → flF n x = ⟨y.D, y.B, y.c⟩ := fun hs hb => by
      have e1 : flN n 15 x = y := hI.out.f.trans (flN_stop hs)
      have e2 : ¬ x.c.ids.length < y.c.ids.length := by
        have h1 := hI.out.l
        have h2 := hbj.out
        rw [hb] at h2
        have := of_decide_eq_false h2.symm
        omega
      unfold flF
      rw [e1, if_neg e2]
    have fin1 : flS n y = none → b = true → flF n x = ⟨y.D.wrD 3 (fl : Int), y.B, y.c⟩ := fun hs hb => by
      have e1 : flN n 15 x = y := hI.out.f.trans (flN_stop hs)
      have e2 : x.c.ids.length < y.c.ids.length := by
        have h1 := hI.out.l
        have h2 := hbj.out
        rw [hb] at h2
        have := of_decide_eq_true h2.symm
        omega
      unfold flF
      rw [e1, if_pos e2, HFL.out]
    have F0 := hide fin0
    have F1 := hide fin1
    clear fin0 fin1 hC hfl hm
    by_cases hlt : C.length < 15
    · have zl : (C.length : Int) < 15 := by omega
      cases hgt : gt n y.B with
      | none =>
        have X := hide (rGet_no hR.pool (gt_none hgt))
        have HS := hide (flS_none hgt)
        clear hR
        go_wp2_with fail
        refine X.out.mono ?_
        rintro _ w1 ⟨rfl, hw⟩
        have hw' := hw.symm
        subst hw'
        clear hw X
        cases b with
        | false =>
          go_wp2_with fail
          go_end0
          refine ⟨rfl, ?_⟩
          rw [F0.out HS.out (by simp)]
          first
            | exact ⟨ρ', _, hI.out.q, hI.out.b⟩
            | exact ⟨ρ', ⟨_, hI.out.q⟩, hI.out.b⟩
        | true =>
          go_upto_region 9 with fail
          have q7 : Below wr.heap.size wr wr.drew := undrew0 (Below.refl _ _)
          go_region_with (go_at_call 73; refine (XW.out wr.drew q7).mono ?_; rintro _ w9 ⟨rfl, b9⟩)
          all_goals go_end0
          all_goals refine ⟨rfl, ?_⟩
          all_goals rw [F1.out HS.out (by simp)]
          all_goals first
            | exact ⟨ρ', _, b9⟩
            | exact ⟨ρ', ⟨_, b9.1⟩, b9.2⟩
      | some i =>
        obtain ⟨hi, h0, hl0⟩ := gt_some hgt
        have X := hide (rGet_yes hR.pool i hi h0 hl0)
        have HS := hide (flS_some (x := y) (by have := HC.out; rw [← this]; exact hlt) hgt)
        have Q0 := hide hI.out.q
        clear XW hR
        go_wp2_with fail
        refine X.out.mono ?_
        rintro _ w1 ⟨rfl, hp1, hb1⟩
        obtain ⟨q1, n1⟩ := Q0.out.onPool hb1 hp1
        rw [← HFL.out] at q1
        have Q1 := hide q1
        have N1 := hide n1
        clear hp1 hb1 X h0 hl0 c0 c1 c3 c5 hgt Q0 q1 n1
        go_upto_region 4 with fail
        have c01 := Q1.out.rf.c0
        have c51 := Q1.out.rf.c5
        have XS := hide (XR.out w1.drew _ (Q1.out.later (undrew0 (Below.refl _ _))))
        have ND : Hid (Nx ρ' w1 ρ' w1.drew) := Nx.of Q1.out.lt (K := fun _ => False) (But.of_below (undrew0 (Below.refl _ _))) (fun _ e => e.elim)
        clear XR
        go_cut [2, 3] from 5 to 48 (fun v2 v3 wc => v2 = .bool b ∧ v3 = .int .i64 (i : Int) ∧ Hid (RQ ρ' wc k n (y.D.srD (fl : Int) 274) (upd y.B i ⟨1, [], []⟩) tv (.slice a C.length cc) nx fl T y.c.ids ∧ Nx ρ' w1 ρ' wc))
        case first =>
          go_region_with (go_at_call 98; refine XS.out.mono ?_; rintro _ w9 ⟨⟨x, rfl⟩, p9, b9⟩; have F9 : Hid (RQ ρ' w9 k n (y.D.srD (fl : Int) 274) (upd y.B i ⟨1, [], []⟩) tv (.slice a C.length cc) nx fl T y.c.ids ∧ Nx ρ' w1 ρ' w9) := ⟨p9, ND.out.trans b9⟩; clear p9 b9)
          all_goals go_wp2
          all_goals go_meet
          all_goals exact ⟨rfl, rfl, F9.out⟩
        case rest =>
          obtain ⟨rfl, rfl, h5⟩ := hcut
          obtain ⟨p3, b3⟩ := h5.out
          have c53 := p3.rf.c5
          have f53 := p3.rf.fz 5
          have EM : ((fl : Int) + 1) % 16 = (((fl + 1) % 16 : Nat) : Int) := by omega
          obtain ⟨p4, b4⟩ := p3.store (tv' := tv) (cv' := .slice a C.length cc) (nx' := nx) (fl' := (fl + 1) % 16) 5 (.int .i64 (((fl : Int) + 1) % 16)) (by omega) (if_neg (by omega)) (if_neg (by omega)) (if_neg (by omega)) (by rw [if_pos rfl, EM]) p3.t p3.c
          have P4 := hide p4
          have B4 : Hid (Nx ρ w ρ' (wc.setCell ⟨k.r, 5, none⟩ (.int .i64 (((fl : Int) + 1) % 16)))) := hI.out.b.trans (N1.out.trans (b3.trans b4))
          clear EM h5 p3 b3 p4 b4 XS ND c01 c51 Q1 N1
          go_upto_region 6 with fail
          clear c53 f53
          generalize wc.setCell ⟨k.r, 5, none⟩ (.int .i64 (((fl : Int) + 1) % 16)) = w4 at *
          obtain ⟨a', c', w5, hrun, c35, f35, ρ5, q6, b6⟩ := P4.out.pushC (i : Int) (by rw [← HC.out]; omega)
          have c34 := P4.out.rf.c3
          rw [← HC.out] at hrun q6 b6
          have Q6 := hide q6
          have N6 := hide (B4.out.trans b6)
          have HRN := hide hrun
          have M6 := hide q6.rf.c3
          clear hrun q6 b6 P4 B4
          go_wp2_with (at_builtin; refine wpList_app rfl _ _ 31 31 rfl _ _ rfl rfl HRN.out ?_)
          go_wp2
          go_roundw
          case rel =>
            refine ⟨true, j + 1, ⟨y.D.srD y.c.nx 274, upd y.B i ⟨1, [], []⟩, y.c.put (i : Int)⟩, .slice a' (C.length + 1) c', ρ5, rfl, by simp [Hid], ⟨?_, N6.out, ?_, ?_, ?_⟩⟩
            · have q := Q6.out
              have e1 : (fl + 1) % 16 = (y.c.put (i : Int)).nx := by rw [HFL.out]; exact put_nx _ _
              have e2 : C ++ [(i : Int)] = (y.c.put (i : Int)).ids := by rw [HC.out]; rfl
              have e3 : (fl : Int) = (y.c.nx : Int) := by rw [HFL.out]
              rw [e1, e2, e3] at q
              exact q
            · rw [hI.out.f]
              have h15 : j < 15 := by have h1 := hI.out.l; have h2 := HC.out; rw [← h2] at h1; omega
              rw [show 15 - j = (15 - (j + 1)) + 1 by omega, flN_step HS.out]
            · have h1 := hI.out.l
              show (y.c.ids ++ [(i : Int)]).length = _
              rw [List.length_append]; simp; omega
            · have h2 := HC.out
              show (y.c.ids ++ [(i : Int)]).length ≤ 15
              rw [← h2, List.length_append]; simp; omega
          case measure =>
            rw [M6.out, C3R.out]
            show 15 - (C.length + 1) < 15 - C.length
            omega
    · have zl : ¬ (C.length : Int) < 15 := by omega
      have HS : Hid (flS n y = none) := flS_full (by rw [← HC.out]; exact hlt)
      clear hR
      cases b with
      | false =>
        go_wp2_with fail
        go_end0
        refine ⟨rfl, ?_⟩
        rw [F0.out HS.out (by simp)]
        first
            | exact ⟨ρ', _, hI.out.q, hI.out.b⟩
            | exact ⟨ρ', ⟨_, hI.out.q⟩, hI.out.b⟩
      | true =>
        go_upto_region 9 with fail
        have q7 : Below wr.heap.size wr wr.drew := undrew0 (Below.refl _ _)
        go_region_with (go_at_call 73; refine (XW.out wr.drew q7).mono ?_; rintro _ w9 ⟨rfl, b9⟩)
        all_goals go_end0
        all_goals refine ⟨rfl, ?_⟩
        all_goals rw [F1.out HS.out (by simp)]
        all_goals first
            | exact ⟨ρ', _, b9⟩
            | exact ⟨ρ', ⟨_, b9.1⟩, b9.2⟩
end Go.Proofs.Ytjkfjijnjkpbbaa
