
/-
  A row of structs at the beginning of a block; one more.
-/
import Derived.Test.YtgempelfamjabaaT5
namespace Go.Proofs.Ytgempelfamjabaa
open Go.RowKit


/-- the slice v holds 'len' structs of n cells each, from the beginning of a block of O on -/
def RowF (n : Nat) (O : Nat → Prop) (W : World) (v : Value) (len : Nat) (c : Nat → List Value) : Prop :=
  ∃ a cap, v = .slice a len cap ∧ len ≤ cap ∧ cap ≤ maxLen ∧ (a = none → cap = 0) ∧ ∀ ad, a = some ad → ∃ g, ad = ⟨g, 0, none⟩ ∧ O g ∧ g < W.heap.size ∧ (∀ j, j < cap * n → (W.cell? ⟨g, j, none⟩).isSome = true) ∧ (∀ j, W.frozen? ⟨g, j, none⟩ = false) ∧ ∀ q, q < len → CellsAt W g (q * n) (c q)
section
variable {n : Nat} {O K : Nat → Prop} {W W' : World} {v : Value} {len : Nat} {c : Nat → List Value}
theorem RowF.nil (n : Nat) (O : Nat → Prop) (W : World) (c : Nat → List Value) : RowF n O W (.slice none 0 0) 0 c := ⟨none, 0, rfl, Nat.le_refl _, Nat.zero_le _, fun _ => rfl, fun ad e => by cases e⟩
theorem RowF.but (h : RowF n O W v len c) (hb : But K W W') (hk : ∀ g, O g → ¬ K g) : RowF n O W' v len c := by
  obtain ⟨a, cap, c1, c2, c3, c4, c5⟩ := h
  refine ⟨a, cap, c1, c2, c3, c4, fun ad e => ?_⟩
  obtain ⟨g, d1, d2, d3, d4, d5, d6⟩ := c5 ad e
  have ng := hk g d2
  exact ⟨g, d1, d2, Nat.lt_of_lt_of_le d3 hb.size, fun j hj => by rw [hb.cell (p := ⟨g, j, none⟩) d3 ng]; exact d4 j hj, fun j => (hb.frozen (p := ⟨g, j, none⟩) d3 ng).trans (d5 j), fun q hq => (d6 q hq).but d3 hb ng⟩
theorem RowF.later (h : RowF n O W v len c) (hb : Below W.heap.size W W') : RowF n O W' v len c := h.but (K := fun _ => False) (But.of_below hb) (fun _ _ => id)
theorem RowF.own {O' : Nat → Prop} (h : RowF n O W v len c) (ho : ∀ g, g < W.heap.size → O g → O' g) : RowF n O' W v len c := by
  obtain ⟨a, cap, c1, c2, c3, c4, c5⟩ := h
  refine ⟨a, cap, c1, c2, c3, c4, fun ad e => ?_⟩
  obtain ⟨g, d1, d2, d3, rest⟩ := c5 ad e
  exact ⟨g, d1, ho g d3 d2, d3, rest⟩
theorem RowF.shape (h : RowF n O W v len c) : ∃ a cap, v = .slice a len cap := by
  obtain ⟨a, cap, c1, _⟩ := h
  exact ⟨a, cap, c1⟩
theorem RowF.cong {c' : Nat → List Value} (h : RowF n O W v len c) (e : ∀ q, q < len → c' q = c q) : RowF n O W v len c' := by
  obtain ⟨a, cap, c1, c2, c3, c4, c5⟩ := h
  refine ⟨a, cap, c1, c2, c3, c4, fun ad ea => ?_⟩
  obtain ⟨g, d1, d2, d3, d4, d5, d6⟩ := c5 ad ea
  exact ⟨g, d1, d2, d3, d4, d5, fun q hq => by rw [e q hq]; exact d6 q hq⟩
theorem RowF.at {a : Option Addr} {m cap : Nat} (h : RowF n O W (.slice a m cap) len c) (hp : 0 < len) : ∃ g, a = some ⟨g, 0, none⟩ ∧ g < W.heap.size ∧ O g ∧ (∀ j, W.frozen? ⟨g, j, none⟩ = false) ∧ ∀ q, q < len → CellsAt W g (q * n) (c q) := by
  obtain ⟨a', cap', e, c2, c3, c4, c5⟩ := h
  simp only [Value.slice.injEq] at e
  obtain ⟨rfl, rfl, rfl⟩ := e
  cases a with
  | none => have := c4 rfl; omega
  | some ad =>
    obtain ⟨g, rfl, d2, d3, d4, d5, d6⟩ := c5 ad rfl
    exact ⟨g, rfl, d3, d2, d5, d6⟩
/-- one struct stored anew -/
theorem RowF.set (h : RowF n O W v len c) (hn : ∀ q, q < len → (c q).length = n) {q : Nat} (hq : q < len) (x : List Value) (hx : x.length = n) {g : Nat} {m cap : Nat} (hv : v = .slice (some ⟨g, 0, none⟩) m cap) : RowF n O (W.setCells g (q * n) x) v len (fun j => if j = q then x else c j) := by
  obtain ⟨a, cap', c1, c2, c3, c4, c5⟩ := h
  rw [hv] at c1
  simp only [Value.slice.injEq] at c1
  obtain ⟨rfl, rfl, rfl⟩ := c1
  refine ⟨_, _, hv, c2, c3, c4, fun ad e => ?_⟩
  cases e
  obtain ⟨g', e', d2, d3, d4, d5, d6⟩ := c5 _ rfl
  cases e'
  have hb := But.cells g x (q * n) W
  refine ⟨g, rfl, d2, Nat.lt_of_lt_of_le d3 hb.size, fun j hj => ?_, fun j => ?_, fun p hp => ?_⟩
  · by_cases e : q * n ≤ j ∧ j < q * n + n
    · rw [show j = q * n + (j - q * n) by omega]
      rw [World.cell?_setCells_in g x (q * n) W (fun i hi => d4 _ (by have h1 : q * n + n ≤ cap * n := by rw [← Nat.succ_mul]; exact Nat.mul_le_mul_right _ (by omega)
                                                                      omega)) (j - q * n) (by omega)]
      rfl
    · rw [setCells_out (by omega)]; exact d4 j hj
  · rw [World.frozen?_setCells]; exact d5 j
  · show CellsAt _ g (p * n) (if p = q then x else c p)
    by_cases e : p = q
    · subst e
      rw [if_pos rfl]
      exact (d6 p hp).stored (by rw [hn p hp]; exact hx)
    · rw [if_neg e]
      refine (d6 p hp).other ?_
      rw [hn p hp, hx]
      rcases Nat.lt_or_gt_of_ne e with h' | h'
      · left; rw [← Nat.succ_mul]; exact Nat.mul_le_mul_right _ h'
      · right; rw [← Nat.succ_mul]; exact Nat.mul_le_mul_right _ h'
end

set_option maxHeartbeats 1000000 in
/-- structs more: 'append' of a row -/
theorem RowF.more {n : Nat} {O : Nat → Prop} {W : World} {v : Value} {len : Nat} {c : Nat → List Value} (T E : TypeId) (i : TypeInfo) (z : Value) (hT : Try.prog.underlying T = some (.slice E)) (hi : Try.prog.info? E = some i) (hz0 : i.zero = some z) (hz1 : i.size = n) (hzb : i.bytes ≤ 1000) (hzc : z.cells.size = n)
    (h : RowF n O W v len c) (hn : ∀ q, q < len → (c q).length = n) (h1 : ∀ q, q < len → ∀ u ∈ c q, u.oneCell' = true) (y : Value) (m : Nat) (d : Nat → List Value) (news : List Value) (hN : news.length = m * n) (hd : ∀ q, q < m → ∀ j u, (d q)[j]? = some u → news[q * n + j]? = some u) (hdn : ∀ q, q < m → (d q).length = n)
    (hs : Src Try.prog n T y m news W) (hm : 0 < m) (hl : len + m ≤ 1000000000) :
    ∃ a' c' w2, (Builtin.append_ #[T, T] T #[v, y]).run Try.prog W = .ok (.slice a' (len + m) c') w2 ∧ RowF n (fun g => O g ∨ g = W.heap.size) w2 (.slice a' (len + m) c') (len + m) (fun q => if q < len then c q else d (q - len)) ∧ But O W w2 := by
  obtain ⟨a, cap, rfl, c2, c3, c4, c5⟩ := h
  by_cases hr : len + m ≤ cap
  · obtain ⟨ad, rfl⟩ : ∃ ad, a = some ad := by
      cases a with
      | none => have := c4 rfl; omega
      | some ad => exact ⟨ad, rfl⟩
    obtain ⟨g, rfl, d2, d3, d4, d5, d6⟩ := c5 ad rfl
    have hle : (len + m) * n ≤ cap * n := Nat.mul_le_mul_right _ hr
    rw [Nat.add_mul] at hle
    have hrun := run_append_room_src (P := Try.prog) W T T T E i hT hi g 0 len cap y m news (by rw [hz1]; exact hs) hr
      (fun j hj => by rw [hz1]; exact d4 _ (by omega)) (fun j hj => d5 _)
    rw [hz1, Nat.zero_add] at hrun
    have b2 : But O W (W.setCells g (len * n) news) := (But.cells g news _ _).mono (fun y e => e ▸ d2)
    refine ⟨_, cap, _, hrun, ⟨_, cap, rfl, hr, c3, (fun e => by cases e), fun ad e => ?_⟩, b2⟩
    cases e
    have inn : ∀ j, j < news.length → (W.setCells g (len * n) news).cell? ⟨g, len * n + j, none⟩ = news[j]? := fun j hj => by
      rw [World.cell?_setCells_in g news (len * n) W (fun j hj => d4 _ (by omega)) j hj]
      exact (List.getElem?_eq_getElem hj).symm
    refine ⟨g, rfl, .inl d2, Nat.lt_of_lt_of_le d3 b2.size, fun j hj => ?_, fun k => ?_, fun q hq => ?_⟩
    · by_cases e : len * n ≤ j ∧ j < len * n + news.length
      · rw [show j = len * n + (j - len * n) by omega, inn _ (by omega), List.getElem?_eq_getElem (by omega)]; rfl
      · rw [setCells_out (by omega)]; exact d4 j hj
    · rw [World.frozen?_setCells]; exact d5 k
    · show CellsAt _ _ (q * n) (if q < len then c q else d (q - len))
      by_cases e : q < len
      · rw [if_pos e]
        refine (d6 q e).other ?_
        left
        rw [hn q e, ← Nat.succ_mul]; exact Nat.mul_le_mul_right _ e
      · rw [if_neg e]
        intro j u hu
        have hj : j < n := by have := (List.getElem?_eq_some_iff.1 hu).1; rw [hdn _ (by omega)] at this; exact this
        have h2 : (q - len) * n + j < m * n := by
          have : (q - len + 1) * n ≤ m * n := Nat.mul_le_mul_right _ (by omega)
          rw [Nat.succ_mul] at this
          omega
        have h3 : q * n = len * n + (q - len) * n := by rw [← Nat.add_mul, show len + (q - len) = q by omega]
        rw [h3, Nat.add_assoc, inn _ (by omega)]
        exact hd _ (by omega) j u hu
  · obtain ⟨olds, hold, ho1, ho2⟩ : ∃ olds : List Value, (Builtin.firstCells i.size len (.slice a len cap)).run Try.prog W.drew = .ok olds.toArray W.drew ∧ olds.length = len * n ∧ ∀ q, q < len → ∀ j u, (c q)[j]? = some u → olds[q * n + j]? = some u := by
      rw [hz1]
      cases a with
      | none =>
        have h0 := c4 rfl
        obtain rfl : len = 0 := by omega
        exact ⟨[], run_firstCells_none _ n 0 0 cap, by simp, fun q hq => by omega⟩
      | some ad =>
        obtain ⟨g, rfl, d2, d3, d4, d5, d6⟩ := c5 ad rfl
        refine ⟨(List.range (len * n)).map (fun j => (W.cell? ⟨g, j, none⟩).getD undef), run_firstCells_some _ n len ⟨g, 0, none⟩ len cap _ (by simp) (fun j u hu => ?_), by simp, fun q hq j u hu => ?_⟩
        · have hj : j < len * n := by have := (List.getElem?_eq_some_iff.1 hu).1; simpa using this
          have hj2 : j < cap * n := Nat.lt_of_lt_of_le hj (Nat.mul_le_mul_right _ c2)
          rw [Addr.add_lit, Nat.zero_add]
          show W.cell? ⟨g, j, none⟩ = some u
          rw [List.getElem?_map, List.getElem?_range hj] at hu
          have hu : some ((W.cell? ⟨g, j, none⟩).getD undef) = some u := hu
          obtain ⟨x, hx⟩ := Option.isSome_iff_exists.1 (d4 j hj2)
          rw [hx] at hu ⊢
          exact hu
        · have hj : j < n := by have := (List.getElem?_eq_some_iff.1 hu).1; rw [hn _ hq] at this; exact this
          have h2 : q * n + j < len * n := by
            have : (q + 1) * n ≤ len * n := Nat.mul_le_mul_right _ (by omega)
            rw [Nat.succ_mul] at this
            omega
          rw [List.getElem?_map, List.getElem?_range h2]
          show some ((W.cell? ⟨g, q * n + j, none⟩).getD undef) = some u
          rw [d6 q hq j u hu]; rfl
    have hbb : (len + m) * i.bytes ≤ 1000000000 * 1000 := Nat.mul_le_mul hl hzb
    have hrun := run_append_grow_src (P := Try.prog) W T T T E i z hT hi hz0 a len cap olds hold y m news (by rw [hz1]; exact hs) (by omega) (by omega) (growslice_fits (by omega) (by omega))
    obtain ⟨C, hC⟩ : ∃ C, C = grownCap W (len + m) cap E := ⟨_, rfl⟩
    have hge := grownCap_ge W (len + m) cap E
    have hle := grownCap_le_maxLen W (len + m) cap E (by unfold maxLen; omega)
    rw [← hC] at hrun hge hle
    obtain ⟨Z, hZ⟩ : ∃ Z, Z = (olds ++ news).toArray ++ Builtin.zeroCells z.cells (C - (len + m)) := ⟨_, rfl⟩
    rw [← hZ] at hrun
    have zs : Z.size = C * n := by
      rw [hZ, Array.size_append, size_zeroCells, hzc]
      simp only [List.size_toArray, List.length_append, ho1, hN]
      rw [← Nat.add_mul, ← Nat.add_mul, show len + m + (C - (len + m)) = C by omega]
    have zk : ∀ j u, (olds ++ news)[j]? = some u → Z[j]? = some u := fun j u hu => by
      have hlt := (List.getElem?_eq_some_iff.1 hu).1
      rw [hZ, Array.getElem?_append_left (by simpa using hlt), List.getElem?_toArray]
      exact hu
    have bD : But O W (W.drew.alloc (.cells Z E)) := ((But.refl _ _).drew).alloc _
    have sD : (W.drew.alloc (.cells Z E)).heap.size = W.heap.size + 1 := by simp
    have hnn : W.drew.heap.size = W.heap.size := rfl
    have cz : ∀ k u', Z[k]? = some u' → (W.drew.alloc (.cells Z E)).cell? ⟨W.heap.size, k, none⟩ = some u' := fun k u' hk => by
      rw [← hnn, cell_of_row _ W.drew.heap.size k _ E (0, 0) (heap_alloc_new _ _)]
      exact hk
    refine ⟨_, C, _, hrun, ⟨_, C, rfl, hge, hle, (fun e => by cases e), fun ad e => ?_⟩, bD⟩
    cases e
    refine ⟨W.heap.size, rfl, .inr rfl, by rw [sD]; omega, fun j hj => ?_, fun k => ?_, fun q hq => ?_⟩
    · rw [cz j Z[j] (Array.getElem?_eq_getElem (by omega))]; rfl
    · rw [← hnn]; exact frozen_new _ _ _ _
    · show CellsAt _ _ (q * n) (if q < len then c q else d (q - len))
      by_cases e : q < len
      · rw [if_pos e]
        intro j u hu
        have h3 := ho2 q e j u hu
        exact cz _ _ (zk _ _ (by rw [List.getElem?_append_left (List.getElem?_eq_some_iff.1 h3).1]; exact h3))
      · rw [if_neg e]
        intro j u hu
        have h3 := hd (q - len) (by omega) j u hu
        have h4 : q * n = len * n + (q - len) * n := by rw [← Nat.add_mul, show len + (q - len) = q by omega]
        refine cz _ _ (zk _ _ ?_)
        rw [h4, List.getElem?_append_right (by omega), ho1, show len * n + (q - len) * n + j - len * n = (q - len) * n + j by omega]
        exact h3
/-- one struct more, out of a literal's row -/
theorem RowF.push {n : Nat} {O : Nat → Prop} {W : World} {v : Value} {len : Nat} {c : Nat → List Value} (T E : TypeId) (i : TypeInfo) (z : Value) (hT : Try.prog.underlying T = some (.slice E)) (hi : Try.prog.info? E = some i) (hz0 : i.zero = some z) (hz1 : i.size = n) (hzb : i.bytes ≤ 1000) (hzc : z.cells.size = n)
    (h : RowF n O W v len c) (hn : ∀ q, q < len → (c q).length = n) (h1 : ∀ q, q < len → ∀ u ∈ c q, u.oneCell' = true) (x : List Value) (hx : x.length = n) (hx1 : ∀ u ∈ x, u.oneCell' = true) (s : Nat) (hc : CellsAt W s 0 x) (hl : len + 1 ≤ 1000000000) :
    ∃ a' c' w2, (Builtin.append_ #[T, T] T #[v, .slice (some ⟨s, 0, none⟩) 1 1]).run Try.prog W = .ok (.slice a' (len + 1) c') w2 ∧ RowF n (fun g => O g ∨ g = W.heap.size) w2 (.slice a' (len + 1) c') (len + 1) (fun q => if q < len then c q else x) ∧ But O W w2 :=
  h.more T E i z hT hi hz0 hz1 hzb hzc hn h1 _ 1 (fun _ => x) x (by omega) (fun q hq j u hu => by rw [show q = 0 by omega, Nat.zero_mul, Nat.zero_add]; exact hu) (fun _ _ => hx)
    (Src.ofSlice (P := Try.prog) _ hT ⟨s, 0, none⟩ 1 1 x (by omega) (fun j u hu => by rw [Addr.add_lit]; exact hc j u hu) hx1) (by omega) hl
end Go.Proofs.Ytgempelfamjabaa
