
/-
  Package udp: a line in memory; slices.Delete of its first; the queue's push and pop.
-/
import Derived.Test.YthjeaebpboilpaaU18
namespace Go.Proofs.Ythjeaebpboilpaa
open Go.RowKit Go.Shelf

theorem del_first7 {W : World} {g cap m : Nat} {c : Nat → List Value} (hc : ∀ j, (c j).length = 7) (h1 : ∀ j, j < m + 1 → ∀ u ∈ c j, u.oneCell' = true) {O : Nat → Prop} (h : RowF 7 O W (.slice (some ⟨g, 0, none⟩) (m + 1) cap) (m + 1) c) (k7 : Nat) (hk7 : (cap ≠ 1 → k7 = 7)) :
    ∃ W1 W2, (Builtin.append_ #[51, 51] 51 #[.slice (some ⟨g, 0, none⟩) 0 cap, .slice (some ⟨g, k7, none⟩) m (cap - 1)]).run Try.prog W.drew = .ok (.slice (some ⟨g, 0, none⟩) m cap) W1 ∧ (∀ ty, (Builtin.clear_ #[51] ty #[.slice (some ⟨g, m * 7, none⟩) 1 (cap - m)]).run Try.prog W1 = .ok (.tuple #[]) W2) ∧ RowF 7 O W2 (.slice (some ⟨g, 0, none⟩) m cap) m (fun j => c (j + 1)) ∧ But (Only g) W W2 ∧ O g := by
  obtain ⟨i0, hi, hz0, hz1, hz2⟩ := info_parts info_dg
  obtain ⟨a, cap', e, c2, c3, c4, c5⟩ := h
  simp only [Value.slice.injEq] at e
  obtain ⟨rfl, _, rfl⟩ := e
  obtain ⟨g', e, d2, d3, d4, d5, d6⟩ := c5 _ rfl
  cases e
  obtain ⟨news, hnews⟩ : ∃ news, news = (List.range m).flatMap (fun j => c (j + 1)) := ⟨_, rfl⟩
  have nl : news.length = m * 7 := by rw [hnews]; exact flat_len _ (fun j => hc (j + 1)) m
  have na : ∀ j, j < m * 7 → news[j]? = (c (j / 7 + 1))[j % 7]? := fun j hj => by rw [hnews]; exact flat_at _ (fun j => hc (j + 1)) m j hj
  have hd4 : ∀ j, j < cap * 7 → (W.drew.cell? ⟨g, j, none⟩).isSome = true := d4
  have no : ∀ u ∈ news, u.oneCell' = true := fun u hu => by
    rw [hnews] at hu
    obtain ⟨j, hj1, hj⟩ := List.mem_flatMap.1 hu
    exact h1 _ (by have := List.mem_range.1 hj1; omega) u hj
  have hs : Src Try.prog 7 51 (.slice (some ⟨g, k7, none⟩) m (cap - 1)) m news W.drew := Src.ofSlice (P := Try.prog) _ Try.underlying51 ⟨g, k7, none⟩ m (cap - 1) news (by omega) (fun j u hu => by
    have hj := (List.getElem?_eq_some_iff.1 hu).1
    rw [na j (by omega)] at hu
    have e7 : k7 = 7 := hk7 (by omega)
    rw [Addr.add_lit, e7]
    have := d6 (j / 7 + 1) (by omega) (j % 7) u hu
    rw [show (j / 7 + 1) * 7 + j % 7 = 7 + j by omega] at this
    exact this) no
  have hrun := run_append_room_src (P := Try.prog) W.drew 51 51 51 57 i0 Try.underlying51 hi g 0 0 cap _ m news (by rw [hz1]; exact hs) (by omega) (fun j hj => by rw [hz1]; exact hd4 _ (by omega)) (fun j hj => d5 _)
  rw [hz1, Nat.zero_add] at hrun
  simp only [Nat.zero_mul, Nat.zero_add] at hrun
  obtain ⟨W1, hW1⟩ : ∃ W1, W1 = W.drew.setCells g 0 news := ⟨_, rfl⟩
  rw [← hW1] at hrun
  have inn : ∀ j, j < m * 7 → W1.cell? ⟨g, j, none⟩ = news[j]? := fun j hj => by
    have := World.cell?_setCells_in g news 0 W.drew (fun j hj => hd4 _ (by omega)) j (by omega)
    rw [hW1]
    simp only [Nat.zero_add] at this
    rw [this]
    exact (List.getElem?_eq_getElem (by omega)).symm
  have out : ∀ j, m * 7 ≤ j → W1.cell? ⟨g, j, none⟩ = W.cell? ⟨g, j, none⟩ := fun j hj => by
    rw [hW1, setCells_out (by omega)]; rfl
  have fz1 : ∀ j, W1.frozen? ⟨g, j, none⟩ = false := fun j => by rw [hW1, World.frozen?_setCells]; exact d5 j
  have b1 : But (Only g) W W1 := by rw [hW1]; exact ((But.refl (Only g) W).drew).trans (But.cells g news 0 W.drew)
  have hz : (Builtin.zeroCells (Value.agg zD.cells.toArray).cells 1).toList = zD.cells := by kernel_rfl
  have zo : ∀ u ∈ zD.cells, u.oneCell' = true := by
    intro u hu
    simp only [Dg.cells, zD, List.mem_cons, List.not_mem_nil, or_false] at hu
    rcases hu with rfl | rfl | rfl | rfl | rfl | rfl | rfl <;> rfl
  have hst := run_storeCells_cells (P := Try.prog) g (m * 7) zD.cells 0 W1 (fun j hj => by
    have hj : j < 7 := hj
    rw [Nat.add_zero, out _ (by omega)]; exact d4 _ (by omega)) (fun j hj => fz1 _) zo
  simp only [Nat.add_zero] at hst
  have zv : ∀ W, (zeroValue 57).run Try.prog W = .ok (.agg zD.cells.toArray) W := fun W => by kernel_rfl
  refine ⟨W1, W1.setCells g (m * 7) zD.cells, hrun, fun ty => ?_, ⟨_, cap, rfl, by omega, c3, (fun e => by cases e), fun ad e => ?_⟩, b1.trans (But.cells g zD.cells (m * 7) W1), d2⟩
  · simp [Builtin.clear_, run_underlying Try.underlying51, zv, hz, hst]
  · cases e
    have sz : (W1.setCells g (m * 7) zD.cells).heap.size = W1.heap.size := size_setCells _ _ _ _
    have hzl : zD.cells.length = 7 := rfl
    refine ⟨g, rfl, d2, by rw [sz]; exact Nat.lt_of_lt_of_le d3 b1.size, fun j hj => ?_, fun j => by rw [World.frozen?_setCells]; exact fz1 j, fun q hq j u hu => ?_⟩
    · by_cases hj1 : m * 7 ≤ j ∧ j < m * 7 + 7
      · have := World.cell?_setCells_in g zD.cells (m * 7) W1 (fun j hj => by
          have hj : j < 7 := hj
          rw [out _ (by omega)]; exact d4 _ (by omega)) (j - m * 7) (by rw [hzl]; omega)
        rw [show m * 7 + (j - m * 7) = j by omega] at this
        rw [this]; rfl
      · rw [setCells_out (by rw [hzl]; omega)]
        by_cases hj2 : j < m * 7
        · rw [inn j hj2, List.getElem?_eq_getElem (by omega)]; rfl
        · rw [out j (by omega)]; exact d4 j hj
    · have hj : j < 7 := by have := (List.getElem?_eq_some_iff.1 hu).1; rw [hc] at this; exact this
      rw [setCells_out (by rw [hzl]; omega), inn _ (by omega), na _ (by omega), show (q * 7 + j) / 7 = q by omega, show (q * 7 + j) % 7 = j by omega]
      exact hu
set_option maxRecDepth 100000 in
set_option maxHeartbeats 4000000 in
theorem uDel_any {w : World} {g cap m : Nat} {c : Nat → List Value} (hm : m < 4) (hc : ∀ j, (c j).length = 7) (h1 : ∀ j, j < m + 1 → ∀ u ∈ c j, u.oneCell' = true) {O : Nat → Prop} (h : RowF 7 O w (.slice (some ⟨g, 0, none⟩) (m + 1) cap) (m + 1) c) :
    Calls Try.prog 53 #[.slice (some ⟨g, 0, none⟩) (m + 1) cap, .int .i64 0, .int .i64 1] w fun e w' => e = .returned (.slice (some ⟨g, 0, none⟩) m cap) ∧ RowF 7 O w' (.slice (some ⟨g, 0, none⟩) m cap) m (fun j => c (j + 1)) ∧ But (Only g) w w' := by
  have hnc : m + 1 ≤ cap ∧ cap ≤ maxLen := by
    obtain ⟨a, cap', e, c2, c3, _⟩ := h
    simp only [Value.slice.injEq] at e
    omega
  have x3 : (cap : Int) ≤ 9223372036854775807 := by have := hnc.2; unfold maxLen at this; omega
  by_cases e1 : cap = 1
  · have m0 : m = 0 := by omega
    subst m0
    subst e1
    obtain ⟨W1, W2, hr1, hr2, hrow, hb, _⟩ := del_first7 hc h1 h 0 (fun e => absurd rfl e)
    simp only [Nat.zero_mul, Nat.sub_zero, Nat.sub_self] at hr1 hr2
    have HR := hide hr1
    have HROW := hide hrow
    have HB := hide hb
    clear h hr1 hrow hb
    go_enter Try.func53, Try.ntmps53
    go_wp2
    go_region_law (refine step_app rfl 51 _ _ rfl rfl _ _ _ _ (by simp [Act.eval, Act.put]) (by simp [Act.eval, Act.put]) HR.out ?_)
    all_goals go_wp2
    all_goals go_ret
    all_goals exact ⟨rfl, HROW.out, HB.out⟩
  · obtain ⟨W1, W2, hr1, hr2, hrow, hb, _⟩ := del_first7 hc h1 h 7 (fun _ => rfl)
    have HROW := hide hrow
    have HB := hide hb
    have x2 : ((m : Int) + 1) ≤ cap := by omega
    have z8 : ¬ cap = 1 := e1
    have z10 : 1 ≤ cap := by omega
    have zm : ¬ cap = m := by omega
    clear h hrow hb h1 hc
    rcases (show m = 0 ∨ m = 1 ∨ m = 2 ∨ m = 3 by omega) with rfl | rfl | rfl | rfl
    all_goals simp only [Nat.reduceMul, Nat.zero_mul, Nat.sub_zero] at hr1 hr2
    all_goals have HR := hide hr1
    all_goals clear hr1
    all_goals go_enter Try.func53, Try.ntmps53
    all_goals go_wp2
    all_goals (go_region_law (refine step_app rfl 51 _ _ rfl rfl _ _ _ _ (by simp [Act.eval, Act.put]) (by simp [Act.eval, Act.put]) HR.out ?_))
    all_goals go_wp2
    all_goals go_ret
    all_goals exact ⟨rfl, HROW.out, HB.out⟩
end Go.Proofs.Ythjeaebpboilpaa
