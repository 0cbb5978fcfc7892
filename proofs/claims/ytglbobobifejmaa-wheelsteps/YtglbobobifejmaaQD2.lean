
/-
  slices.Delete of a slot's first timers.
-/
import Derived.Test.YtglbobobifejmaaQD
namespace Go.Proofs.Ytglbobobifejmaa
open Go.RowKit

/-- noughts for some timers: two cells each -/
theorem zero_cells (q : Nat) : ∃ Z : List Value, (Builtin.zeroCells #[.int .i64 0, .int .i64 0] q).toList = Z ∧ Z.length = q * 2 ∧ ∀ u ∈ Z, u.oneCell' = true := by
  refine ⟨_, rfl, ?_, fun u hu => ?_⟩
  · rw [Array.length_toList, size_zeroCells]; rfl
  · rw [Array.mem_toList_iff] at hu
    unfold Builtin.zeroCells at hu
    obtain ⟨j, _, rfl⟩ := Array.mem_map.1 hu
    have hj : j % 2 = 0 ∨ j % 2 = 1 := by omega
    show ((#[Value.int .i64 0, .int .i64 0] : Array Value)[j % 2]!).oneCell' = true
    rcases hj with e | e <;> rw [e] <;> rfl

/-- some of a row's spare are cleared -/
theorem run_clear {w : World} {g n c o cc q : Nat} {xs : List Value} (ty : TypeId) (h : w.ownsRow 0 49 2 (.slice (some ⟨g, 0, none⟩) n c) n xs) (ho : o = n * 2) (hc : n + (q + 1) ≤ c) :
    ∃ w', (Builtin.clear_ #[54] ty #[.slice (some ⟨g, o, none⟩) (q + 1) cc]).run Try.prog w = .ok (.tuple #[]) w' ∧ w'.ownsRow 0 49 2 (.slice (some ⟨g, 0, none⟩) n c) n xs ∧ But (Only g) w w' := by
  obtain ⟨h1, ⟨e, _⟩ | ⟨g', cap, cur, e, hg, hh, hnc, hcm, hcs, ht⟩⟩ := h
  · cases e
  · simp only [Value.slice.injEq, Option.some.injEq, Addr.mk.injEq, and_true, true_and] at e
    obtain ⟨rfl, rfl⟩ := e
    obtain ⟨Z, hz, hzl, hzc⟩ := zero_cells (q + 1)
    have hz' : (Builtin.zeroCells (Value.agg #[.int .i64 0, .int .i64 0]).cells (q + 1)).toList = Z := hz
    have hst := run_storeCells_at Try.prog g o 49 Z 0 cur w hh (by rw [hzl]; omega) (fun u hu => hzc u hu)
    simp only [Nat.add_zero] at hst
    refine ⟨w.setRow g (cur.toList.take o ++ Z ++ cur.toList.drop (o + Z.length)).toArray, by simp [Builtin.clear_, run_underlying Try.underlying54, hz', hst], ?_, ?_⟩
    · refine ⟨h1, .inr ⟨g, c, _, rfl, hg, setRow_heap w g cur _ _ _ hh, hnc, hcm, ?_, ?_⟩⟩
      · simp; omega
      · rw [← ht]
        simp only [List.append_assoc]
        rw [List.take_append_of_le_length (by rw [List.length_take, Array.length_toList]; omega), List.take_take, Nat.min_eq_left (by omega)]
    · refine ⟨rfl, rfl, rfl, by simp [World.setRow], fun k _ hn => ?_⟩
      simp only [World.setRow, Array.getElem?_modify]
      rw [if_neg (fun e => hn e.symm)]

set_option maxRecDepth 100000 in
set_option maxHeartbeats 1000000 in
/-- none of them: the slot itself -/
theorem Delete_none {w : World} {g c n : Nat} (hnc : n ≤ c) (hm : c ≤ maxLen) :
    Calls Try.prog 27 #[.slice (some ⟨g, 0, none⟩) n c, .int .i64 0, .int .i64 0] w fun e w' => e = .returned (.slice (some ⟨g, 0, none⟩) n c) ∧ But (Only g) w w' := by
  have x3 : (c : Int) ≤ 9223372036854775807 := by unfold maxLen at hm; omega
  have x4 : (n : Int) ≤ c := by omega
  go_enter Try.func27, Try.ntmps27
  go_wp2
  all_goals go_ret
  all_goals exact ⟨rfl, But.refl _ _⟩

set_option maxRecDepth 100000 in
set_option maxHeartbeats 1000000 in
/-- the first of them, and some are left -/
theorem Delete_first {w : World} {g c q m : Nat} {xs : List Value} (h : w.ownsRow 0 49 2 (.slice (some ⟨g, 0, none⟩) (q + 1 + (m + 1)) c) (q + 1 + (m + 1)) xs) (hx : ∀ u ∈ xs, u.oneCell' = true) :
    Calls Try.prog 27 #[.slice (some ⟨g, 0, none⟩) (q + 1 + (m + 1)) c, .int .i64 0, .int .i64 ((q : Int) + 1)] w fun e w' => e = .returned (.slice (some ⟨g, 0, none⟩) (m + 1) c) ∧ w'.ownsRow 0 49 2 (.slice (some ⟨g, 0, none⟩) (m + 1) c) (m + 1) (xs.drop ((q + 1) * 2)) ∧ But (Only g) w w' := by
  have hnc : q + 1 + (m + 1) ≤ c ∧ c ≤ maxLen := by
    obtain ⟨_, ⟨e, _⟩ | ⟨g', cap, cur, e, _, _, h1, h2, _⟩⟩ := h
    · cases e
    · simp only [Value.slice.injEq] at e; omega
  obtain ⟨i, hi, hz0, hz1, hz2⟩ := info_parts info_fi
  obtain ⟨w1, hrun, hrow, hbut⟩ : ∃ w', (Builtin.append_ #[54, 54] 54 #[.slice (some ⟨g, 0, none⟩) 0 c, .slice (some ⟨g, (q + 1) * 2, none⟩) (m + 1) (c - (q + 1))]).run Try.prog w.drew = .ok (.slice (some ⟨g, 0, none⟩) (m + 1) c) w' ∧ w'.ownsRow 0 49 2 (.slice (some ⟨g, 0, none⟩) (m + 1) c) (m + 1) (xs.drop ((q + 1) * 2)) ∧ But (Only g) w w' := by
    obtain ⟨w', hrun, ho, hgr⟩ := run_append_own_spare (P := Try.prog) w.drew 0 54 54 49 i 2 Try.underlying54 hi hz1 g 0 c _ (row_take (World.ownsRow.drew h) 0 (by omega)) ⟨g, (q + 1) * 2, none⟩ (m + 1) (c - (q + 1)) (xs.drop ((q + 1) * 2)) (by rw [List.length_drop, h.1]; omega) (fun j u hu => by
      have hj := (List.getElem?_eq_some_iff.1 hu).1
      rw [List.length_drop, h.1] at hj
      rw [Addr.add_lit]
      have := World.ownsRow.cellAt h ((q + 1) * 2 + j) (by omega)
      rw [List.getElem?_drop] at hu
      rw [← hu]; exact this) (fun u hu => hx u (List.mem_of_mem_drop hu)) (by omega)
    simp only [Nat.zero_add, Nat.zero_mul, List.take_zero, List.nil_append] at hrun ho
    refine ⟨w', hrun, ho, ⟨hgr.os, hgr.tape, hgr.output, hgr.size, fun k' hk' hn => hgr.block k' hk' (fun e => hn (Option.some.inj e))⟩⟩
  have q1 : ((0 : Int) == (q : Int) + 1) = false := by simp; omega
  have x2 : (q : Int) + 1 + ((m : Int) + 1) ≤ c := by omega
  have x3 : (c : Int) ≤ 9223372036854775807 := by have := hnc.2; unfold maxLen at this; omega
  have y1 : q + 1 + (m + 1) - (q + 1) = m + 1 := by omega
  have y2 : q + 1 + (m + 1) - (m + 1) = q + 1 := by omega
  have z2 : (0 : Int) ≤ (q : Int) + 1 := by omega
  have z3 : (q : Int) + 1 ≤ (q : Int) + 1 + ((m : Int) + 1) := by omega
  have z5 : q + 1 ≤ q + 1 + (m + 1) := by omega
  have z8 : ¬c = q + 1 := by omega
  have HN := hide hnc
  clear h hx hi hz0 hz1 hz2 hnc
  have HR := hide hrun
  have HROW := hide hrow
  have HBUT := hide hbut
  clear hrun hrow hbut
  go_enter Try.func27, Try.ntmps27
  go_wp2
  go_region_law (refine step_app rfl 54 _ _ rfl rfl _ _ _ _ (by simp [Act.eval, Act.put]) (by simp [Act.eval, Act.put]) HR.out ?_)
  obtain ⟨w2, hclr, hrow2, hbut2⟩ := run_clear (q := q) (o := (m + 1) * 2) (cc := c - (m + 1)) 0 HROW.out rfl (by have := HN.out.1; omega)
  have R2 := hide hrow2
  have B2 := hide hbut2
  clear hrow2 hbut2
  all_goals go_wp2
  all_goals go_ret
  all_goals exact ⟨rfl, R2.out, HBUT.out.trans B2.out⟩
end Go.Proofs.Ytglbobobifejmaa
