
/-
  slices.Delete of one timer of a slot.
-/
import Derived.Test.YtglbobobifejmaaQW4
import Derived.Test.YtglbobobifejmaaQ0
import Derived.Deep.RegionLaw
import Derived.Deep.DeepAppendRoom
namespace Go.Proofs.Ytglbobobifejmaa
open Go.RowKit

theorem info_fi : (Try.prog.info? 49).map (fun i => (i.zero, i.size, i.bytes)) = some (some (.agg #[.int .i64 0, .int .i64 0]), 2, 16) := by kernel_rfl

theorem zeroFi (w : World) : (zeroValue 49).run Try.prog w = .ok (.agg #[.int .i64 0, .int .i64 0]) w := by kernel_rfl

/-- a row cut -/
theorem row_take {w : World} {B : Nat} {e : TypeId} {sz g n c : Nat} {xs : List Value} (h : w.ownsRow B e sz (.slice (some ⟨g, 0, none⟩) n c) n xs) (k : Nat) (hk : k ≤ n) : w.ownsRow B e sz (.slice (some ⟨g, 0, none⟩) k c) k (xs.take (k * sz)) := by
  obtain ⟨h1, ⟨e, _⟩ | ⟨g', cap, cur, e, hg, hh, hnc, hcm, hcs, ht⟩⟩ := h
  · cases e
  · simp only [Value.slice.injEq, Option.some.injEq, Addr.mk.injEq, and_true, true_and] at e
    obtain ⟨rfl, rfl⟩ := e
    have hle : k * sz ≤ n * sz := Nat.mul_le_mul_right _ hk
    refine ⟨by rw [List.length_take, h1]; omega, .inr ⟨g, c, cur, rfl, hg, hh, Nat.le_trans hk hnc, hcm, hcs, ?_⟩⟩
    rw [← ht, List.take_take, Nat.min_eq_left hle]

/-- the last of a row's spare is cleared -/
theorem run_clear1 {w : World} {g n c o cc : Nat} {xs : List Value} (ty : TypeId) (h : w.ownsRow 0 49 2 (.slice (some ⟨g, 0, none⟩) n c) n xs) (ho : o = n * 2) (hc : n < c) :
    ∃ w', (Builtin.clear_ #[54] ty #[.slice (some ⟨g, o, none⟩) 1 cc]).run Try.prog w = .ok (.tuple #[]) w' ∧ w'.ownsRow 0 49 2 (.slice (some ⟨g, 0, none⟩) n c) n xs ∧ But (Only g) w w' := by
  obtain ⟨h1, ⟨e, _⟩ | ⟨g', cap, cur, e, hg, hh, hnc, hcm, hcs, ht⟩⟩ := h
  · cases e
  · simp only [Value.slice.injEq, Option.some.injEq, Addr.mk.injEq, and_true, true_and] at e
    obtain ⟨rfl, rfl⟩ := e
    have hz : (Builtin.zeroCells (Value.agg #[.int .i64 0, .int .i64 0]).cells 1).toList = [.int .i64 0, .int .i64 0] := by kernel_rfl
    have hst := run_storeCells_at Try.prog g o 49 [.int .i64 0, .int .i64 0] 0 cur w hh (by simp; omega) (by simp [Value.oneCell'])
    simp only [Nat.add_zero, List.length_cons, List.length_nil, Nat.zero_add, Nat.reduceAdd] at hst
    refine ⟨w.setRow g (cur.toList.take o ++ [Value.int .i64 0, Value.int .i64 0] ++ cur.toList.drop (o + 2)).toArray, by simp [Builtin.clear_, run_underlying Try.underlying54, hz, hst], ?_, ?_⟩
    · refine ⟨h1, .inr ⟨g, c, _, rfl, hg, setRow_heap w g cur _ _ _ hh, hnc, hcm, ?_, ?_⟩⟩
      · simp; omega
      · rw [← ht]
        simp only [List.append_assoc]
        rw [List.take_append_of_le_length (by rw [List.length_take, Array.length_toList]; omega), List.take_take, Nat.min_eq_left (by omega)]
    · refine ⟨rfl, rfl, rfl, by simp [World.setRow], fun k _ hn => ?_⟩
      simp only [World.setRow, Array.getElem?_modify]
      rw [if_neg (fun e => hn e.symm)]
/-- 'append' as one step of a region that draws, by its run -/
theorem step_app {ops : Array Oper} {o : Oper} {a : Act} {w : World} {K : Act → World → Prop} {Q : Exit → Act → World → Prop} {E : Prop} (hg : o.guard = none) (T : TypeId) (s x : Operand)
    (hop : o.op = Op.call { callee := Callee.builtin Builtin.append, args := #[s, x], argTypes := #[T, T] }) (hty : o.type = T) (v1 v2 v' : Value) (w' : World) (hs : a.eval s = v1) (hx : a.eval x = v2)
    (hrun : (Builtin.append_ #[T, T] T #[v1, v2]).run Try.prog w = .ok v' w') (hK : K (a.put o.dst v') w') :
    if Region.wanted o (yielded ops a.tmps) = true then Oper.wp Try.prog o a w K Q else E := by
  have hw : Region.wanted o (yielded ops a.tmps) = true := by simp [Region.wanted, hg]
  rw [if_pos hw]
  unfold Oper.wp
  simp only [execOp, hop, hty]
  simp [resolve, invoke, builtin, hs, hx, hrun, Result.andThen]
  exact hK

set_option maxRecDepth 100000 in
set_option maxHeartbeats 1000000 in
theorem Delete_any {w : World} {g c k m : Nat} {xs : List Value} (h : w.ownsRow 0 49 2 (.slice (some ⟨g, 0, none⟩) (k + 1 + m) c) (k + 1 + m) xs) (hx : ∀ u ∈ xs, u.oneCell' = true) :
    Calls Try.prog 27 #[.slice (some ⟨g, 0, none⟩) (k + 1 + m) c, .int .i64 (k : Int), .int .i64 ((k : Int) + 1)] w fun e w' => e = .returned (.slice (some ⟨g, 0, none⟩) (k + m) c) ∧ w'.ownsRow 0 49 2 (.slice (some ⟨g, 0, none⟩) (k + m) c) (k + m) (xs.take (k * 2) ++ xs.drop ((k + 1) * 2)) ∧ But (Only g) w w' := by
  have hnc : k + 1 + m ≤ c ∧ c ≤ maxLen := by
    obtain ⟨_, ⟨e, _⟩ | ⟨g', cap, cur, e, _, _, h1, h2, _⟩⟩ := h
    · cases e
    · simp only [Value.slice.injEq] at e; omega
  obtain ⟨i, hi, hz0, hz1, hz2⟩ := info_parts info_fi
  have hA : Hid (∀ ad : Addr, (m = 0 ∨ ad = ⟨g, (k + 1) * 2, none⟩) → ∃ w', (Builtin.append_ #[54, 54] 54 #[.slice (some ⟨g, 0, none⟩) k c, .slice (some ad) m (c - (k + 1))]).run Try.prog w.drew = .ok (.slice (some ⟨g, 0, none⟩) (k + m) c) w' ∧ w'.ownsRow 0 49 2 (.slice (some ⟨g, 0, none⟩) (k + m) c) (k + m) (xs.take (k * 2) ++ xs.drop ((k + 1) * 2)) ∧ But (Only g) w w') := by
    intro ad had
    obtain ⟨w', hrun, ho, hgr⟩ := run_append_own_spare (P := Try.prog) w.drew 0 54 54 49 i 2 Try.underlying54 hi hz1 g k c _ (row_take (World.ownsRow.drew h) k (by omega)) ad m (c - (k + 1)) (xs.drop ((k + 1) * 2)) (by rw [List.length_drop, h.1]; omega) (fun j u hu => by
      have hj := (List.getElem?_eq_some_iff.1 hu).1
      rw [List.length_drop, h.1] at hj
      rcases had with rfl | rfl
      · omega
      · rw [Addr.add_lit]
        have := World.ownsRow.cellAt h ((k + 1) * 2 + j) (by omega)
        rw [List.getElem?_drop] at hu
        rw [← hu]; exact this) (fun u hu => hx u (List.mem_of_mem_drop hu)) (by omega)
    refine ⟨w', hrun, ho, ⟨hgr.os, hgr.tape, hgr.output, hgr.size, fun k' hk' hn => hgr.block k' hk' (fun e => hn (Option.some.inj e))⟩⟩
  have q1 : ((k : Int) == (k : Int) + 1) = false := by simp; omega
  have x2 : (k : Int) + 1 + m ≤ c := by omega
  have x3 : (c : Int) ≤ 9223372036854775807 := by have := hnc.2; unfold maxLen at this; omega
  have y1 : k + 1 + m - (k + 1) = m := by omega
  have HN := hide hnc
  clear h hx hi hz0 hz1 hz2 hnc
  have z1 : (k : Int) ≤ c := by omega
  have z2 : k ≤ c := by omega
  have z3 : (k : Int) + 1 ≤ (k : Int) + 1 + m := by omega
  have z4 : (k : Int) ≤ (k : Int) + 1 := by omega
  have z5 : k + 1 ≤ k + 1 + m := by omega
  have z7 : (0 : Int) ≤ (k : Int) + 1 := by omega
  by_cases ec : c = k + 1
  · subst ec
    obtain rfl : m = 0 := by have := HN.out.1; omega
    have z6 : k ≤ k + 1 := by omega
    obtain ⟨w1, hrun, hrow, hbut⟩ := hA.out ⟨g, 0, none⟩ (.inl rfl)
    have HR := hide hrun
    have HROW := hide hrow
    have HBUT := hide hbut
    clear hrun hrow hbut hA
    go_enter Try.func27, Try.ntmps27
    go_wp2
    go_region_law (refine step_app rfl 54 _ _ rfl rfl _ _ _ _ (by simp [Act.eval, Act.put]) (by simp [Act.eval, Act.put]) HR.out ?_)
    obtain ⟨w2, hclr, hrow2, hbut2⟩ := run_clear1 (o := k * 2) (cc := 1) 0 HROW.out rfl (by omega)
    have R2 := hide hrow2
    have B2 := hide hbut2
    clear hrow2 hbut2
    all_goals go_wp2
    all_goals go_ret
    all_goals exact ⟨rfl, R2.out, HBUT.out.trans B2.out⟩
  · obtain ⟨w1, hrun, hrow, hbut⟩ := hA.out ⟨g, (k + 1) * 2, none⟩ (.inr rfl)
    have HR := hide hrun
    have HROW := hide hrow
    have HBUT := hide hbut
    clear hrun hrow hbut hA
    go_enter Try.func27, Try.ntmps27
    go_wp2
    go_region_law (refine step_app rfl 54 _ _ rfl rfl _ _ _ _ (by simp [Act.eval, Act.put]) (by simp [Act.eval, Act.put]) HR.out ?_)
    obtain ⟨w2, hclr, hrow2, hbut2⟩ := run_clear1 (o := (k + m) * 2) (cc := c - (k + m)) 0 HROW.out rfl (by omega)
    have R2 := hide hrow2
    have B2 := hide hbut2
    have y2 : k + 1 + m - (k + m) = 1 := by omega
    clear hrow2 hbut2
    all_goals go_wp2
    all_goals go_ret
    all_goals exact ⟨rfl, R2.out, HBUT.out.trans B2.out⟩
end Go.Proofs.Ytglbobobifejmaa
