
/-
  slices.Insert of one timer into a slot that has room.
-/
import Derived.Test.YtglbobobifejmaaQW5
import Derived.Lib.Overlaps
namespace Go.Proofs.Ytglbobobifejmaa
open Go.RowKit

theorem wrapI (n : Int) (h0 : -9223372036854775808 ≤ n) (h1 : n ≤ 9223372036854775807) : IntKind.i64.wrap n = n := by simp [IntKind.wrap, IntKind.bits, IntKind.signed]; omega
theorem sizeFi (w : World) : (Go.sizeOf 49).run Try.prog w = .ok 2 w := by kernel_rfl

/-- 'copy' between lists of frames -/
theorem run_copy2 (w : World) (ty t2 : TypeId) (g o dLen dCap : Nat) (a : Addr) (sLen sCap m : Nat) (cur : Array Value) (cs : List Value) (hg : w.heap[g]? = some (.cells cur 49 (0, 0))) (hm : Nat.min sLen dLen = m) (hn : cs.length = m * 2)
    (hsrc : ∀ j v, cs[j]? = some v → w.cell? (a.add j) = some v) (hfit : o + cs.length ≤ cur.size) (h1 : ∀ v ∈ cs, v.oneCell' = true) :
    (Builtin.copy_ #[54, t2] ty #[.slice (some ⟨g, o, none⟩) dLen dCap, .slice (some a) sLen sCap]).run Try.prog w =
      .ok (goInt m) (w.setRow g (cur.toList.take o ++ cs ++ cur.toList.drop (o + cs.length)).toArray) := by
  have hl := run_loadCells_list (P := Try.prog) w a cs hsrc
  have hst := run_storeCells_at Try.prog g o 49 cs 0 cur w hg (by simpa using hfit) h1
  rw [hn] at hl
  obtain ⟨inf, hin, hz0, hz1, hz2⟩ := info_parts info_fi
  simp [Builtin.copy_, run_underlying Try.underlying54, Builtin.lenOf, Builtin.firstCells, sizeOf, typeInfo, hin, hz1, hm, hl, hst]

theorem wp_copy {w : World} {o : Oper} {a : Act} {K : Act → World → Prop} {Q : Exit → Act → World → Prop} (d s : Operand) (t t' : TypeId)
    (ho : o.op = .call { callee := .builtin .copy, args := #[d, s], argTypes := #[t, t'] }) (v u : Value) (hd : a.eval d = v) (hs : a.eval s = u) {v' : Value} {w' : World}
    (hr : (Builtin.copy_ #[t, t'] o.type #[v, u]).run Try.prog w = .ok v' w') (h : K (a.put o.dst v') w') : o.wp Try.prog a w K Q := by
  unfold Oper.wp execOp
  simp only [ho, resolve, invoke, builtin, Sem.run_bind, Sem.run_pure, Result.andThen_ok, List.map_toArray, List.map_cons, List.map_nil, hd, hs, hr]
  exact h
theorem step_copy {ops : Array Oper} {o : Oper} {a : Act} {w : World} {K : Act → World → Prop} {Q : Exit → Act → World → Prop} {E : Prop}
    (hg : o.guard = none) (d x : Operand) (t : TypeId) (hop : o.op = Op.call { callee := Callee.builtin Builtin.copy, args := #[d, x], argTypes := #[t, t] })
    (v u : Value) (hd : a.eval d = v) (hx : a.eval x = u) {v' : Value} {w' : World} (hr : (Builtin.copy_ #[t, t] o.type #[v, u]).run Try.prog w = .ok v' w') (hK : K (a.put o.dst v') w') :
    if Region.wanted o (yielded ops a.tmps) = true then Oper.wp Try.prog o a w K Q else E := by
  have hw : Region.wanted o (yielded ops a.tmps) = true := by simp [Region.wanted, hg]
  rw [if_pos hw]
  exact wp_copy d x t t hop v u hd hx hr hK
theorem wpList_app {w : World} {ops : Array Oper} {rest : List Oper} {o : Oper} {a : Act} {Q : Exit → Act → World → Prop} (hgd : o.guard = none) (d s : Operand) (t t' : TypeId)
    (ho : o.op = .call { callee := .builtin .append, args := #[d, s], argTypes := #[t, t'] }) (v u : Value) (hd : a.eval d = v) (hs : a.eval s = u) {v' : Value} {w' : World}
    (hr : (Builtin.append_ #[t, t'] o.type #[v, u]).run Try.prog w = .ok v' w') (h : wpList Try.prog ops Q rest (a.put o.dst v') w') : wpList Try.prog ops Q (o :: rest) a w :=
  wpList_plain hgd fun _ hK => by
    unfold Oper.wp execOp
    simp only [ho, resolve, invoke, builtin, Sem.run_bind, Sem.run_pure, Result.andThen_ok, List.map_toArray, List.map_cons, List.map_nil, hd, hs, hr]
    exact hK _ _ h

/-- what is put in between -/
theorem mid_take {cur : List Value} {xs us : List Value} {k n : Nat} (hu : us.length = 2) (hx : xs.length = n * 2) (hk : k ≤ n) (ht : cur.take (n * 2) = xs) (hl : (n + 1) * 2 ≤ cur.length) (A : List Value)
    (hA : A = cur.take (k * 2 + 2) ++ xs.drop (k * 2) ++ cur.drop (k * 2 + 2 + (xs.drop (k * 2)).length)) :
    (A.take (k * 2) ++ us ++ A.drop (k * 2 + us.length)).take ((n + 1) * 2) = xs.take (k * 2) ++ us ++ xs.drop (k * 2) ∧ A.length = cur.length := by
  have hd : (xs.drop (k * 2)).length = n * 2 - k * 2 := by rw [List.length_drop, hx]
  have e1 : A.take (k * 2) = xs.take (k * 2) := by
    rw [hA, List.append_assoc, List.take_append_of_le_length (by rw [List.length_take]; omega), List.take_take, ← ht, List.take_take]
    congr 1; omega
  have e2 : A.drop (k * 2 + us.length) = xs.drop (k * 2) ++ cur.drop (k * 2 + 2 + (xs.drop (k * 2)).length) := by
    rw [hA, List.append_assoc, List.drop_append, List.drop_of_length_le (by rw [List.length_take]; omega)]
    rw [show k * 2 + us.length - (cur.take (k * 2 + 2)).length = 0 by rw [List.length_take]; omega]
    simp
  refine ⟨?_, ?_⟩
  · rw [e1, e2, ← List.append_assoc, List.take_append_of_le_length (by simp only [List.length_append, List.length_take, hd, hu]; omega), List.take_of_length_le (by simp only [List.length_append, List.length_take, hd, hu]; omega)]
  · rw [hA]; simp only [List.length_append, List.length_take, List.length_drop, hd]; omega

set_option maxRecDepth 100000 in
set_option maxHeartbeats 4000000 in
theorem Insert_any {w : World} {g c n k s : Nat} {xs : List Value} {u0 u1 : Value} (h : w.ownsRow 0 49 2 (.slice (some ⟨g, 0, none⟩) n c) n xs) (hx : ∀ u ∈ xs, u.oneCell' = true) (hc : n + 1 ≤ c) (hk : k ≤ n) (hs : w.heap[s]? = some (.cells #[u0, u1] 49 (0, 0))) (hne : s ≠ g) (h1 : ∀ u ∈ [u0, u1], u.oneCell' = true) :
    Calls Try.prog 33 #[.slice (some ⟨g, 0, none⟩) n c, .int .i64 (k : Int), .slice (some ⟨s, 0, none⟩) 1 1] w fun e w' => e = .returned (.slice (some ⟨g, 0, none⟩) (n + 1) c) ∧ w'.ownsRow 0 49 2 (.slice (some ⟨g, 0, none⟩) (n + 1) c) (n + 1) (xs.take (k * 2) ++ [u0, u1] ++ xs.drop (k * 2)) ∧ But (Only g) w w' := by
  have h' := h
  obtain ⟨hxl, ⟨e, _⟩ | ⟨g', cap, cur, e, hg, hh, hnc, hcm, hcs, ht⟩⟩ := h
  · cases e
  simp only [Value.slice.injEq, Option.some.injEq, Addr.mk.injEq, and_true, true_and] at e
  obtain ⟨rfl, rfl⟩ := e
  obtain ⟨inf, hi, hz0, hz1, hz2⟩ := info_parts info_fi
  have hsrc : ∀ (W : World), But (Only g) w W → ∀ j v, [u0, u1][j]? = some v → W.cell? ((⟨s, 0, none⟩ : Addr).add j) = some v := fun W hb j v hv => by
    rw [Addr.add_lit, hb.cell (p := ⟨s, 0 + j, none⟩) (Array.getElem?_eq_some_iff.1 hs).1 hne, cell_of_row w s (0 + j) _ _ _ hs, Nat.zero_add]
    simpa using hv
  have x1 : (k : Int) ≤ n := by omega
  have x2 : (n : Int) + 1 ≤ c := by omega
  have x3 : (c : Int) ≤ 9223372036854775807 := by unfold maxLen at hcm; omega
  by_cases ek : k = n
  · subst ek
    obtain ⟨w', hrun, ho, hgr⟩ := run_append_own_spare (P := Try.prog) w 0 54 32 49 inf 2 Try.underlying54 hi hz1 g k c xs h' ⟨s, 0, none⟩ 1 1 [u0, u1] rfl (hsrc w (But.refl _ _)) h1 hc
    have HR := hide hrun
    have HO : Hid (w'.ownsRow 0 49 2 (.slice (some ⟨g, 0, none⟩) (k + 1) c) (k + 1) (xs.take (k * 2) ++ [u0, u1] ++ xs.drop (k * 2)) ∧ But (Only g) w w') := by
      refine ⟨?_, ⟨hgr.os, hgr.tape, hgr.output, hgr.size, fun k' hk' hn => hgr.block k' hk' (fun e => hn (Option.some.inj e))⟩⟩
      rw [List.take_of_length_le (by omega), List.drop_of_length_le (by omega), List.append_nil]
      exact ho
    clear hrun ho hgr hsrc hi hz0 hz1 hz2 hx h' hh ht hcs hs hne h1 hg hxl hcm hnc
    go_enter Try.func33, Try.ntmps33
    go_wp2_with (at_builtin; refine wpList_app rfl _ _ 54 32 rfl _ _ rfl rfl HR.out ?_)
    go_ret
    exact ⟨rfl, HO.out⟩
  · have hov : ∀ lb cb, (callFunc 37 #[.slice (some ⟨s, 0, none⟩) 1 1, .slice (some ⟨g, k * 2 + 2, none⟩) lb cb]).run Try.prog w = .ok (.value (.bool false)) w := fun lb cb => by
      rw [run_callFunc_extern Try.func37 (by kernel_rfl) (by kernel_rfl) (by kernel_rfl) (e := Extern.SlicesOverlaps.overlaps #[32, 32] #[4]) (by kernel_rfl),
        Lib.run_overlaps_apart w 32 4 49 Try.underlying32 2 sizeFi ⟨s, 0, none⟩ ⟨g, k * 2 + 2, none⟩ 1 1 lb cb hne 49 49 2 cur.size (by simp [World.shape?, hs]) (by simp [World.shape?, hh]) (by omega) (frozen_of_row w s 0 _ _ hs) (frozen_of_row w s 2 _ _ hs)]
      rfl
    have hd3 : (xs.drop (k * 2)).length = (n - k) * 2 := by rw [List.length_drop, hxl]; omega
    have hcp1 := fun ty dc sc => run_copy2 w.drew ty 54 g ((k + 1) * 2) (n - k) dc ⟨g, k * 2, none⟩ (n + 1 - k) sc (n - k) cur (xs.drop (k * 2)) hh (by simp only [Nat.min_def]; split <;> omega) hd3 (fun j v hv => by
      have hj := (List.getElem?_eq_some_iff.1 hv).1
      rw [hd3] at hj
      rw [Addr.add_lit]
      have := World.ownsRow.cellAt h' (k * 2 + j) (by omega)
      rw [List.getElem?_drop] at hv
      rw [← hv]; exact this) (by rw [hd3, hcs]; omega) (fun u hu => hx u (List.mem_of_mem_drop hu))
    obtain ⟨A, hA⟩ : ∃ A, A = cur.toList.take (k * 2 + 2) ++ xs.drop (k * 2) ++ cur.toList.drop (k * 2 + 2 + (xs.drop (k * 2)).length) := ⟨_, rfl⟩
    obtain ⟨m1, m2⟩ := mid_take (us := [u0, u1]) rfl hxl hk ht (by rw [Array.length_toList, hcs]; omega) A hA
    simp only [show (k + 1) * 2 = k * 2 + 2 by omega, ← hA] at hcp1
    have hb1 : But (Only g) w (w.drew.setRow g A.toArray) := by
      refine ⟨rfl, rfl, rfl, by simp [World.setRow], fun k' _ hn => ?_⟩
      simp only [World.setRow, Array.getElem?_modify]
      rw [if_neg (fun e => hn e.symm)]; rfl
    have hh1 : (w.drew.setRow g A.toArray).heap[g]? = some (.cells A.toArray 49 (0, 0)) := setRow_heap w.drew g cur _ _ _ hh
    have hcp2 := fun ty dc => run_copy2 (w.drew.setRow g A.toArray) ty 32 g (k * 2) (n + 1 - k) dc ⟨s, 0, none⟩ 1 1 1 A.toArray [u0, u1] hh1 (by simp only [Nat.min_def]; split <;> omega) rfl (hsrc _ hb1) (by simp; rw [m2, Array.length_toList, hcs]; omega) h1
    have hfin : Hid (∀ B : List Value, B = A.take (k * 2) ++ [u0, u1] ++ A.drop (k * 2 + [u0, u1].length) → ((w.drew.setRow g A.toArray).setRow g B.toArray).ownsRow 0 49 2 (.slice (some ⟨g, 0, none⟩) (n + 1) c) (n + 1) (xs.take (k * 2) ++ [u0, u1] ++ xs.drop (k * 2)) ∧ But (Only g) w ((w.drew.setRow g A.toArray).setRow g B.toArray)) := by
      intro B hB
      refine ⟨⟨?_, .inr ⟨g, c, B.toArray, rfl, Nat.zero_le _, setRow_heap _ g A.toArray _ _ _ hh1, by omega, hcm, ?_, ?_⟩⟩, ?_⟩
      · simp only [List.length_append, List.length_take, List.length_drop, List.length_cons, List.length_nil, hxl]; omega
      · rw [hB]; simp only [List.size_toArray, List.length_append, List.length_take, List.length_drop, List.length_cons, List.length_nil, m2, Array.length_toList, hcs]; omega
      · rw [hB]; exact m1
      · rw [setRow_setRow]
        refine ⟨rfl, rfl, rfl, by simp [World.setRow], fun k' _ hn => ?_⟩
        simp only [World.setRow, Array.getElem?_modify]
        rw [if_neg (fun e => hn e.symm)]; rfl
    obtain ⟨B, hB⟩ : ∃ B, B = A.take (k * 2) ++ [u0, u1] ++ A.drop (k * 2 + [u0, u1].length) := ⟨_, rfl⟩
    simp only [← hB] at hcp2
    have FIN := hide (hfin.out B hB)
    have CP1 := hide hcp1
    have CP2 := hide hcp2
    have q1 : ((k : Int) == (n : Int)) = false := by simp; omega
    have q2 : ¬ ((k : Int) = (n : Int)) := by omega
    have q3 : ¬ c = k + 1 ∨ c = k + 1 := by omega
    have z1 : (k : Int) + 1 ≤ (n : Int) + 1 := by omega
    have z2 : ¬ c = k := by omega
    have z3 : ¬ c = k + 1 := by omega
    have z4 : (0 : Int) ≤ (k : Int) + 1 := by omega
    have z5 : (k : Int) ≤ (n : Int) + 1 := by omega
    have z6 : n + 1 - (k + 1) = n - k := by omega
    have z7 : k ≤ n + 1 := by omega
    have z8 : k + 1 ≤ n + 1 := by omega
    have z9 : IntKind.i64.wrap ((k : Int) + 1) = (k : Int) + 1 := wrapI _ (by omega) (by omega)
    have z10 : ((k : Int) + 1).toNat = k + 1 := by omega
    have z11 : (k + 1) * 2 = k * 2 + 2 := by omega
    clear hfin hcp1 hcp2 hB hA m1 m2 hb1 hh1 hd3 hsrc hi hz0 hz1 hz2 hx h' hh ht hcs hs h1 hg hxl hcm hnc
    go_enter Try.func33, Try.ntmps33
    go_wp2_with (simp only [hov])
    go_region_law (refine step_copy rfl _ _ 54 rfl _ _ (by simp [Act.eval, Act.put]) (by simp [Act.eval, Act.put]) (CP1.out 3 (c - (k + 1)) (c - k)) ?_)
    go_wp2
    rw [CP2.out]
    go_wp2
    go_ret
    exact ⟨rfl, FIN.out⟩
end Go.Proofs.Ytglbobobifejmaa
