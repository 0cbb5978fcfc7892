
/-
  slices.Insert of one timer into the middle of a slot that has no room.
-/
import Derived.Test.YtglbobobifejmaaQD2
import Derived.Test.YtglbobobifejmaaQI2
namespace Go.Proofs.Ytglbobobifejmaa
open Go.RowKit

theorem int_u : Try.prog.underlying 3 = some (.int .i64) := by kernel_rfl

/-- append(s, make(S, m)...) where there is no room: a new row, noughts behind what was there -/
theorem run_append_zeros (w : World) (ty : TypeId) (i : TypeInfo) (hi : Try.prog.info? 49 = some i) (hz : i.zero = some (.agg #[.int .i64 0, .int .i64 0])) (hsz : i.size = 2) (hby : i.bytes = 16) (g k c : Nat) (olds : List Value) (hlo : olds.length = k * 2) (holds : ∀ j v, olds[j]? = some v → w.cell? ((⟨g, 0, none⟩ : Addr).add j) = some v)
    (m : Nat) (h0 : 0 < m) (hm : m ≤ 1000) (hk : k ≤ 1000) (hg : c < k + m) :
    ∃ (C : Nat) (Z : List Value), (Builtin.append_ #[54, 3] ty #[.slice (some ⟨g, 0, none⟩) k c, .int .i64 m]).run Try.prog w =
      .ok (.slice (some ⟨w.heap.size, 0, none⟩) (k + m) C) (w.drew.alloc (.cells (olds ++ Z).toArray 49)) ∧ k + m ≤ C ∧ C ≤ maxLen ∧ Z.length = (C - k) * 2 := by
  have hn : ¬ (k + m ≤ c) := by omega
  have hw : IntKind.i64.wrap (m : Int) = m := wrapI _ (by omega) (by omega)
  have h63' : ¬ (9223372036854775807 < ((k : Int) + (m : Int))) := by omega
  have hfit : Builtin.nextslicecap (k + m) c * i.bytes ≤ 281474976710656 := growslice_fits (by omega) (by rw [hby]; omega)
  have h48' : ¬ (281474976710656 < Builtin.nextslicecap (k + m) c * i.bytes) := by omega
  have h48i : ¬ (281474976710656 < (m : Int) * (i.bytes : Int)) := by rw [hby]; omega
  have hneg : ¬ ((m : Int) < 0) := by omega
  have hns : ¬ (m * 2 = 0) := by omega
  have hfo := run_firstCells_some (P := Try.prog) w.drew 2 k ⟨g, 0, none⟩ k c olds hlo (by simpa using holds)
  have hge := grownCap_ge w (k + m) c 49
  have hle : grownCap w (k + m) c 49 ≤ maxLen := grownCap_le_maxLen w (k + m) c 49 (by unfold maxLen; omega)
  refine ⟨grownCap w (k + m) c 49, (Builtin.zeroCells #[.int .i64 0, .int .i64 0] m).toList ++ (Builtin.zeroCells #[.int .i64 0, .int .i64 0] (grownCap w (k + m) c 49 - (k + m))).toList, ?_, hge, hle, ?_⟩
  · simp [Builtin.append_, run_underlying Try.underlying54, run_underlying int_u, sizeOf, typeInfo, zeroValue, hi, hz, hsz, asInt, asIntOf, hw, hn, hneg, hns, h63', h48', h48i, Question.forced, hfo, newRow, grownCap, Value.cells]
    congr 2
    apply Array.ext'
    simp
  · rw [List.length_append, Array.length_toList, Array.length_toList, size_zeroCells, size_zeroCells]
    show m * 2 + (grownCap w (k + m) c 49 - (k + m)) * 2 = _
    omega

set_option maxRecDepth 100000 in
set_option maxHeartbeats 4000000 in
theorem Insert_grow {w : World} {g n k s : Nat} {xs : List Value} {u0 u1 : Value} (h : w.ownsRow 0 49 2 (.slice (some ⟨g, 0, none⟩) n n) n xs) (hx : ∀ u ∈ xs, u.oneCell' = true) (hn : n ≤ 64) (hk : k < n) (hs : w.heap[s]? = some (.cells #[u0, u1] 49 (0, 0))) (h1 : ∀ u ∈ [u0, u1], u.oneCell' = true) :
    Calls Try.prog 33 #[.slice (some ⟨g, 0, none⟩) n n, .int .i64 (k : Int), .slice (some ⟨s, 0, none⟩) 1 1] w fun e w' => ∃ g' c', e = .returned (.slice (some ⟨g', 0, none⟩) (n + 1) c') ∧ w'.ownsRow 0 49 2 (.slice (some ⟨g', 0, none⟩) (n + 1) c') (n + 1) (xs.take (k * 2) ++ [u0, u1] ++ xs.drop (k * 2)) ∧ Below w.heap.size w w' ∧ w.heap.size ≤ g' ∧ g' < w'.heap.size := by
  obtain ⟨i, hi, hz0, hz1, hz2⟩ := info_parts info_fi
  have hxl := h.1
  have hcell : ∀ j v, xs[j]? = some v → w.cell? ⟨g, j, none⟩ = some v := fun j v hv => by
    have hj := (List.getElem?_eq_some_iff.1 hv).1
    rw [World.ownsRow.cellAt h j (by omega)]; exact hv
  have hgl : g < w.heap.size := by
    obtain ⟨_, ⟨e, _⟩ | ⟨g', cap, cur, e, _, hh, _⟩⟩ := h
    · cases e
    · simp only [Value.slice.injEq, Option.some.injEq, Addr.mk.injEq, and_true] at e
      rw [e.1]; exact (Array.getElem?_eq_some_iff.1 hh).1
  have hsl := (Array.getElem?_eq_some_iff.1 hs).1
  obtain ⟨C, Z, hrun, hC1, hC2, hZ⟩ := run_append_zeros w 54 i hi hz0 hz1 hz2 g k n (xs.take (k * 2)) (by rw [List.length_take]; omega) (fun j v hv => by
    rw [Addr.add_lit, Nat.zero_add]
    rw [List.getElem?_take] at hv
    split at hv
    · exact hcell j v hv
    · cases hv) (n + 1 - k) (by omega) (by omega) (by omega) (by omega)
  have ekn : k + (n + 1 - k) = n + 1 := by omega
  rw [ekn] at hrun hC1
  obtain ⟨A, hA⟩ : ∃ A, A = xs.take (k * 2) ++ Z := ⟨_, rfl⟩
  have hAl : A.length = C * 2 := by rw [hA, List.length_append, List.length_take, hZ]; omega
  rw [← hA] at hrun
  obtain ⟨W1, hW1⟩ : ∃ W1, W1 = w.drew.alloc (.cells A.toArray 49) := ⟨_, rfl⟩
  have hb1 : Below w.heap.size w W1 := by rw [hW1]; exact (show Below w.heap.size w w.drew from ⟨rfl, rfl, rfl, Nat.le_refl _, fun _ _ => rfl⟩).alloc (Nat.le_refl _) _
  have hs1 : w.heap.size < W1.heap.size := by rw [hW1]; simp
  have hh1 : W1.heap[w.heap.size]? = some (.cells A.toArray 49 (0, 0)) := by rw [hW1]; exact heap_alloc_new w.drew _
  have hrun1 : (Builtin.append_ #[54, 3] 54 #[.slice (some ⟨g, 0, none⟩) k n, .int .i64 ((n + 1 - k : Nat) : Int)]).run Try.prog w = .ok (.slice (some ⟨w.heap.size, 0, none⟩) (n + 1) C) W1 := by rw [hW1]; exact hrun
  have hcp1 : ∀ ty dc, (Builtin.copy_ #[54, 32] ty #[.slice (some ⟨w.heap.size, k * 2, none⟩) (n + 1 - k) dc, .slice (some ⟨s, 0, none⟩) 1 1]).run Try.prog W1 = .ok (goInt 1) (W1.setRow w.heap.size (A.take (k * 2) ++ [u0, u1] ++ A.drop (k * 2 + 2)).toArray) := fun ty dc =>
    run_copy2 W1 ty 32 w.heap.size (k * 2) (n + 1 - k) dc ⟨s, 0, none⟩ 1 1 1 A.toArray [u0, u1] hh1 (by simp only [Nat.min_def]; split <;> omega) rfl (fun j v hv => by
      rw [Addr.add_lit, hb1.cell (p := ⟨s, 0 + j, none⟩) hsl, cell_of_row w s (0 + j) _ _ _ hs, Nat.zero_add]
      simpa using hv) (by simp; omega) h1
  obtain ⟨A2, hA2⟩ : ∃ A2, A2 = A.take (k * 2) ++ [u0, u1] ++ A.drop (k * 2 + 2) := ⟨_, rfl⟩
  have hA2l : A2.length = C * 2 := by rw [hA2]; simp only [List.length_append, List.length_take, List.length_drop, List.length_cons, List.length_nil, hAl]; omega
  obtain ⟨W2, hW2⟩ : ∃ W2, W2 = W1.setRow w.heap.size A2.toArray := ⟨_, rfl⟩
  simp only [← hA2, ← hW2] at hcp1
  have hh2 : W2.heap[w.heap.size]? = some (.cells A2.toArray 49 (0, 0)) := by rw [hW2]; exact setRow_heap W1 w.heap.size A.toArray _ _ _ hh1
  have sb : ∀ (W : World) (a : Array Value), Below w.heap.size w W → Below w.heap.size w (W.setRow w.heap.size a) := fun W a hb =>
    ⟨hb.os, hb.tape, hb.output, by simp only [World.setRow, Array.size_modify]; exact hb.size, fun q hq => by
      simp only [World.setRow, Array.getElem?_modify]
      rw [if_neg (by omega)]; exact hb.block q hq⟩
  have hb2 : Below w.heap.size w W2 := by rw [hW2]; exact sb W1 _ hb1
  have hd3 : (xs.drop (k * 2)).length = (n - k) * 2 := by rw [List.length_drop, hxl]; omega
  have hcp2 : ∀ ty dc sc, (Builtin.copy_ #[54, 54] ty #[.slice (some ⟨w.heap.size, (k + 1) * 2, none⟩) (n + 1 - (k + 1)) dc, .slice (some ⟨g, k * 2, none⟩) (n - k) sc]).run Try.prog W2.drew = .ok (goInt ((n - k : Nat) : Int)) (W2.drew.setRow w.heap.size (A2.take ((k + 1) * 2) ++ xs.drop (k * 2) ++ A2.drop ((k + 1) * 2 + (xs.drop (k * 2)).length)).toArray) := fun ty dc sc =>
    run_copy2 W2.drew ty 54 w.heap.size ((k + 1) * 2) (n + 1 - (k + 1)) dc ⟨g, k * 2, none⟩ (n - k) sc (n - k) A2.toArray (xs.drop (k * 2)) hh2 (by simp only [Nat.min_def]; split <;> omega) hd3 (fun j v hv => by
      rw [Addr.add_lit]
      rw [List.getElem?_drop] at hv
      exact (hb2.cell (p := ⟨g, k * 2 + j, none⟩) hgl).trans (hcell _ v hv)) (by simp; omega) (fun u hu => hx u (List.mem_of_mem_drop hu))
  obtain ⟨A3, hA3⟩ : ∃ A3, A3 = A2.take ((k + 1) * 2) ++ xs.drop (k * 2) ++ A2.drop ((k + 1) * 2 + (xs.drop (k * 2)).length) := ⟨_, rfl⟩
  simp only [← hA3] at hcp2
  have FIN : Hid (∃ g' c', Ending.returned (.slice (some ⟨w.heap.size, 0, none⟩) (n + 1) C) = .returned (.slice (some ⟨g', 0, none⟩) (n + 1) c') ∧ (W2.drew.setRow w.heap.size A3.toArray).ownsRow 0 49 2 (.slice (some ⟨g', 0, none⟩) (n + 1) c') (n + 1) (xs.take (k * 2) ++ [u0, u1] ++ xs.drop (k * 2)) ∧ Below w.heap.size w (W2.drew.setRow w.heap.size A3.toArray) ∧ w.heap.size ≤ g' ∧ g' < (W2.drew.setRow w.heap.size A3.toArray).heap.size) := by
    have e1 : A.take (k * 2) = xs.take (k * 2) := by
      rw [hA, List.take_append_of_le_length (by rw [List.length_take]; omega), List.take_take]; congr 1; omega
    have e2 : A2.take ((k + 1) * 2) = xs.take (k * 2) ++ [u0, u1] := by
      rw [hA2, e1]
      exact List.take_left' (by simp only [List.length_append, List.length_take, List.length_cons, List.length_nil]; omega)
    refine ⟨w.heap.size, C, rfl, ⟨?_, .inr ⟨w.heap.size, C, A3.toArray, rfl, Nat.zero_le _, setRow_heap _ w.heap.size A2.toArray _ _ _ hh2, hC1, hC2, ?_, ?_⟩⟩, sb W2.drew _ ⟨hb2.os, hb2.tape, hb2.output, hb2.size, hb2.block⟩, Nat.le_refl _, ?_⟩
    · simp only [List.length_append, List.length_take, List.length_drop, List.length_cons, List.length_nil, hxl]; omega
    · rw [hA3]; simp only [List.size_toArray, List.length_append, List.length_take, List.length_drop, hxl, hA2l]; omega
    · rw [hA3, e2]
      exact List.take_left' (by simp only [List.length_append, List.length_take, List.length_drop, List.length_cons, List.length_nil, hxl]; omega)
    · simp only [World.setRow, Array.size_modify]
      exact (Array.getElem?_eq_some_iff.1 hh2).1
  have hd : (w.drew.heap.size) = w.heap.size := rfl
  have HR := hide hrun1
  have CP1 := hide hcp1
  have CP2 := hide hcp2
  have HW : Hid (W1.heap.size = W1.heap.size) := rfl
  have x1 : (k : Int) ≤ n := by omega
  have q1 : ((k : Int) == (n : Int)) = false := by simp; omega
  have q2 : ¬ ((k : Int) = (n : Int)) := by omega
  have zn : (n : Int) ≤ 64 := by omega
  have zk : (k : Int) < 64 := by omega
  have z1 : (k : Int) + 1 ≤ (n : Int) + 1 := by omega
  have z2 : ¬ n = k := by omega
  have z3 : ¬ C = k + 1 := by omega
  have z3' : ¬ C = k := by omega
  have z4 : (0 : Int) ≤ (k : Int) + 1 := by omega
  have z5 : (k : Int) ≤ (n : Int) + 1 := by omega
  have z7 : k ≤ n + 1 := by omega
  have z8 : k + 1 ≤ n + 1 := by omega
  have z9 : IntKind.i64.wrap ((k : Int) + 1) = (k : Int) + 1 := wrapI _ (by omega) (by omega)
  have z10 : ((k : Int) + 1).toNat = k + 1 := by omega
  have z12 : IntKind.i64.wrap ((n : Int) + 1) = (n : Int) + 1 := wrapI _ (by omega) (by omega)
  have z13 : IntKind.i64.wrap ((n : Int) + 1 - k) = ((n + 1 - k : Nat) : Int) := (wrapI _ (by omega) (by omega)).trans (by omega)
  have z14 : (C : Int) ≤ 9223372036854775807 := by unfold maxLen at hC2; omega
  have z15 : (n : Int) + 1 ≤ C := by omega
  clear hrun hrun1 hcp1 hcp2 hW1 hW2 hA hA2 hA3 hb1 hb2 hh1 hh2 hd3 sb hi hz0 hz1 hz2 hx h hs h1 hxl hcell hA2l hAl hZ hC2 hsl hgl hs1 ekn hd HW
  generalize w.heap.size = G at *
  go_enter Try.func33, Try.ntmps33
  go_wp2_with (at_builtin; refine wpList_app rfl _ _ 54 3 rfl _ _ rfl rfl HR.out ?_)
  rw [CP1.out]
  go_wp2
  go_region_law (refine step_copy rfl _ _ 54 rfl _ _ (by simp [Act.eval, Act.put]) (by simp [Act.eval, Act.put]) (CP2.out 3 (C - (k + 1)) (n - k)) ?_)
  go_wp2
  go_ret
  exact FIN.out
end Go.Proofs.Ytglbobobifejmaa
