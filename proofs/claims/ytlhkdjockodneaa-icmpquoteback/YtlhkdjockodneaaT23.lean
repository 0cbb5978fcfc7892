
/-
  The document's icmp: Quoted.
-/
import Derived.Test.YtlhkdjockodneaaT22
namespace Go.Proofs.Ytlhkdjockodneaa
open Go.RowKit Go.Shelf

section
variable {w w' : World} {ops : Array Oper} {rest : List Oper} {o : Oper} {a : Act} {Q : Exit → Act → World → Prop}
theorem listVP (d : Tmp) (v : Value) (hgd : o.guard = none) (_hnd : noDefer o = true) (hd : o.dst = some d) (hrun : (execOp a.eval o).run Try.prog w = .ok (.value v) w') (h : wpList Try.prog ops Q rest (a.put (some d) v) w') : wpList Try.prog ops Q (o :: rest) a w := by
  refine wpList_plain hgd fun K hK => ?_
  unfold Oper.wp
  rw [hrun]
  simp only [Oper.upon, hd]
  exact hK _ _ h
theorem listSP (hgd : o.guard = none) (_hnd : noDefer o = true) (hd : o.dst = none) (hrun : (execOp a.eval o).run Try.prog w = .ok .skip w') (h : wpList Try.prog ops Q rest a w') : wpList Try.prog ops Q (o :: rest) a w := by
  refine wpList_plain hgd fun K hK => ?_
  unfold Oper.wp
  rw [hrun]
  simp only [Oper.upon, hd, Act.put]
  exact hK _ _ h
end
section
variable {o : Oper} {w : World} {ev : Operand → Value}
theorem sizU (w : World) : (Go.sizeOf 5).run Try.prog w = .ok 1 w := by kernel_rfl
theorem exec_addN (c : Nat) (y : Operand) (t : TypeId) (i : Nat) (cI : Int) (hcI : (c : Int) = cI) (ho : o.op = .binOp .add 3 (.const (.int .i64 cI)) y t) (hc : ∀ v, ev (.const v) = v) (hy : ev y = .int .i64 (i : Int)) (h : c + i ≤ 1000) : (execOp ev o).run Try.prog w = .ok (.value (.int .i64 ((c + i : Nat) : Int))) w := by
  have e : ((c + i : Nat) : Int) = cI + (i : Int) := by omega
  rw [e]
  exact exec_addi _ _ _ _ _ ho (hc _) hy (by omega) (by omega)
theorem exec_ixA4o (x y : Operand) (g p i : Nat) (ho : o.op = .indexAddr 35 x y) (hx : ev x = .pointer (some ⟨g, p, none⟩)) (hy : ev y = .int .i64 (i : Int)) (hi : i < 4) : (execOp ev o).run Try.prog w = .ok (.value (.pointer (some ⟨g, p + i, none⟩))) w := by
  unfold execOp
  rcases i with _ | _ | _ | _ | i
  all_goals first | (exfalso; omega) | simp [ho, hx, hy, go_sem]
theorem exec_ixA4z (x y : Operand) (g i : Nat) (ho : o.op = .indexAddr 35 x y) (hx : ev x = .pointer (some ⟨g, 0, none⟩)) (hy : ev y = .int .i64 (i : Int)) (hi : i < 4) : (execOp ev o).run Try.prog w = .ok (.value (.pointer (some ⟨g, i, none⟩))) w := by
  have h := exec_ixA4o (w := w) x y g 0 i ho hx hy hi
  rw [Nat.zero_add] at h
  exact h
end
theorem nb_drop (bs : List Int) (k j : Nat) : nb (bs.drop k) j = nb bs (k + j) := by unfold nb; rw [List.getElem?_drop]
theorem w16_drop (bs : List Int) (k j : Nat) : w16 (bs.drop k) j = w16 bs (k + j) := by unfold w16; rw [nb_drop, nb_drop, Nat.add_assoc]
theorem w32_drop (bs : List Int) (k j : Nat) : w32 (bs.drop k) j = w32 bs (k + j) := by unfold w32; rw [nb_drop, nb_drop, nb_drop, nb_drop, ← Nat.add_assoc, ← Nat.add_assoc, ← Nat.add_assoc]
theorem w32_bd {bs : List Int} (h : Bytes bs) (k : Nat) : 0 ≤ w32 bs k ∧ w32 bs k < 4294967296 := by
  have h0 := nb_bd h k
  have h1 := nb_bd h (k + 1)
  have h2 := nb_bd h (k + 2)
  have h3 := nb_bd h (k + 3)
  unfold w32
  omega
/-- the first octets of an address -/
def pI (x : I4) (i : Nat) : I4 := ⟨if 0 < i then x.a else 0, if 1 < i then x.b else 0, if 2 < i then x.c else 0, if 3 < i then x.d else 0⟩
def oct4 (x : I4) : Nat → Int
  | 0 => x.a
  | 1 => x.b
  | 2 => x.c
  | _ => x.d
theorem pI_src (x y : I4) (pr : Int) (i : Nat) (hi : i < 4) : (Qu.cells ⟨pI x i, y, pr, 0, 0, 0⟩).set i (.int .u8 (oct4 x i)) = Qu.cells ⟨pI x (i + 1), y, pr, 0, 0, 0⟩ := by
  have : i = 0 ∨ i = 1 ∨ i = 2 ∨ i = 3 := by omega
  rcases this with rfl | rfl | rfl | rfl <;> rfl
theorem pI_dst (x y : I4) (pr : Int) (i : Nat) (hi : i < 4) : (Qu.cells ⟨x, pI y i, pr, 0, 0, 0⟩).set (4 + i) (.int .u8 (oct4 y i)) = Qu.cells ⟨x, pI y (i + 1), pr, 0, 0, 0⟩ := by
  have : i = 0 ∨ i = 1 ∨ i = 2 ∨ i = 3 := by omega
  rcases this with rfl | rfl | rfl | rfl <;> rfl
theorem oct4_at (bs : List Int) (k i : Nat) (hi : i < 4) : oct4 (ipA bs k) i = nb bs (k + i) := by
  have : i = 0 ∨ i = 1 ∨ i = 2 ∨ i = 3 := by omega
  rcases this with rfl | rfl | rfl | rfl <;> rfl
theorem some_cell {W : World} {q : Nat} {vs : List Value} (h : CellsAt W q 0 vs) (k : Nat) (hk : k < vs.length) : ∃ u, W.cell? ⟨q, k, none⟩ = some u := by
  have := h k _ (List.getElem?_eq_getElem hk)
  rw [Nat.zero_add] at this
  exact ⟨_, this⟩
set_option maxRecDepth 100000 in
set_option maxHeartbeats 8000000 in
theorem rQuoted_any (v : Value) (bs : List Int) (w : World) (hb : IsB w.heap.size w v bs) (hB : Bytes bs) (hl : (bs.length : Int) ≤ 4611686018427387900) :
    Calls Try.prog 18 #[v] w fun e w' => e = .returned (.tuple #[.agg (quV bs).cells.toArray, .int .i64 (quE bs)]) ∧ Below w.heap.size w w' := by
  obtain ⟨a, cap, rfl, _⟩ := hb.shape
  obtain ⟨n, hn⟩ : ∃ n, n = bs.length := ⟨_, rfl⟩
  obtain ⟨V, hV⟩ : ∃ V, V = quV bs := ⟨_, rfl⟩
  obtain ⟨E, hE⟩ : ∃ E, E = quE bs := ⟨_, rfl⟩
  rw [← hV, ← hE]
  have VE : E ≠ 0 → V = zQ := fun h => by rw [hV, quV, if_neg (by rw [← hE]; exact h)]
  obtain ⟨s2, hs2⟩ : ∃ s2, s2 = w.heap.size := ⟨_, rfl⟩
  obtain ⟨w1, hw1⟩ : ∃ w1, w1 = w.alloc (.cells zQ.cells.toArray 38) := ⟨_, rfl⟩
  have b1 : Below w.heap.size w w1 := by rw [hw1]; exact later_alloc _ _
  have c1 : CellsAt w1 s2 0 zQ.cells := by rw [hw1, hs2]; exact CellsAt.new w _ _
  have f1 : ∀ y, w1.frozen? ⟨s2, y, none⟩ = false := fun y => by rw [hw1, hs2]; exact frozen_new w _ _ _
  have l1 : s2 < w1.heap.size := by rw [hw1, hs2]; simp
  have HB1 := hide b1
  have C1 := hide c1
  have F1 := hide f1
  have HS2 := hide hs2
  have HN := hide hn
  have BY := hide hB
  have HI := hide (hb.later b1)
  have HI0 := hide hb
  have FIN : ∀ W, Below w1.heap.size w1 W → ∃ W', W.setCells s2 0 zQ.cells = W' ∧ CellsAt W s2 0 zQ.cells ∧ (∀ y, W.frozen? ⟨s2, y, none⟩ = false) ∧ CellsAt W' s2 0 zQ.cells ∧ Below w.heap.size w W' := fun W hW => by
    have bo := But.cells s2 zQ.cells 0 W
    have h := HB1.out.trans (hW.mono HB1.out.size)
    refine ⟨_, rfl, C1.out.later l1 hW, fun y => (hW.frozen (p := ⟨s2, y, none⟩) l1).trans (F1.out y), (C1.out.later l1 hW).stored rfl, h.trans (bo.below h.size (fun g hg e => by have e : g = s2 := e; have := HS2.out; omega))⟩
  have HFIN := hide FIN
  have hw1' := hw1.symm
  simp only [zQ, Qu.cells, zI, I4.vals, List.cons_append, List.nil_append] at hw1'
  have hs2' := hs2.symm
  rw [← hn] at HI HI0 ⊢
  by_cases h1 : n < 20
  · have e : E = 3 := by rw [hE, quE, if_pos (by omega)]
    subst e
    have HV : Hid (V = zQ) := VE (by decide)
    have z : (n : Int) < 20 := by omega
    clear hb hB hl hn hV hE VE b1 c1 f1 hw1 hs2 h1 FIN
    go_enter Try.func18, Try.ntmps18
    go_upto_region 2 with fail
    clear hw1' hs2'
    obtain ⟨w9, hw9, k1, k2, k3, k4⟩ := HFIN.out w1 (Below.refl _ _)
    have K1 := hide k1
    have K2 := hide k2
    have K3 := hide k3
    have K4 := hide k4
    clear k1 k2 k3 k4
    go_wp2_with (first | refine wpList_val rfl (exec_zQ rfl) ?_ | (refine wpList_storeA rfl 38 12 sizQ _ _ rfl s2 0 rfl zQ.cells zQ.cells rfl rfl rfl K1.out K2.out (qu_one _) ?_; intro _; rw [hw9]))
    refine bodyPost_ret (v := .tuple #[.agg zQ.cells.toArray, .int .i64 3]) (results_2 rfl _ _ s2 _ _ rfl rfl (run_loadVarA 38 12 aggQ sizQ s2 0 _ rfl K3.out)) rfl ?_
    exact ⟨by rw [HV.out], K4.out⟩
  have z20 : ¬ (n : Int) < 20 := by omega
  obtain ⟨g, off, cap', e, hcap, hg⟩ := some_of HI0.out (by rw [← hn]; omega)
  simp only [Value.slice.injEq] at e
  obtain ⟨rfl, e0, rfl⟩ := e
  clear e0
  rw [← hn] at hcap
  have CW : Hid (∀ W, Below w.heap.size w W → ∀ j, j < n → W.cell? ⟨g, off + j, none⟩ = some (.int .u8 (nb bs j))) := fun W hW j hj => cell_nb (HI0.out.later hW) (by rw [← HN.out]; exact hj)
  have x0c : w1.cell? ⟨g, off, none⟩ = some (.int .u8 (nb bs 0)) := by have := CW.out w1 b1 0 (by omega); simpa using this
  obtain ⟨p1, p2⟩ := hsI_bd hB
  obtain ⟨q1, q2⟩ := nb_bd hB 0
  obtain ⟨x, hx⟩ : ∃ x, x = nb bs 0 := ⟨_, rfl⟩
  obtain ⟨k, hk⟩ : ∃ k : Nat, hsI bs = (k : Int) := ⟨(hsI bs).toNat, by omega⟩
  have bnn := fun j => nb_bd hB j
  have EQ : quE bs = (if x / 16 ≠ 4 ∨ k < 20 then 4 else if n < k + 8 then 3 else 0) := by
    unfold quE
    rw [if_neg (by omega), hk, ← hx, ← hn]
    by_cases e : x / 16 ≠ 4 ∨ k < 20
    · rw [if_pos e, if_pos (by omega)]
    · rw [if_neg e, if_neg (by omega)]
      by_cases e2 : n < k + 8
      · rw [if_pos e2, if_pos (by omega)]
      · rw [if_neg e2, if_neg (by omega)]
  rw [← hx] at x0c q1 q2
  have k60 : k ≤ 60 := by omega
  have HK := hide hk
  have HXX := hide hx
  have HV0 := hide hV
  have HE0 := hide hE
  have HL := hide hl
  have HEQ := hide EQ
  obtain ⟨r, hr⟩ : ∃ r, r = x % 16 := ⟨_, rfl⟩
  have r1 : 0 ≤ r ∧ r ≤ 15 := by omega
  obtain ⟨r1, r2⟩ := r1
  have er : x % 16 = r := hr.symm
  have ek : r * 4 = (k : Int) := by rw [hr, ← hk, hsI, ← hx]
  clear hb hB hl hn hV hE b1 c1 f1 hw1 hs2 h1 FIN hk hx EQ p1 p2 hr
  by_cases ht : x / 16 = 4
  case neg =>
    have zt : (x / 16 != 4) = true := by simpa using ht
    have e : E = 4 := by rw [HE0.out, HEQ.out, if_pos (.inl ht)]
    subst e
    have HV : Hid (V = zQ) := VE (by decide)
    clear VE ht
    go_enter Try.func18, Try.ntmps18
    go_upto_region 5 with fail
    clear hw1' hs2'
    obtain ⟨w9, hw9, k1, k2, k3, k4⟩ := HFIN.out w1 (Below.refl _ _)
    have K1 := hide k1
    have K2 := hide k2
    have K3 := hide k3
    have K4 := hide k4
    clear k1 k2 k3 k4
    go_wp2_with (first | refine wpList_val rfl (exec_zQ rfl) ?_ | (refine wpList_storeA rfl 38 12 sizQ _ _ rfl s2 0 rfl zQ.cells zQ.cells rfl rfl rfl K1.out K2.out (qu_one _) ?_; intro _; rw [hw9]))
    refine bodyPost_ret (v := .tuple #[.agg zQ.cells.toArray, .int .i64 4]) (results_2 rfl _ _ s2 _ _ rfl rfl (run_loadVarA 38 12 aggQ sizQ s2 0 _ rfl K3.out)) rfl ?_
    exact ⟨by rw [HV.out], K4.out⟩
  have zt : (x / 16 != 4) = false := by simpa using ht
  by_cases hk20 : k < 20
  · have e : E = 4 := by rw [HE0.out, HEQ.out, if_pos (.inr hk20)]
    subst e
    have HV : Hid (V = zQ) := VE (by decide)
    have zk : (k : Int) < 20 := by omega
    clear VE ht
    go_enter Try.func18, Try.ntmps18
    go_upto_region 5 with fail
    clear hw1' hs2'
    obtain ⟨w9, hw9, k1, k2, k3, k4⟩ := HFIN.out w1 (Below.refl _ _)
    have K1 := hide k1
    have K2 := hide k2
    have K3 := hide k3
    have K4 := hide k4
    clear k1 k2 k3 k4
    go_wp2_with (first | refine wpList_val rfl (exec_zQ rfl) ?_ | (refine wpList_storeA rfl 38 12 sizQ _ _ rfl s2 0 rfl zQ.cells zQ.cells rfl rfl rfl K1.out K2.out (qu_one _) ?_; intro _; rw [hw9]))
    refine bodyPost_ret (v := .tuple #[.agg zQ.cells.toArray, .int .i64 4]) (results_2 rfl _ _ s2 _ _ rfl rfl (run_loadVarA 38 12 aggQ sizQ s2 0 _ rfl K3.out)) rfl ?_
    exact ⟨by rw [HV.out], K4.out⟩
  have zk : ¬ (k : Int) < 20 := by omega
  by_cases hk8 : n < k + 8
  · have e : E = 3 := by rw [HE0.out, HEQ.out, if_neg (by omega), if_pos hk8]
    subst e
    have HV : Hid (V = zQ) := VE (by decide)
    have zn : (n : Int) < (k : Int) + 8 := by omega
    clear VE ht
    go_enter Try.func18, Try.ntmps18
    go_upto_region 7 with fail
    clear hw1' hs2'
    obtain ⟨w9, hw9, k1, k2, k3, k4⟩ := HFIN.out w1 (Below.refl _ _)
    have K1 := hide k1
    have K2 := hide k2
    have K3 := hide k3
    have K4 := hide k4
    clear k1 k2 k3 k4
    go_wp2_with (first | refine wpList_val rfl (exec_zQ rfl) ?_ | (refine wpList_storeA rfl 38 12 sizQ _ _ rfl s2 0 rfl zQ.cells zQ.cells rfl rfl rfl K1.out K2.out (qu_one _) ?_; intro _; rw [hw9]))
    refine bodyPost_ret (v := .tuple #[.agg zQ.cells.toArray, .int .i64 3]) (results_2 rfl _ _ s2 _ _ rfl rfl (run_loadVarA 38 12 aggQ sizQ s2 0 _ rfl K3.out)) rfl ?_
    exact ⟨by rw [HV.out], K4.out⟩
  have zn : ¬ (n : Int) < (k : Int) + 8 := by omega
  have z0 : quE bs = 0 := by rw [HEQ.out, if_neg (by omega), if_neg hk8]
  have e : E = 0 := by rw [HE0.out, z0]
  subst e
  have HV : Hid (V = quQ bs) := by rw [HV0.out, quV, if_pos z0]; exact rfl
  have AT2 : Hid (∀ W (j : Nat) (jI : Int), (j : Int) = jI → Below w.heap.size w W → j + 2 ≤ n → Calls Try.prog 39 #[.slice (some ⟨g, off, none⟩) n cap, .int .i64 jI, .int .i64 2] W fun e W' => e = .returned (.int .i64 (w16 bs j)) ∧ W' = W) := fun W j jI hj hW hk => by
    subst hj
    refine (rAt2_any _ bs (j : Int) W (HI0.out.later hW) BY.out (by have := HL.out; omega)).mono ?_
    rintro _ W' ⟨rfl, h⟩
    refine ⟨?_, h⟩
    have := HN.out
    rw [if_pos (by unfold stB; exact decide_eq_true ⟨by omega, by omega⟩), rd16_at (by omega)]
  have AT4 : Hid (∀ W (j : Nat) (jI : Int), (j : Int) = jI → Below w.heap.size w W → j + 4 ≤ n → Calls Try.prog 39 #[.slice (some ⟨g, off, none⟩) n cap, .int .i64 jI, .int .i64 4] W fun e W' => e = .returned (.int .i64 (w32 bs j)) ∧ W' = W) := fun W j jI hj hW hk => by
    subst hj
    refine (rAt4_any _ bs (j : Int) W (HI0.out.later hW) BY.out (by have := HL.out; omega)).mono ?_
    rintro _ W' ⟨rfl, h⟩
    refine ⟨?_, h⟩
    have := HN.out
    have hs : stB bs.length (j : Int) 4 = true := by unfold stB; exact decide_eq_true ⟨by omega, by omega⟩
    rw [if_pos hs]
    unfold rd32
    rw [if_pos hs]
    rfl
  obtain ⟨pr, hpr⟩ : ∃ pr, pr = nb bs 9 := ⟨_, rfl⟩
  obtain ⟨pr0, pr1⟩ := bnn 9
  rw [← hpr] at pr0 pr1
  have x9c : w1.cell? ⟨g, off + 9, none⟩ = some (.int .u8 pr) := by rw [hpr]; exact CW.out w1 HB1.out 9 (by omega)
  obtain ⟨X, hX⟩ : ∃ X, X = Qu.cells ⟨zI, zI, pr, 0, 0, 0⟩ := ⟨_, rfl⟩
  have LX : Hid (X.length = 12) := by rw [hX]; exact rfl
  have OX : Hid (∀ u ∈ X, u.oneCell' = true) := by rw [hX]; exact qu_one _
  have EX : Hid (Value.agg (Qu.cells ⟨zI, zI, pr, 0, 0, 0⟩).toArray = .agg X.toArray) := by rw [hX]; exact rfl
  obtain ⟨u5, w5, hu5, hw5, cu5, fu5, c5, b5, l5⟩ := newQ w1 X LX.out
  obtain ⟨s5, hs5⟩ : ∃ s5, s5 = w1.heap.size := ⟨_, rfl⟩
  rw [← hs5] at hw5 cu5 fu5 c5 l5
  have CU := hide cu5
  have FU := hide fu5
  have h51 : w1.heap.size ≤ s5 := by omega
  have C5 : Hid (CellsAt w5 s5 0 (Qu.cells ⟨pI (ipA bs 12) 0, pI (ipA bs 16) 0, pr, 0, 0, 0⟩)) := by rw [hX] at c5; exact c5
  have F5 : Hid (∀ y, w5.frozen? ⟨s5, y, none⟩ = false) := fun y => by rw [hw5, World.frozen?_setCells]; exact fu5 y
  have B5 := hide b5
  have HPR := hide hpr
  have hu5' := hu5.symm
  simp only [zQ, Qu.cells, zI, I4.vals, List.cons_append, List.nil_append] at hu5'
  have hs5' := hs5.symm
  have hw5' := hw5.symm
  have n9 : (9 : Int) < (n : Int) := by omega
  clear VE ht z0 hpr hX hu5 hw5 hs5 cu5 fu5 c5 b5
  go_enter Try.func18, Try.ntmps18
  go_upto_region 9 with (first | (refine wpList_val rfl (exec_bldQ _ pr rfl rfl) ?_; rw [EX.out]) | (refine wpList_storeA rfl 38 12 sizQ _ _ rfl s5 0 rfl X zQ.cells rfl LX.out rfl CU.out FU.out OX.out ?_; intro _; rw [hw5']))
  clear hu5' hw5' hs5' hw1' hs2' CU FU x0c x9c
  go_wp2
  go_loopw [6] (fun vi wr => ∃ i : Nat, vi = .int .i64 (i : Int) ∧ i ≤ 4 ∧ Hid (CellsAt wr s5 0 (Qu.cells ⟨pI (ipA bs 12) i, pI (ipA bs 16) i, pr, 0, 0, 0⟩)) ∧ Hid (∀ y, wr.frozen? ⟨s5, y, none⟩ = false) ∧ Hid (Below w1.heap.size w1 wr)) (fun vi _ => 4 - (intOf vi).toNat)
  case atStart => exact ⟨0, rfl, Nat.zero_le _, C5.out, F5.out, B5.out⟩
  case round =>
    obtain ⟨i, rfl, hi, CI, FI, BI⟩ := hrel
    obtain ⟨wp, hwp⟩ : ∃ wp, wp = wr := ⟨_, rfl⟩
    rw [← hwp] at CI FI BI ⊢
    clear hwp
    by_cases hlt : i < 4
    · have iz : (i : Int) < 4 := by omega
      have BIw := HB1.out.trans (BI.out.mono HB1.out.size)
      obtain ⟨o1, ho1⟩ := some_cell CI.out i (by show i < 12; omega)
      obtain ⟨w6, hw6⟩ : ∃ w6, w6 = wp.setCell ⟨s5, i, none⟩ (.int .u8 (nb bs (12 + i))) := ⟨_, rfl⟩
      have c6 : CellsAt w6 s5 0 (Qu.cells ⟨pI (ipA bs 12) (i + 1), pI (ipA bs 16) i, pr, 0, 0, 0⟩) := by
        have h := CI.out.set i (.int .u8 (oct4 (ipA bs 12) i))
        rw [pI_src _ _ _ _ hlt] at h
        rw [hw6, ← oct4_at bs 12 i hlt]
        exact h
      have f6 : ∀ y, w6.frozen? ⟨s5, y, none⟩ = false := fun y => by rw [hw6, World.frozen?_setCell]; exact FI.out y
      have b6 : Below w1.heap.size w1 w6 := by rw [hw6]; exact BI.out.setCell (p := ⟨s5, i, none⟩) h51 _
      obtain ⟨o2, ho2⟩ := some_cell c6 (4 + i) (by show 4 + i < 12; omega)
      obtain ⟨w7, hw7⟩ : ∃ w7, w7 = w6.setCell ⟨s5, 4 + i, none⟩ (.int .u8 (nb bs (16 + i))) := ⟨_, rfl⟩
      have C7 : Hid (CellsAt w7 s5 0 (Qu.cells ⟨pI (ipA bs 12) (i + 1), pI (ipA bs 16) (i + 1), pr, 0, 0, 0⟩)) := by
        have h := c6.set (4 + i) (.int .u8 (oct4 (ipA bs 16) i))
        rw [pI_dst _ _ _ _ hlt] at h
        rw [hw7, ← oct4_at bs 16 i hlt]
        exact h
      have F7 : Hid (∀ y, w7.frozen? ⟨s5, y, none⟩ = false) := fun y => by rw [hw7, World.frozen?_setCell]; exact f6 y
      have B7 : Hid (Below w1.heap.size w1 w7) := by rw [hw7]; exact b6.setCell (p := ⟨s5, 4 + i, none⟩) h51 _
      have k12 := CW.out wp BIw (12 + i) (by omega)
      have k16 := CW.out w6 (HB1.out.trans (b6.mono HB1.out.size)) (16 + i) (by omega)
      have g1 := FI.out i
      have g2 := f6 (4 + i)
      go_upto_region 12 with fail
      refine wp_region_list ?_
      refine listVP (w' := wp) 42 (.int .i64 (i : Int)) rfl rfl rfl (exec_move _ _ rfl rfl) ?_
      try simp only [Act.put, List.setIfInBounds_toArray, List.set_cons_zero, List.set_cons_succ]
      refine listVP (w' := wp) 43 (.slice (some ⟨g, off, none⟩) n cap) rfl rfl rfl (exec_move _ _ rfl rfl) ?_
      try simp only [Act.put, List.setIfInBounds_toArray, List.set_cons_zero, List.set_cons_succ]
      refine listVP (w' := wp) 44 (.int .i64 (i : Int)) rfl rfl rfl (exec_move _ _ rfl rfl) ?_
      try simp only [Act.put, List.setIfInBounds_toArray, List.set_cons_zero, List.set_cons_succ]
      refine listVP (w' := wp) 45 (.int .i64 ((12 + i : Nat) : Int)) rfl rfl rfl (exec_addN 12 _ _ i 12 rfl rfl (fun _ => rfl) rfl (by omega)) ?_
      try simp only [Act.put, List.setIfInBounds_toArray, List.set_cons_zero, List.set_cons_succ]
      refine listVP (w' := wp) 46 (.pointer (some ⟨g, off + (12 + i), none⟩)) rfl rfl rfl (exec_ixU _ _ g off n cap (12 + i) rfl rfl rfl (by omega)) ?_
      try simp only [Act.put, List.setIfInBounds_toArray, List.set_cons_zero, List.set_cons_succ]
      refine listVP (w' := wp) 47 (.int .u8 (nb bs (12 + i))) rfl rfl rfl (exec_load1 5 oneU _ rfl g (off + (12 + i)) rfl (.int .u8 (nb bs (12 + i))) (k12)) ?_
      try simp only [Act.put, List.setIfInBounds_toArray, List.set_cons_zero, List.set_cons_succ]
      refine listVP (w' := wp) 48 (.pointer (some ⟨s5, 0, none⟩)) rfl rfl rfl (exec_fieldO 38 _ 0 s5 0 0 rfl rfl (fun w => by kernel_rfl)) ?_
      try simp only [Act.put, List.setIfInBounds_toArray, List.set_cons_zero, List.set_cons_succ]
      refine listVP (w' := wp) 49 (.pointer (some ⟨s5, i, none⟩)) rfl rfl rfl (exec_ixA4z _ _ s5 i rfl rfl rfl hlt) ?_
      try simp only [Act.put, List.setIfInBounds_toArray, List.set_cons_zero, List.set_cons_succ]
      refine listSP (w' := w6) rfl rfl rfl (by rw [hw6]; exact exec_store1 5 sizU _ _ rfl s5 i rfl _ _ rfl ho1 g1 rfl) ?_
      go_upto_region 13 with fail
      refine wp_region_list ?_
      refine listVP (w' := w6) 50 (.int .i64 (i : Int)) rfl rfl rfl (exec_move _ _ rfl rfl) ?_
      try simp only [Act.put, List.setIfInBounds_toArray, List.set_cons_zero, List.set_cons_succ]
      refine listVP (w' := w6) 51 (.slice (some ⟨g, off, none⟩) n cap) rfl rfl rfl (exec_move _ _ rfl rfl) ?_
      try simp only [Act.put, List.setIfInBounds_toArray, List.set_cons_zero, List.set_cons_succ]
      refine listVP (w' := w6) 52 (.int .i64 (i : Int)) rfl rfl rfl (exec_move _ _ rfl rfl) ?_
      try simp only [Act.put, List.setIfInBounds_toArray, List.set_cons_zero, List.set_cons_succ]
      refine listVP (w' := w6) 53 (.int .i64 ((16 + i : Nat) : Int)) rfl rfl rfl (exec_addN 16 _ _ i 16 rfl rfl (fun _ => rfl) rfl (by omega)) ?_
      try simp only [Act.put, List.setIfInBounds_toArray, List.set_cons_zero, List.set_cons_succ]
      refine listVP (w' := w6) 54 (.pointer (some ⟨g, off + (16 + i), none⟩)) rfl rfl rfl (exec_ixU _ _ g off n cap (16 + i) rfl rfl rfl (by omega)) ?_
      try simp only [Act.put, List.setIfInBounds_toArray, List.set_cons_zero, List.set_cons_succ]
      refine listVP (w' := w6) 55 (.int .u8 (nb bs (16 + i))) rfl rfl rfl (exec_load1 5 oneU _ rfl g (off + (16 + i)) rfl (.int .u8 (nb bs (16 + i))) (k16)) ?_
      try simp only [Act.put, List.setIfInBounds_toArray, List.set_cons_zero, List.set_cons_succ]
      refine listVP (w' := w6) 56 (.pointer (some ⟨s5, 4, none⟩)) rfl rfl rfl (exec_fieldO 38 _ 1 s5 0 4 rfl rfl (fun w => by kernel_rfl)) ?_
      try simp only [Act.put, List.setIfInBounds_toArray, List.set_cons_zero, List.set_cons_succ]
      refine listVP (w' := w6) 57 (.pointer (some ⟨s5, 4 + i, none⟩)) rfl rfl rfl (exec_ixA4o _ _ s5 4 i rfl rfl rfl hlt) ?_
      try simp only [Act.put, List.setIfInBounds_toArray, List.set_cons_zero, List.set_cons_succ]
      refine listSP (w' := w7) rfl rfl rfl (by rw [hw7]; exact exec_store1 5 sizU _ _ rfl s5 (4 + i) rfl _ _ rfl ho2 g2 rfl) ?_
      clear k12 k16 g1 g2 ho1 ho2 hw6 hw7 c6 f6 b6 BIw
      go_wp2
      go_roundw
      case rel => exact ⟨i + 1, by go_num, by omega, C7.out, F7.out, B7.out⟩
      case measure => simp [intOf]; omega
    · have e4 : i = 4 := by omega
      subst e4
      have CQ0 : Hid (CellsAt wp s5 0 (Qu.cells ⟨ipA bs 12, ipA bs 16, pr, 0, 0, 0⟩)) := CI.out
      have B1w := BI
      have BW_wp : Hid (Below w.heap.size w wp) := HB1.out.trans (BI.out.mono HB1.out.size)
      rw [show ((4 : Nat) : Int) = 4 from rfl]
      clear hi hlt CI
      obtain ⟨x1, x2⟩ := w32_bd BY.out (k + 4)
      by_cases e6 : pr = 6
      · subst e6
        have y8 : wp.cell? ⟨s5, 8, none⟩ = some (.int .i64 6) := CQ0.out 8 _ rfl
        have y9 : wp.cell? ⟨s5, 9, none⟩ = some (.int .i64 0) := CQ0.out 9 _ rfl
        have yf9 := FI.out 9
        obtain ⟨v1, hv1⟩ : ∃ v1, v1 = wp.setCell ⟨s5, 9, none⟩ (.int .i64 (w16 bs k)) := ⟨_, rfl⟩
        have CC1 : Hid (CellsAt v1 s5 0 (Qu.cells ⟨ipA bs 12, ipA bs 16, 6, w16 bs k, 0, 0⟩)) := by rw [hv1]; exact CQ0.out.set 9 _
        have FF1 : Hid (∀ y, v1.frozen? ⟨s5, y, none⟩ = false) := fun y => by rw [hv1, World.frozen?_setCell]; exact FI.out y
        have BB1 : Hid (Below w1.heap.size w1 v1) := by rw [hv1]; exact BI.out.setCell (p := ⟨s5, 9, none⟩) h51 _
        have hv1' := hv1.symm
        clear hv1
        have A1 := hide (AT2.out wp k (k : Int) (by omega) (HB1.out.trans (BI.out.mono HB1.out.size)) (by omega))
        go_wp2_with fail
        refine A1.out.mono ?_
        rintro _ wz ⟨rfl, e⟩
        rw [e]
        clear e A1
        have y8v1 : v1.cell? ⟨s5, 8, none⟩ = some (.int .i64 6) := CC1.out 8 _ rfl
        have y10 : v1.cell? ⟨s5, 10, none⟩ = some (.int .i64 0) := CC1.out 10 _ rfl
        have yf10 := FF1.out 10
        obtain ⟨v2, hv2⟩ : ∃ v2, v2 = v1.setCell ⟨s5, 10, none⟩ (.int .i64 (w16 bs (k + 2))) := ⟨_, rfl⟩
        have CC2 : Hid (CellsAt v2 s5 0 (Qu.cells ⟨ipA bs 12, ipA bs 16, 6, w16 bs k, w16 bs (k + 2), 0⟩)) := by rw [hv2]; exact CC1.out.set 10 _
        have FF2 : Hid (∀ y, v2.frozen? ⟨s5, y, none⟩ = false) := fun y => by rw [hv2, World.frozen?_setCell]; exact FF1.out y
        have BB2 : Hid (Below w1.heap.size w1 v2) := by rw [hv2]; exact BB1.out.setCell (p := ⟨s5, 10, none⟩) h51 _
        have hv2' := hv2.symm
        clear hv2
        have A2 := hide (AT2.out v1 (k + 2) ((k : Int) + 2) (by omega) (HB1.out.trans (BB1.out.mono HB1.out.size)) (by omega))
        go_wp2_with fail
        refine A2.out.mono ?_
        rintro _ wz ⟨rfl, e⟩
        rw [e]
        clear e A2
        have y8v2 : v2.cell? ⟨s5, 8, none⟩ = some (.int .i64 6) := CC2.out 8 _ rfl
        have y11 : v2.cell? ⟨s5, 11, none⟩ = some (.int .u32 0) := CC2.out 11 _ rfl
        have yf11 := FF2.out 11
        obtain ⟨v3, hv3⟩ : ∃ v3, v3 = v2.setCell ⟨s5, 11, none⟩ (.int .u32 (w32 bs (k + 4))) := ⟨_, rfl⟩
        have CC3 : Hid (CellsAt v3 s5 0 (Qu.cells ⟨ipA bs 12, ipA bs 16, 6, w16 bs k, w16 bs (k + 2), w32 bs (k + 4)⟩)) := by rw [hv3]; exact CC2.out.set 11 _
        have FF3 : Hid (∀ y, v3.frozen? ⟨s5, y, none⟩ = false) := fun y => by rw [hv3, World.frozen?_setCell]; exact FF2.out y
        have BB3 : Hid (Below w1.heap.size w1 v3) := by rw [hv3]; exact BB2.out.setCell (p := ⟨s5, 11, none⟩) h51 _
        have hv3' := hv3.symm
        clear hv3
        have A3 := hide (AT4.out v2 (k + 4) ((k : Int) + 4) (by omega) (HB1.out.trans (BB2.out.mono HB1.out.size)) (by omega))
        go_wp2_with fail
        refine A3.out.mono ?_
        rintro _ wz ⟨rfl, e⟩
        rw [e]
        clear e A3
        have y8v3 : v3.cell? ⟨s5, 8, none⟩ = some (.int .i64 6) := CC3.out 8 _ rfl
        obtain ⟨Z, hZ⟩ : ∃ Z, Z = Qu.cells ⟨ipA bs 12, ipA bs 16, 6, w16 bs k, w16 bs (k + 2), w32 bs (k + 4)⟩ := ⟨_, rfl⟩
        have CQ : Hid (CellsAt v3 s5 0 Z) := by rw [hZ]; exact CC3.out
        have LZ : Hid (Z.length = 12) := by rw [hZ]; exact rfl
        have OZ : Hid (∀ u ∈ Z, u.oneCell' = true) := by rw [hZ]; exact qu_one _
        have EZ : Hid (Z = (quQ bs).cells) := by unfold Hid; rw [hZ]; unfold quQ pt; rw [← HPR.out, HK.out, Int.toNat_natCast]; simp [w16_drop, w32_drop]
        have K1 : Hid (CellsAt v3 s2 0 zQ.cells) := C1.out.later l1 BB3.out
        have K2 : Hid (∀ y, v3.frozen? ⟨s2, y, none⟩ = false) := fun y => (BB3.out.frozen (p := ⟨s2, y, none⟩) l1).trans (F1.out y)
        obtain ⟨w9, hw9⟩ : ∃ w9, w9 = v3.setCells s2 0 Z := ⟨_, rfl⟩
        have bo9 := But.cells s2 Z 0 v3
        rw [← hw9] at bo9
        have C9 : Hid (CellsAt w9 s2 0 Z) := by rw [hw9]; exact K1.out.stored (by rw [LZ.out]; rfl)
        have B9 : Hid (Below w.heap.size w w9) := by
          have h := HB1.out.trans (BB3.out.mono HB1.out.size)
          exact h.trans (bo9.below h.size (fun g hg e => by have e : g = s2 := e; have := HS2.out; omega))
        have hw9' := hw9.symm
        clear hZ hw9 bo9
        go_upto_region 21 with fail
        refine wp_region_list ?_
        refine wpList_loadA rfl 38 12 aggQ sizQ _ rfl s5 0 rfl Z LZ.out CQ.out ?_
        simp only [Act.put, List.setIfInBounds_toArray, List.set_cons_zero, List.set_cons_succ]
        refine wpList_storeA rfl 38 12 sizQ _ _ rfl s2 0 rfl Z zQ.cells rfl LZ.out rfl K1.out K2.out OZ.out ?_
        intro _
        rw [hw9']
        clear hw9'
        simp only [Act.put]
        go_wp2
        refine bodyPost_ret (v := .tuple #[.agg Z.toArray, .int .i64 0]) (results_2 rfl _ _ s2 _ _ rfl rfl (run_loadVarA 38 12 aggQ sizQ s2 0 Z LZ.out C9.out)) rfl ?_
        exact ⟨by rw [HV.out, EZ.out], B9.out⟩
      have z6 : (pr == 6) = false := by simpa using e6
      by_cases e17 : pr = 17
      · subst e17
        have y8 : wp.cell? ⟨s5, 8, none⟩ = some (.int .i64 17) := CQ0.out 8 _ rfl
        have y9 : wp.cell? ⟨s5, 9, none⟩ = some (.int .i64 0) := CQ0.out 9 _ rfl
        have yf9 := FI.out 9
        obtain ⟨v1, hv1⟩ : ∃ v1, v1 = wp.setCell ⟨s5, 9, none⟩ (.int .i64 (w16 bs k)) := ⟨_, rfl⟩
        have CC1 : Hid (CellsAt v1 s5 0 (Qu.cells ⟨ipA bs 12, ipA bs 16, 17, w16 bs k, 0, 0⟩)) := by rw [hv1]; exact CQ0.out.set 9 _
        have FF1 : Hid (∀ y, v1.frozen? ⟨s5, y, none⟩ = false) := fun y => by rw [hv1, World.frozen?_setCell]; exact FI.out y
        have BB1 : Hid (Below w1.heap.size w1 v1) := by rw [hv1]; exact BI.out.setCell (p := ⟨s5, 9, none⟩) h51 _
        have hv1' := hv1.symm
        clear hv1
        have A1 := hide (AT2.out wp k (k : Int) (by omega) (HB1.out.trans (BI.out.mono HB1.out.size)) (by omega))
        go_wp2_with fail
        refine A1.out.mono ?_
        rintro _ wz ⟨rfl, e⟩
        rw [e]
        clear e A1
        have y8v1 : v1.cell? ⟨s5, 8, none⟩ = some (.int .i64 17) := CC1.out 8 _ rfl
        have y10 : v1.cell? ⟨s5, 10, none⟩ = some (.int .i64 0) := CC1.out 10 _ rfl
        have yf10 := FF1.out 10
        obtain ⟨v2, hv2⟩ : ∃ v2, v2 = v1.setCell ⟨s5, 10, none⟩ (.int .i64 (w16 bs (k + 2))) := ⟨_, rfl⟩
        have CC2 : Hid (CellsAt v2 s5 0 (Qu.cells ⟨ipA bs 12, ipA bs 16, 17, w16 bs k, w16 bs (k + 2), 0⟩)) := by rw [hv2]; exact CC1.out.set 10 _
        have FF2 : Hid (∀ y, v2.frozen? ⟨s5, y, none⟩ = false) := fun y => by rw [hv2, World.frozen?_setCell]; exact FF1.out y
        have BB2 : Hid (Below w1.heap.size w1 v2) := by rw [hv2]; exact BB1.out.setCell (p := ⟨s5, 10, none⟩) h51 _
        have hv2' := hv2.symm
        clear hv2
        have A2 := hide (AT2.out v1 (k + 2) ((k : Int) + 2) (by omega) (HB1.out.trans (BB1.out.mono HB1.out.size)) (by omega))
        go_wp2_with fail
        refine A2.out.mono ?_
        rintro _ wz ⟨rfl, e⟩
        rw [e]
        clear e A2
        have y8v2 : v2.cell? ⟨s5, 8, none⟩ = some (.int .i64 17) := CC2.out 8 _ rfl
        obtain ⟨Z, hZ⟩ : ∃ Z, Z = Qu.cells ⟨ipA bs 12, ipA bs 16, 17, w16 bs k, w16 bs (k + 2), 0⟩ := ⟨_, rfl⟩
        have CQ : Hid (CellsAt v2 s5 0 Z) := by rw [hZ]; exact CC2.out
        have LZ : Hid (Z.length = 12) := by rw [hZ]; exact rfl
        have OZ : Hid (∀ u ∈ Z, u.oneCell' = true) := by rw [hZ]; exact qu_one _
        have EZ : Hid (Z = (quQ bs).cells) := by unfold Hid; rw [hZ]; unfold quQ pt; rw [← HPR.out, HK.out, Int.toNat_natCast]; simp [w16_drop]
        have K1 : Hid (CellsAt v2 s2 0 zQ.cells) := C1.out.later l1 BB2.out
        have K2 : Hid (∀ y, v2.frozen? ⟨s2, y, none⟩ = false) := fun y => (BB2.out.frozen (p := ⟨s2, y, none⟩) l1).trans (F1.out y)
        obtain ⟨w9, hw9⟩ : ∃ w9, w9 = v2.setCells s2 0 Z := ⟨_, rfl⟩
        have bo9 := But.cells s2 Z 0 v2
        rw [← hw9] at bo9
        have C9 : Hid (CellsAt w9 s2 0 Z) := by rw [hw9]; exact K1.out.stored (by rw [LZ.out]; rfl)
        have B9 : Hid (Below w.heap.size w w9) := by
          have h := HB1.out.trans (BB2.out.mono HB1.out.size)
          exact h.trans (bo9.below h.size (fun g hg e => by have e : g = s2 := e; have := HS2.out; omega))
        have hw9' := hw9.symm
        clear hZ hw9 bo9
        go_upto_region 21 with fail
        refine wp_region_list ?_
        refine wpList_loadA rfl 38 12 aggQ sizQ _ rfl s5 0 rfl Z LZ.out CQ.out ?_
        simp only [Act.put, List.setIfInBounds_toArray, List.set_cons_zero, List.set_cons_succ]
        refine wpList_storeA rfl 38 12 sizQ _ _ rfl s2 0 rfl Z zQ.cells rfl LZ.out rfl K1.out K2.out OZ.out ?_
        intro _
        rw [hw9']
        clear hw9'
        simp only [Act.put]
        go_wp2
        refine bodyPost_ret (v := .tuple #[.agg Z.toArray, .int .i64 0]) (results_2 rfl _ _ s2 _ _ rfl rfl (run_loadVarA 38 12 aggQ sizQ s2 0 Z LZ.out C9.out)) rfl ?_
        exact ⟨by rw [HV.out, EZ.out], B9.out⟩
      have z17 : (pr == 17) = false := by simpa using e17
      by_cases e1 : pr = 1
      · subst e1
        have y8 : wp.cell? ⟨s5, 8, none⟩ = some (.int .i64 1) := CQ0.out 8 _ rfl
        have y9 : wp.cell? ⟨s5, 9, none⟩ = some (.int .i64 0) := CQ0.out 9 _ rfl
        have yf9 := FI.out 9
        obtain ⟨v1, hv1⟩ : ∃ v1, v1 = wp.setCell ⟨s5, 9, none⟩ (.int .i64 (w16 bs (k + 4))) := ⟨_, rfl⟩
        have CC1 : Hid (CellsAt v1 s5 0 (Qu.cells ⟨ipA bs 12, ipA bs 16, 1, w16 bs (k + 4), 0, 0⟩)) := by rw [hv1]; exact CQ0.out.set 9 _
        have FF1 : Hid (∀ y, v1.frozen? ⟨s5, y, none⟩ = false) := fun y => by rw [hv1, World.frozen?_setCell]; exact FI.out y
        have BB1 : Hid (Below w1.heap.size w1 v1) := by rw [hv1]; exact BI.out.setCell (p := ⟨s5, 9, none⟩) h51 _
        have hv1' := hv1.symm
        clear hv1
        have A1 := hide (AT2.out wp (k + 4) ((k : Int) + 4) (by omega) (HB1.out.trans (BI.out.mono HB1.out.size)) (by omega))
        go_wp2_with fail
        refine A1.out.mono ?_
        rintro _ wz ⟨rfl, e⟩
        rw [e]
        clear e A1
        have y8v1 : v1.cell? ⟨s5, 8, none⟩ = some (.int .i64 1) := CC1.out 8 _ rfl
        obtain ⟨Z, hZ⟩ : ∃ Z, Z = Qu.cells ⟨ipA bs 12, ipA bs 16, 1, w16 bs (k + 4), 0, 0⟩ := ⟨_, rfl⟩
        have CQ : Hid (CellsAt v1 s5 0 Z) := by rw [hZ]; exact CC1.out
        have LZ : Hid (Z.length = 12) := by rw [hZ]; exact rfl
        have OZ : Hid (∀ u ∈ Z, u.oneCell' = true) := by rw [hZ]; exact qu_one _
        have EZ : Hid (Z = (quQ bs).cells) := by unfold Hid; rw [hZ]; unfold quQ pt; rw [← HPR.out, HK.out, Int.toNat_natCast]; simp [w16_drop]
        have K1 : Hid (CellsAt v1 s2 0 zQ.cells) := C1.out.later l1 BB1.out
        have K2 : Hid (∀ y, v1.frozen? ⟨s2, y, none⟩ = false) := fun y => (BB1.out.frozen (p := ⟨s2, y, none⟩) l1).trans (F1.out y)
        obtain ⟨w9, hw9⟩ : ∃ w9, w9 = v1.setCells s2 0 Z := ⟨_, rfl⟩
        have bo9 := But.cells s2 Z 0 v1
        rw [← hw9] at bo9
        have C9 : Hid (CellsAt w9 s2 0 Z) := by rw [hw9]; exact K1.out.stored (by rw [LZ.out]; rfl)
        have B9 : Hid (Below w.heap.size w w9) := by
          have h := HB1.out.trans (BB1.out.mono HB1.out.size)
          exact h.trans (bo9.below h.size (fun g hg e => by have e : g = s2 := e; have := HS2.out; omega))
        have hw9' := hw9.symm
        clear hZ hw9 bo9
        go_upto_region 21 with fail
        refine wp_region_list ?_
        refine wpList_loadA rfl 38 12 aggQ sizQ _ rfl s5 0 rfl Z LZ.out CQ.out ?_
        simp only [Act.put, List.setIfInBounds_toArray, List.set_cons_zero, List.set_cons_succ]
        refine wpList_storeA rfl 38 12 sizQ _ _ rfl s2 0 rfl Z zQ.cells rfl LZ.out rfl K1.out K2.out OZ.out ?_
        intro _
        rw [hw9']
        clear hw9'
        simp only [Act.put]
        go_wp2
        refine bodyPost_ret (v := .tuple #[.agg Z.toArray, .int .i64 0]) (results_2 rfl _ _ s2 _ _ rfl rfl (run_loadVarA 38 12 aggQ sizQ s2 0 Z LZ.out C9.out)) rfl ?_
        exact ⟨by rw [HV.out, EZ.out], B9.out⟩
      have z1 : (pr == 1) = false := by simpa using e1
      have y8 : wp.cell? ⟨s5, 8, none⟩ = some (.int .i64 pr) := CQ0.out 8 _ rfl
      obtain ⟨Z, hZ⟩ : ∃ Z, Z = Qu.cells ⟨ipA bs 12, ipA bs 16, pr, 0, 0, 0⟩ := ⟨_, rfl⟩
      have CQ : Hid (CellsAt wp s5 0 Z) := by rw [hZ]; exact CQ0.out
      have LZ : Hid (Z.length = 12) := by rw [hZ]; exact rfl
      have OZ : Hid (∀ u ∈ Z, u.oneCell' = true) := by rw [hZ]; exact qu_one _
      have EZ : Hid (Z = (quQ bs).cells) := by unfold Hid; rw [hZ]; unfold quQ pt; rw [← HPR.out, HK.out, Int.toNat_natCast]; simp [e6, e17, e1]
      have K1 : Hid (CellsAt wp s2 0 zQ.cells) := C1.out.later l1 BI.out
      have K2 : Hid (∀ y, wp.frozen? ⟨s2, y, none⟩ = false) := fun y => (BI.out.frozen (p := ⟨s2, y, none⟩) l1).trans (F1.out y)
      obtain ⟨w9, hw9⟩ : ∃ w9, w9 = wp.setCells s2 0 Z := ⟨_, rfl⟩
      have bo9 := But.cells s2 Z 0 wp
      rw [← hw9] at bo9
      have C9 : Hid (CellsAt w9 s2 0 Z) := by rw [hw9]; exact K1.out.stored (by rw [LZ.out]; rfl)
      have B9 : Hid (Below w.heap.size w w9) := by
        have h := HB1.out.trans (BI.out.mono HB1.out.size)
        exact h.trans (bo9.below h.size (fun g hg e => by have e : g = s2 := e; have := HS2.out; omega))
      have hw9' := hw9.symm
      clear hZ hw9 bo9
      go_upto_region 21 with fail
      refine wp_region_list ?_
      refine wpList_loadA rfl 38 12 aggQ sizQ _ rfl s5 0 rfl Z LZ.out CQ.out ?_
      simp only [Act.put, List.setIfInBounds_toArray, List.set_cons_zero, List.set_cons_succ]
      refine wpList_storeA rfl 38 12 sizQ _ _ rfl s2 0 rfl Z zQ.cells rfl LZ.out rfl K1.out K2.out OZ.out ?_
      intro _
      rw [hw9']
      clear hw9'
      simp only [Act.put]
      go_wp2
      refine bodyPost_ret (v := .tuple #[.agg Z.toArray, .int .i64 0]) (results_2 rfl _ _ s2 _ _ rfl rfl (run_loadVarA 38 12 aggQ sizQ s2 0 Z LZ.out C9.out)) rfl ?_
      exact ⟨by rw [HV.out, EZ.out], B9.out⟩
end Go.Proofs.Ytlhkdjockodneaa
