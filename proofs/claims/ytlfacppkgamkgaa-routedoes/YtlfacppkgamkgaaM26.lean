
/-
  The document's bit, begins, may.
-/
import Derived.Test.YtlfacppkgamkgaaM25
import Derived.Test.YtlfacppkgamkgaaM23
namespace Go.Proofs.Ytlfacppkgamkgaa
open Go.RowKit Go.Shelf

section
variable {o : Oper} {w : World} {ev : Operand → Value}
theorem exec_quoT (x : Operand) (k : Int) (ho : o.op = .binOp .quo 3 x (.const (.int .i64 8)) 3) (hc : ∀ v, ev (.const v) = v) (hx : ev x = .int .i64 k) (hw : IntKind.i64.wrap (k.tdiv 8) = k.tdiv 8) : (execOp ev o).run Try.prog w = .ok (.value (.int .i64 (k.tdiv 8))) w := by
  unfold execOp
  simp [ho, hx, hc, go_sem, hw]
theorem exec_cvI (x : Operand) (y : Int) (ho : o.op = .convert 5 3 x) (hx : ev x = .int .u8 y) (hw : IntKind.i64.wrap y = y) : (execOp ev o).run Try.prog w = .ok (.value (.int .i64 y)) w := by
  unfold execOp
  simp [ho, hx, go_sem, hw]
end
theorem half_pow (x : Int) (j : Nat) : x / 2 ^ j / 2 = x / 2 ^ (j + 1) := by
  rw [Int.ediv_ediv_of_nonneg (Int.le_of_lt (Int.pow_pos (by decide))), Int.pow_succ]
set_option maxRecDepth 100000 in
set_option maxHeartbeats 2000000 in
theorem bit_any (x : I4) (k : Nat) (hx : x.Ok) (hk : k < 32) (w : World) : Calls Try.prog 25 #[x.val, .int .i64 (k : Int)] w fun e w' => e = .returned (.int .i64 (bt x k)) ∧ Below w.heap.size w w' := by
  obtain ⟨s, hs⟩ : ∃ s, s = w.heap.size := ⟨_, rfl⟩
  obtain ⟨w1, hw1⟩ : ∃ w1, w1 = w.alloc (.cells x.vals.toArray 31) := ⟨_, rfl⟩
  have b1 : Hid (Below w.heap.size w w1) := by rw [hw1]; exact (Below.refl _ w).alloc (Nat.le_refl _) _
  have c1 : CellsAt w1 s 0 x.vals := by rw [hw1, hs]; exact CellsAt.new w x.vals 31
  have f1 : ∀ j, w1.frozen? ⟨s, j, none⟩ = false := fun j => by rw [hw1, hs]; exact frozen_new w _ _ _
  have oc := (Oct.of (x := x) (f := octet x) c1 f1 (fun _ => rfl)).1 (k / 8) (by omega)
  obtain ⟨y, hy⟩ : ∃ y, y = octet x (k / 8) := ⟨_, rfl⟩
  have yb := octet_bd hx (k / 8)
  rw [← hy] at oc yb
  have y0 := yb.1
  have y1 := yb.2
  have wy : IntKind.i64.wrap y = y := by rw [IntKind.wrap_i64]; omega
  have q1 : (k : Int).tdiv 8 = ((k / 8 : Nat) : Int) := by rw [Int.tdiv_eq_ediv_of_nonneg (by omega)]; omega
  have q2 : (k : Int).tmod 8 = ((k % 8 : Nat) : Int) := by rw [Int.tmod_eq_emod_of_nonneg (by omega)]; omega
  have EB : Hid (bt x k = y / 2 ^ (7 - k % 8) % 2) := by rw [hy]; exact rfl
  have hw1' := hw1.symm
  have hs' := hs.symm
  simp only [I4.vals] at hw1'
  simp only [I4.val]
  obtain ⟨d, hd⟩ : ∃ d : Nat, d = k / 8 := ⟨_, rfl⟩
  obtain ⟨r, hr⟩ : ∃ r : Nat, r = k % 8 := ⟨_, rfl⟩
  rw [← hd] at oc q1
  rw [← hr] at q2 EB
  have d4 : (d : Int) < 4 := by omega
  have r8 : r < 8 := by omega
  clear hw1 hs c1 f1 hy yb hd hr
  go_enter Try.func25, Try.ntmps25
  go_upto_region 1 with fail
  refine wp_region_list ?_
  refine listVP (w' := w1) 7 (.int .i64 (k : Int)) rfl rfl rfl (exec_move _ _ rfl rfl) ?_
  try simp only [Act.put, List.setIfInBounds_toArray, List.set_cons_zero, List.set_cons_succ]
  refine listVP (w' := w1) 8 (.int .i64 (d : Int)) rfl rfl rfl ((by rw [← q1]; exact exec_quoT _ _ rfl (fun _ => rfl) rfl (by rw [q1, IntKind.wrap_i64]; omega))) ?_
  try simp only [Act.put, List.setIfInBounds_toArray, List.set_cons_zero, List.set_cons_succ]
  refine listVP (w' := w1) 9 (.pointer (some ⟨s, d, none⟩)) rfl rfl rfl (exec_ixA4 _ _ s d rfl rfl rfl (by omega)) ?_
  try simp only [Act.put, List.setIfInBounds_toArray, List.set_cons_zero, List.set_cons_succ]
  refine listVP (w' := w1) 10 (.int .u8 y) rfl rfl rfl (exec_load1 5 oneU _ rfl s d rfl (.int .u8 y) (oc)) ?_
  try simp only [Act.put, List.setIfInBounds_toArray, List.set_cons_zero, List.set_cons_succ]
  refine listVP (w' := w1) 11 (.int .i64 y) rfl rfl rfl (exec_cvI _ y rfl rfl wy) ?_
  try simp only [Act.put, List.setIfInBounds_toArray, List.set_cons_zero, List.set_cons_succ]
  refine listVP (w' := w1) 5 (.int .i64 y) rfl rfl rfl (exec_assign _ _ rfl rfl) ?_
  try simp only [Act.put, List.setIfInBounds_toArray, List.set_cons_zero, List.set_cons_succ]
  clear oc wy q1 d4
  go_wp2
  go_loopw [5, 6] (fun vx vi wr => ∃ (j : Nat) (z : Int), vi = .int .i64 (j : Int) ∧ vx = .int .i64 z ∧ Hid (z = y / 2 ^ (j - r)) ∧ r ≤ j ∧ j ≤ 7 ∧ 0 ≤ z ∧ z ≤ 255 ∧ Hid (w1 = wr)) (fun _ vi _ => 7 - (intOf vi).toNat)
  case atStart => exact ⟨r, y, by first | rfl | (rw [q2]), rfl, (by unfold Hid; rw [Nat.sub_self]; simp), Nat.le_refl _, by omega, y0, y1, rfl⟩
  case round =>
    obtain ⟨j, z, rfl, rfl, HZ, hj1, hj2, z0, z1, hwr⟩ := hrel
    replace hwr := hwr.out
    subst hwr
    clear hw1' hs'
    by_cases hj : j < 7
    · have jz : (j : Int) < 7 := by omega
      have t2 : z.tdiv 2 = z / 2 := Int.tdiv_eq_ediv_of_nonneg z0
      have NZ : Hid (z / 2 = y / 2 ^ (j + 1 - r)) := by
        unfold Hid
        rw [HZ.out, half_pow, show j - r + 1 = j + 1 - r by omega]
      have wz : IntKind.i64.wrap (z / 2) = z / 2 := by rw [IntKind.wrap_i64]; omega
      go_wp2
      go_roundw
      case rel => exact ⟨j + 1, z / 2, by go_num, by first | rfl | (rw [t2]), NZ.out, by omega, by omega, by omega, by omega, trivial⟩
      case measure => simp [intOf]; omega
    · have ej : j = 7 := by omega
      subst ej
      have t2 : z.tmod 2 = z % 2 := Int.tmod_eq_emod_of_nonneg z0
      have FE : Hid (bt x k = z % 2) := by unfold Hid; rw [EB.out, HZ.out]
      go_wp2
      go_ret
      exact ⟨by first | (rw [FE.out]; rfl) | (rw [FE.out, ← t2]; rfl), b1.out⟩
/-- have two addresses the same first bits? -/
def bgB (a b : I4) (k : Nat) : Bool := decide (beg a k = beg b k)
set_option maxRecDepth 100000 in
set_option maxHeartbeats 2000000 in
theorem begins_any (x y : I4) (k : Nat) (hx : x.Ok) (hy : y.Ok) (hk : k ≤ 32) (w : World) : Calls Try.prog 21 #[x.val, y.val, .int .i64 (k : Int)] w fun e w' => e = .returned (.bool (bgB x y k)) ∧ Below w.heap.size w w' := by
  obtain ⟨s, hs⟩ : ∃ s, s = w.heap.size := ⟨_, rfl⟩
  obtain ⟨X, hX⟩ : ∃ X, X = x.vals := ⟨_, rfl⟩
  obtain ⟨Y, hY⟩ : ∃ Y, Y = y.vals := ⟨_, rfl⟩
  obtain ⟨w1, hw1⟩ : ∃ w1, w1 = (w.alloc (.cells X.toArray 31)).alloc (.cells Y.toArray 31) := ⟨_, rfl⟩
  have b1 : Hid (Below w.heap.size w w1) := by rw [hw1]; exact ((Below.refl _ w).alloc (Nat.le_refl _) _).alloc (by simp) _
  have cx : CellsAt w1 s 0 x.vals := by rw [hw1, hs, ← hX]; exact (CellsAt.new w X 31).but (by simp) ((But.refl (fun _ => False) _).alloc (.cells Y.toArray 31)) id
  have cy : CellsAt w1 (s + 1) 0 y.vals := by
    have h := CellsAt.new (w.alloc (.cells X.toArray 31)) Y 31
    rw [World.size_alloc, ← hs] at h
    rw [hw1, ← hY]; exact h
  have EX : Hid (x.val = .agg X.toArray) := by rw [hX]; exact rfl
  have EY : Hid (y.val = .agg Y.toArray) := by rw [hY]; exact rfl
  rw [EX.out, EY.out]
  have CX := hide cx
  have CY := hide cy
  have sl : s + 1 < w1.heap.size := cy.lt (by simp [I4.vals])
  have HX := hide hx
  have HY := hide hy
  have kz : (k : Int) ≤ 32 := by omega
  have hw1' := hw1.symm
  have hs' := hs.symm
  clear hw1 hs hX hY cx cy hx hy
  go_enter Try.func21, Try.ntmps21
  go_wp2
  clear hw1' hs'
  go_loopw [7] (fun v wr => ∃ i : Nat, v = .int .i64 (i : Int) ∧ i ≤ k ∧ Hid (∀ j, j < i → bt x j = bt y j) ∧ Hid (Below w1.heap.size w1 wr)) (fun v _ => k - (intOf v).toNat)
  case atStart => exact ⟨0, rfl, Nat.zero_le _, (fun j hj => by omega), Below.refl _ _⟩
  case round =>
    obtain ⟨i, rfl, hi, HI, BI⟩ := hrel
    by_cases hlt : i < k
    · have iz : (i : Int) < (k : Int) := by omega
      have CXi : ∀ W, Below wr.heap.size wr W → CellsAt W s 0 x.vals := fun W hW => CX.out.later (by omega) (later BI.out hW)
      have CYi : ∀ W, Below wr.heap.size wr W → CellsAt W (s + 1) 0 y.vals := fun W hW => CY.out.later sl (later BI.out hW)
      obtain ⟨q, hq⟩ : ∃ q, q = !(bt x i == bt y i) := ⟨_, rfl⟩
      go_upto_region 4 with fail
      refine region_quiet_C (fun W => Below wr.heap.size wr W) (by kernel_rfl) (by kernel_rfl) (later_drew _) ?_
      go_big_quiet_want
      refine quiet_pure (.agg (x.vals).toArray) (fun W hW => exec_loadA 31 4 aggI sizI _ rfl s 0 rfl (x.vals) rfl (CXi W hW)) ?_
      go_big_quiet_on
      simp only [Act.put, List.setIfInBounds_toArray, List.set_cons_succ, List.set_cons_zero]
      go_big_quiet_step (fail)
      go_big_quiet_want
      refine quiet_call 25 #[.agg x.vals.toArray, .int .i64 (i : Int)] (.int .i64 (bt x i)) (fun _ => by simp [Act.eval, go_sem]) (fun W hW => (bit_any x i HX.out (by omega) W).mono fun e w' h => ⟨h.1, later hW h.2⟩) ?_
      go_big_quiet_on
      simp only [Act.put, List.setIfInBounds_toArray, List.set_cons_succ, List.set_cons_zero]
      go_big_quiet_want
      refine quiet_pure (.agg (y.vals).toArray) (fun W hW => exec_loadA 31 4 aggI sizI _ rfl (s + 1) 0 rfl (y.vals) rfl (CYi W hW)) ?_
      go_big_quiet_on
      simp only [Act.put, List.setIfInBounds_toArray, List.set_cons_succ, List.set_cons_zero]
      go_big_quiet_step (fail)
      go_big_quiet_want
      refine quiet_call 25 #[.agg y.vals.toArray, .int .i64 (i : Int)] (.int .i64 (bt y i)) (fun _ => by simp [Act.eval, go_sem]) (fun W hW => (bit_any y i HY.out (by omega) W).mono fun e w' h => ⟨h.1, later hW h.2⟩) ?_
      go_big_quiet_on
      simp only [Act.put, List.setIfInBounds_toArray, List.set_cons_succ, List.set_cons_zero]
      go_big_quiet_want
      refine quiet_pure (.bool q) (fun W hW => exec_nei _ _ _ _ _ _ rfl rfl rfl hq.symm) ?_
      go_big_quiet_on
      simp only [Act.put, List.setIfInBounds_toArray, List.set_cons_succ, List.set_cons_zero]
      refine wpQuiet_nil ?_
      intro wq bq
      have BQ := hide (later BI.out bq)
      clear bq CXi CYi
      by_cases e : bt x i = bt y i
      · have e1 : q = false := by rw [hq, e]; simp
        subst e1
        have HI2 : Hid (∀ j, j < i + 1 → bt x j = bt y j) := fun j hj => by
          by_cases ej : j = i
          · rw [ej]; exact e
          · exact HI.out j (by omega)
        clear hq e
        go_wp2
        go_roundw
        case rel => exact ⟨i + 1, by go_num, by omega, HI2.out, BQ.out⟩
        case measure => simp [intOf]; omega
      · have e1 : q = true := by rw [hq]; simpa using e
        subst e1
        have FE : Hid (bgB x y k = false) := decide_eq_false (fun h => e ((beg_bits HX.out HY.out k hk).1 h i hlt))
        clear hq e
        go_wp2
        go_ret
        exact ⟨by rw [FE.out]; rfl, later b1.out BQ.out⟩
    · have ei : k = i := by omega
      subst ei
      have FE : Hid (bgB x y k = true) := decide_eq_true ((beg_bits HX.out HY.out k hk).2 HI.out)
      go_wp2
      go_ret
      exact ⟨by rw [FE.out]; rfl, later b1.out BI.out⟩
end Go.Proofs.Ytlfacppkgamkgaa
