
/-
  Package icmp: the bucket.
-/
import Derived.Test.YteiendigcaedhaaT4
namespace Go.Proofs.Yteiendigcaedhaa
open Go.RowKit Go.Shelf

/-- a bucket in numbers -/
structure Bk where
  left : Int
  since : Int
  now : Int
  deriving DecidableEq
def Bk.cells (x : Bk) : List Value := [.int .i64 x.left, .int .i64 x.since, .int .i64 x.now]
/-- a bucket in memory -/
structure BkAt (W : World) (b : Nat) (x : Bk) : Prop where
  cs : CellsAt W b 0 x.cells
  fz : ∀ y, W.frozen? ⟨b, y, none⟩ = false
theorem BkAt.lt {W : World} {b : Nat} {x : Bk} (h : BkAt W b x) : b < W.heap.size := h.cs.lt (by simp [Bk.cells])
theorem BkAt.but {K : Nat → Prop} {W W' : World} {b : Nat} {x : Bk} (h : BkAt W b x) (hb : But K W W') (hk : ¬ K b) : BkAt W' b x :=
  ⟨h.cs.but h.lt hb hk, fun y => (hb.frozen (p := ⟨b, y, none⟩) h.lt hk).trans (h.fz y)⟩
theorem BkAt.later {W W' : World} {b : Nat} {x : Bk} (h : BkAt W b x) (hb : Below W.heap.size W W') : BkAt W' b x := h.but (K := fun _ => False) (But.of_below hb) id
theorem BkAt.c0 {W : World} {b : Nat} {x : Bk} (h : BkAt W b x) : W.cell? ⟨b, 0, none⟩ = some (.int .i64 x.left) := h.cs 0 _ rfl
theorem BkAt.c1 {W : World} {b : Nat} {x : Bk} (h : BkAt W b x) : W.cell? ⟨b, 1, none⟩ = some (.int .i64 x.since) := h.cs 1 _ rfl
theorem BkAt.c2 {W : World} {b : Nat} {x : Bk} (h : BkAt W b x) : W.cell? ⟨b, 2, none⟩ = some (.int .i64 x.now) := h.cs 2 _ rfl
theorem BkAt.of {W : World} {b : Nat} {x : Bk} (h0 : W.cell? ⟨b, 0, none⟩ = some (.int .i64 x.left)) (h1 : W.cell? ⟨b, 1, none⟩ = some (.int .i64 x.since)) (h2 : W.cell? ⟨b, 2, none⟩ = some (.int .i64 x.now)) (hf : ∀ y, W.frozen? ⟨b, y, none⟩ = false) : BkAt W b x := by
  refine ⟨fun j v hv => ?_, hf⟩
  rw [Nat.zero_add]
  rcases j with _ | _ | _ | j
  · cases hv; exact h0
  · cases hv; exact h1
  · cases hv; exact h2
  · cases hv
theorem BkAt.set0 {W : World} {b : Nat} {x : Bk} (h : BkAt W b x) (v : Int) : BkAt (W.setCell ⟨b, 0, none⟩ (.int .i64 v)) b { x with left := v } :=
  .of (World.cell?_setCell_same _ _ _ h.c0) (by rw [setCell_out (by decide)]; exact h.c1) (by rw [setCell_out (by decide)]; exact h.c2) (fun y => by rw [World.frozen?_setCell]; exact h.fz y)
theorem BkAt.set1 {W : World} {b : Nat} {x : Bk} (h : BkAt W b x) (v : Int) : BkAt (W.setCell ⟨b, 1, none⟩ (.int .i64 v)) b { x with since := v } :=
  .of (by rw [setCell_out (by decide)]; exact h.c0) (World.cell?_setCell_same _ _ _ h.c1) (by rw [setCell_out (by decide)]; exact h.c2) (fun y => by rw [World.frozen?_setCell]; exact h.fz y)
theorem BkAt.set2 {W : World} {b : Nat} {x : Bk} (h : BkAt W b x) (v : Int) : BkAt (W.setCell ⟨b, 2, none⟩ (.int .i64 v)) b { x with now := v } :=
  .of (by rw [setCell_out (by decide)]; exact h.c0) (by rw [setCell_out (by decide)]; exact h.c1) (World.cell?_setCell_same _ _ _ h.c2) (fun y => by rw [World.frozen?_setCell]; exact h.fz y)
/-- what holds of its numbers -/
structure Bk.Ok (x : Bk) : Prop where
  l0 : 0 ≤ x.left
  l4 : x.left ≤ 4
  sn : x.since ≤ x.now
  s0 : -1152921504606846976 ≤ x.since
  n1 : x.now ≤ 1152921504606846976
/-- how many there are at a tick -/
def Bk.lf (x : Bk) (t : Int) : Bk :=
  if 4 - x.left ≤ (max x.now t - x.since) / 2 then ⟨4, x.since, max x.now t⟩ else ⟨x.left + (max x.now t - x.since) / 2, x.since + (max x.now t - x.since) / 2 * 2, max x.now t⟩
theorem Bk.Ok.lf {x : Bk} (h : x.Ok) {t : Int} (ht : t ≤ 1152921504606846976) : (x.lf t).Ok := by
  obtain ⟨h1, h2, h3, h4, h5⟩ := h
  unfold Bk.lf
  split
  · exact ⟨by show (0 : Int) ≤ 4; decide, by show (4 : Int) ≤ 4; decide, by show x.since ≤ max x.now t; omega, h4, by show max x.now t ≤ _; omega⟩
  · rename_i hn
    exact ⟨by show 0 ≤ x.left + _; omega, by show x.left + _ ≤ 4; omega, by show x.since + _ ≤ max x.now t; omega, by show _ ≤ x.since + _; omega, by show max x.now t ≤ _; omega⟩
def Bk.tkE (x : Bk) (t : Int) : Int := if (x.lf t).left = 0 then 120 else 0
def Bk.tk (x : Bk) (t : Int) : Bk := if (x.lf t).left = 0 then x.lf t else if (x.lf t).left = 4 then ⟨3, (x.lf t).now, (x.lf t).now⟩ else ⟨(x.lf t).left - 1, (x.lf t).since, (x.lf t).now⟩
theorem Bk.Ok.tk {x : Bk} (h : x.Ok) {t : Int} (ht : t ≤ 1152921504606846976) : (x.tk t).Ok := by
  have k := h.lf ht
  obtain ⟨h1, h2, h3, h4, h5⟩ := k
  unfold Bk.tk
  split
  · exact ⟨h1, h2, h3, h4, h5⟩
  · split
    · exact ⟨by show (0 : Int) ≤ 3; decide, by show (3 : Int) ≤ 4; decide, Int.le_refl _, by show _ ≤ (x.lf t).now; omega, h5⟩
    · exact ⟨by show 0 ≤ (x.lf t).left - 1; omega, by show (x.lf t).left - 1 ≤ 4; omega, h3, h4, h5⟩
theorem icNewB_any (t : Int) (w : World) : Calls Try.prog 19 #[.int .i64 t] w fun e w' => e = .returned (.pointer (some ⟨w.heap.size, 0, none⟩)) ∧ BkAt w' w.heap.size ⟨4, t, t⟩ ∧ Below w.heap.size w w' := by
  have H : Hid (BkAt (w.alloc (.cells #[.int .i64 4, .int .i64 t, .int .i64 t] 83)) w.heap.size ⟨4, t, t⟩) := ⟨CellsAt.new w [.int .i64 4, .int .i64 t, .int .i64 t] _, fun y => frozen_new w _ _ _⟩
  go_enter Try.func19, Try.ntmps19
  go_wp2
  go_ret
  exact ⟨rfl, H.out, later_alloc _ _⟩
section
variable {o : Oper} {w : World} {ev : Operand → Value}
theorem exec_cvU (x : Operand) (k : Int) (ho : o.op = .convert 3 67 x) (hx : ev x = .int .i64 k) : (execOp ev o).run Try.prog w = .ok (.value (.int .u64 (IntKind.u64.wrap k))) w := by
  unfold execOp
  simp [ho, hx, go_sem]
theorem exec_subU (x y : Operand) (t : TypeId) (a b r : Int) (ho : o.op = .binOp .sub 67 x y t) (hx : ev x = .int .u64 a) (hy : ev y = .int .u64 b) (hr : IntKind.u64.wrap (a - b) = r) : (execOp ev o).run Try.prog w = .ok (.value (.int .u64 r)) w := by
  unfold execOp
  simp [ho, hx, hy, go_sem, hr]
theorem exec_quoU (x : Operand) (t : TypeId) (a r : Int) (ho : o.op = .binOp .quo 67 x (.const (.int .u64 2)) t) (hc : ∀ v, ev (.const v) = v) (hx : ev x = .int .u64 a) (h0 : 0 ≤ a) (hr : a / 2 = r) (h1 : a < 18446744073709551616) : (execOp ev o).run Try.prog w = .ok (.value (.int .u64 r)) w := by
  have e : a.tdiv 2 = r := by rw [Int.tdiv_eq_ediv_of_nonneg h0]; exact hr
  have e2 : IntKind.u64.wrap r = r := by simp [IntKind.wrap, IntKind.bits, IntKind.signed]; omega
  unfold execOp
  simp [ho, hx, hc, go_sem, e, e2]
end
theorem wrapU (x : Int) : IntKind.u64.wrap x = x % 18446744073709551616 := by simp [IntKind.wrap, IntKind.bits, IntKind.signed]
set_option maxRecDepth 100000 in
set_option maxHeartbeats 4000000 in
theorem icLeft_any {w : World} {b : Nat} {x : Bk} (h : BkAt w b x) (hx : x.Ok) (t : Int) (ht : t ≤ 1152921504606846976) (ht0 : -1152921504606846976 ≤ t) :
    Calls Try.prog 20 #[.pointer (some ⟨b, 0, none⟩), .int .i64 t] w fun e w' => e = .returned (.int .i64 (x.lf t).left) ∧ BkAt w' b (x.lf t) ∧ But (Only b) w w' := by
  obtain ⟨h1, h2, h3, h4, h5⟩ := hx
  obtain ⟨m, hm⟩ : ∃ m, m = max x.now t := ⟨_, rfl⟩
  have m1 : m ≤ 1152921504606846976 := by omega
  have m0 : x.since ≤ m := by omega
  obtain ⟨k, hk⟩ : ∃ k, k = (m - x.since) / 2 := ⟨_, rfl⟩
  have k0 : 0 ≤ k := by omega
  have k1 : k ≤ 1152921504606846976 := by omega
  obtain ⟨left, since, now⟩ := x
  simp only at h1 h2 h3 h4 h5 hm m0 hk
  have c0 := h.c0
  have c1 := h.c1
  have c2 := h.c2
  simp only at c0 c1 c2
  obtain ⟨w1, hw1⟩ : ∃ w1, w1 = w.setCell ⟨b, 2, none⟩ (.int .i64 m) := ⟨_, rfl⟩
  have B1 : BkAt w1 b ⟨left, since, m⟩ := by rw [hw1]; exact h.set2 m
  have x0 := B1.c0
  have x1 := B1.c1
  have x2 := B1.c2
  simp only at x0 x1 x2
  have bo1 : But (Only b) w w1 := by rw [hw1]; exact (But.refl (Only b) w).cellb (b := b) rfl 2 _
  have HB1 := hide B1
  have BO1 := hide bo1
  have F0 := h.fz 2
  have mx : (if now < t then t else now) = m := by rw [hm]; split <;> omega
  have u1 : IntKind.u64.wrap (IntKind.u64.wrap m - IntKind.u64.wrap since) = m - since := by rw [wrapU, wrapU, wrapU]; omega
  have b1 := h.lt
  have l1 : b < w1.heap.size := B1.lt
  have hw1' := hw1.symm
  obtain ⟨R, hR⟩ : ∃ R, R = Bk.lf ⟨left, since, now⟩ t := ⟨_, rfl⟩
  have HR : Hid (R = if 4 - left ≤ k then ⟨4, since, m⟩ else ⟨left + k, since + k * 2, m⟩) := by rw [hR, Bk.lf]; simp only []; rw [← hm, ← hk]; exact rfl
  rw [← hR]
  have HK := hide hk
  have u2 : IntKind.u64.wrap (4 - left) = 4 - left := by rw [wrapU]; omega
  have u3 : IntKind.i64.wrap k = k := by rw [IntKind.wrap_i64]; omega
  clear hw1 hR hm hk bo1
  go_enter Try.func20, Try.ntmps20
  go_upto_region 2 with fail
  clear hw1' c0 c1 c2 mx
  refine region_quiet_C (fun W => Below w1.heap.size w1 W) (by kernel_rfl) (by kernel_rfl) (later_drew _) ?_
  go_big_quiet_step (fail)
  go_big_quiet_want
  refine quiet_pure (.pointer (some ⟨b, 0, none⟩)) (fun W hW => exec_nil _ _ rfl rfl) ?_
  go_big_quiet_on
  simp only [Act.put, List.setIfInBounds_toArray, List.set_cons_succ, List.set_cons_zero]
  go_big_quiet_want
  refine quiet_pure (.pointer (some ⟨b, 2, none⟩)) (fun W hW => exec_fieldO 83 _ 2 b 0 2 rfl rfl (fun w => by kernel_rfl)) ?_
  go_big_quiet_on
  simp only [Act.put, List.setIfInBounds_toArray, List.set_cons_succ, List.set_cons_zero]
  go_big_quiet_want
  refine quiet_pure (.int .i64 m) (fun W hW => exec_load1 3 one1 _ rfl b 2 rfl (.int .i64 m) ((hW.cell (p := ⟨b, 2, none⟩) l1).trans x2)) ?_
  go_big_quiet_on
  simp only [Act.put, List.setIfInBounds_toArray, List.set_cons_succ, List.set_cons_zero]
  go_big_quiet_want
  refine quiet_pure (.int .u64 (IntKind.u64.wrap m)) (fun W hW => exec_cvU _ _ rfl rfl) ?_
  go_big_quiet_on
  simp only [Act.put, List.setIfInBounds_toArray, List.set_cons_succ, List.set_cons_zero]
  go_big_quiet_step (fail)
  go_big_quiet_want
  refine quiet_pure (.pointer (some ⟨b, 0, none⟩)) (fun W hW => exec_nil _ _ rfl rfl) ?_
  go_big_quiet_on
  simp only [Act.put, List.setIfInBounds_toArray, List.set_cons_succ, List.set_cons_zero]
  go_big_quiet_want
  refine quiet_pure (.pointer (some ⟨b, 1, none⟩)) (fun W hW => exec_fieldO 83 _ 1 b 0 1 rfl rfl (fun w => by kernel_rfl)) ?_
  go_big_quiet_on
  simp only [Act.put, List.setIfInBounds_toArray, List.set_cons_succ, List.set_cons_zero]
  go_big_quiet_want
  refine quiet_pure (.int .i64 since) (fun W hW => exec_load1 3 one1 _ rfl b 1 rfl (.int .i64 since) ((hW.cell (p := ⟨b, 1, none⟩) l1).trans x1)) ?_
  go_big_quiet_on
  simp only [Act.put, List.setIfInBounds_toArray, List.set_cons_succ, List.set_cons_zero]
  go_big_quiet_want
  refine quiet_pure (.int .u64 (IntKind.u64.wrap since)) (fun W hW => exec_cvU _ _ rfl rfl) ?_
  go_big_quiet_on
  simp only [Act.put, List.setIfInBounds_toArray, List.set_cons_succ, List.set_cons_zero]
  go_big_quiet_want
  refine quiet_pure (.int .u64 (m - since)) (fun W hW => exec_subU _ _ _ _ _ _ rfl rfl rfl u1) ?_
  go_big_quiet_on
  simp only [Act.put, List.setIfInBounds_toArray, List.set_cons_succ, List.set_cons_zero]
  go_big_quiet_want
  refine quiet_pure (.int .u64 k) (fun W hW => exec_quoU _ _ _ _ rfl (fun _ => rfl) rfl (by omega) HK.out.symm (by omega)) ?_
  go_big_quiet_on
  simp only [Act.put, List.setIfInBounds_toArray, List.set_cons_succ, List.set_cons_zero]
  go_big_quiet_step (fail)
  refine wpQuiet_nil ?_
  intro wq bq
  have Bq := HB1.out.later bq
  have y0 := Bq.c0
  have y1 := Bq.c1
  simp only at y0 y1
  have BOq := hide (BO1.out.trans (But.of_below bq))
  have fz0 := Bq.fz 0
  have fz1 := Bq.fz 1
  by_cases hge : 4 - left ≤ k
  · have ER : Hid (R = ⟨4, since, m⟩) := by rw [HR.out, if_pos hge]; exact rfl
    obtain ⟨w5, hw5⟩ : ∃ w5, w5 = wq.setCell ⟨b, 0, none⟩ (.int .i64 4) := ⟨_, rfl⟩
    have B5 : BkAt w5 b ⟨4, since, m⟩ := by rw [hw5]; exact Bq.set0 4
    have z0 := B5.c0
    simp only at z0
    have H5 := hide B5
    have BO5 : Hid (But (Only b) w w5) := by rw [hw5]; exact BOq.out.trans ((But.refl (Only b) wq).cellb (b := b) rfl 0 _)
    have hw5' := hw5.symm
    clear hw5 B5 Bq bq x0 x1 x2 HR u1
    go_wp2
    go_ret
    exact ⟨by rw [ER.out]; rfl, by rw [ER.out]; exact H5.out, BO5.out⟩
  · have ER : Hid (R = ⟨left + k, since + k * 2, m⟩) := by rw [HR.out, if_neg hge]; exact rfl
    obtain ⟨w5, hw5⟩ : ∃ w5, w5 = wq.setCell ⟨b, 0, none⟩ (.int .i64 (left + k)) := ⟨_, rfl⟩
    have B5 : BkAt w5 b ⟨left + k, since, m⟩ := by rw [hw5]; exact Bq.set0 _
    obtain ⟨w6, hw6⟩ : ∃ w6, w6 = w5.setCell ⟨b, 1, none⟩ (.int .i64 (since + k * 2)) := ⟨_, rfl⟩
    have B6 : BkAt w6 b ⟨left + k, since + k * 2, m⟩ := by rw [hw6]; exact B5.set1 _
    have z1 := B5.c1
    have z2 := B6.c0
    have fz5 := B5.fz 1
    simp only at z1 z2
    have H6 := hide B6
    have BO6 : Hid (But (Only b) w w6) := by rw [hw6, hw5]; exact BOq.out.trans (((But.refl (Only b) wq).cellb (b := b) rfl 0 _).cellb (b := b) rfl 1 _)
    have hw5' := hw5.symm
    have hw6' := hw6.symm
    clear hw5 hw6 B5 B6 Bq bq x0 x1 x2 HR u1
    go_wp2
    go_ret
    exact ⟨by rw [ER.out]; rfl, by rw [ER.out]; exact H6.out, BO6.out⟩
set_option maxRecDepth 100000 in
set_option maxHeartbeats 4000000 in
theorem icTake_any {w : World} {b : Nat} {x : Bk} (h : BkAt w b x) (hx : x.Ok) (t : Int) (ht : t ≤ 1152921504606846976) (ht0 : -1152921504606846976 ≤ t) :
    Calls Try.prog 22 #[.pointer (some ⟨b, 0, none⟩), .int .i64 t] w fun e w' => e = .returned (.int .i64 (x.tkE t)) ∧ BkAt w' b (x.tk t) ∧ But (Only b) w w' := by
  have C := icLeft_any h hx t ht ht0
  have ok := hx.lf ht
  unfold Bk.tkE Bk.tk
  obtain ⟨y, hy⟩ : ∃ y, y = x.lf t := ⟨_, rfl⟩
  rw [← hy] at C ok ⊢
  clear hy
  obtain ⟨left, since, now⟩ := y
  obtain ⟨h1, h2, h3, h4, h5⟩ := ok
  simp only at h1 h2 h3 h4 h5 C ⊢
  have HC := hide C
  clear C h hx
  by_cases e0 : left = 0
  · subst e0
    simp only [if_true]
    go_enter Try.func22, Try.ntmps22
    go_wp2_with fail
    refine HC.out.mono ?_
    rintro _ w2 ⟨rfl, B2, bo2⟩
    have H2 := hide B2
    have BO2 := hide bo2
    clear B2 bo2 HC
    go_wp2
    go_ret
    exact ⟨rfl, H2.out, BO2.out⟩
  · rw [if_neg e0, if_neg e0]
    have z0 : (left == 0) = false := by simpa using e0
    by_cases e4 : left = 4
    · subst e4
      rw [if_pos rfl]
      clear z0 e0
      go_enter Try.func22, Try.ntmps22
      go_wp2_with fail
      refine HC.out.mono ?_
      rintro _ w2 ⟨rfl, B2, bo2⟩
      have c2 := B2.c2
      have f2 := B2.fz 1
      obtain ⟨w3, hw3⟩ : ∃ w3, w3 = w2.setCell ⟨b, 1, none⟩ (.int .i64 now) := ⟨_, rfl⟩
      have B3 : BkAt w3 b ⟨4, now, now⟩ := by rw [hw3]; exact B2.set1 _
      have c3 := B3.c0
      have f3 := B3.fz 0
      obtain ⟨w4, hw4⟩ : ∃ w4, w4 = w3.setCell ⟨b, 0, none⟩ (.int .i64 3) := ⟨_, rfl⟩
      have H4 : Hid (BkAt w4 b ⟨3, now, now⟩) := by rw [hw4]; exact B3.set0 _
      have c1 := B2.c1
      have BO4 : Hid (But (Only b) w w4) := by rw [hw4, hw3]; exact bo2.trans (((But.refl (Only b) w2).cellb (b := b) rfl 1 _).cellb (b := b) rfl 0 _)
      have hw3' := hw3.symm
      have hw4' := hw4.symm
      simp only at c1 c2 c3
      clear hw3 hw4 B3 B2 bo2 HC
      go_wp2
      go_ret
      exact ⟨rfl, H4.out, BO4.out⟩
    · rw [if_neg e4]
      have z4 : (left == 4) = false := by simpa using e4
      clear e0 e4
      go_enter Try.func22, Try.ntmps22
      go_wp2_with fail
      refine HC.out.mono ?_
      rintro _ w2 ⟨rfl, B2, bo2⟩
      have c0 := B2.c0
      have f2 := B2.fz 0
      obtain ⟨w4, hw4⟩ : ∃ w4, w4 = w2.setCell ⟨b, 0, none⟩ (.int .i64 (left - 1)) := ⟨_, rfl⟩
      have H4 : Hid (BkAt w4 b ⟨left - 1, since, now⟩) := by rw [hw4]; exact B2.set0 _
      have BO4 : Hid (But (Only b) w w4) := by rw [hw4]; exact bo2.trans ((But.refl (Only b) w2).cellb (b := b) rfl 0 _)
      have hw4' := hw4.symm
      simp only at c0
      clear hw4 B2 bo2 HC
      go_wp2
      go_ret
      exact ⟨rfl, H4.out, BO4.out⟩
end Go.Proofs.Yteiendigcaedhaa
