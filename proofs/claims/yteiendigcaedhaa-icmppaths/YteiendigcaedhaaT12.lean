
/-
  The document's bucket; both buckets in numbers; what is taken.
-/
import Derived.Test.YteiendigcaedhaaT11
namespace Go.Proofs.Yteiendigcaedhaa
open Go.RowKit Go.Shelf

section
variable {o : Oper} {w : World} {ev : Operand → Value}
theorem exec_subi2 (x y : Operand) (t : TypeId) (a b : Int) (ho : o.op = .binOp .sub 3 x y t) (hx : ev x = .int .i64 a) (hy : ev y = .int .i64 b) (h0 : -9223372036854775808 ≤ a - b) (h1 : a - b ≤ 9223372036854775807) : (execOp ev o).run Try.prog w = .ok (.value (.int .i64 (a - b))) w := by
  have hw := wrapI (a - b) h0 h1
  unfold execOp
  simp [ho, hx, hy, go_sem, hw]
theorem exec_quo2 (x : Operand) (t : TypeId) (a : Int) (ho : o.op = .binOp .quo 3 x (.const (.int .i64 2)) t) (hc : ∀ v, ev (.const v) = v) (hx : ev x = .int .i64 a) (h0 : 0 ≤ a) (h1 : a ≤ 9223372036854775807) : (execOp ev o).run Try.prog w = .ok (.value (.int .i64 (a / 2))) w := by
  have e : a.tdiv 2 = a / 2 := Int.tdiv_eq_ediv_of_nonneg h0
  have e2 : IntKind.i64.wrap (a / 2) = a / 2 := wrapI _ (by omega) (by omega)
  unfold execOp
  simp [ho, hx, hc, go_sem, e, e2]
end
/-- the document's bucket at a tick -/
def Bk.gs (y : Bk) (t : Int) : Bk :=
  if y.left < 4 then
    if 4 - y.left ≤ (max y.now t - y.since) / 2 then ⟨4, max y.now t, max y.now t⟩ else ⟨y.left + (max y.now t - y.since) / 2, y.since + 2 * ((max y.now t - y.since) / 2), max y.now t⟩
  else if y.left = 4 then ⟨4, max y.now t, max y.now t⟩ else ⟨y.left, y.since, max y.now t⟩
theorem Bk.Ok.gs {x : Bk} (h : x.Ok) {t : Int} (ht : t ≤ 1152921504606846976) : (x.gs t).Ok ∧ (x.gs t).now = max x.now t ∧ ((x.gs t).left = 4 → (x.gs t).since = (x.gs t).now) ∧ ((x.gs t).left < 4 → (x.gs t).now - (x.gs t).since ≤ 1) := by
  obtain ⟨h1, h2, h3, h4, h5⟩ := h
  obtain ⟨left, since, now⟩ := x
  simp only at h1 h2 h3 h4 h5
  unfold Bk.gs
  simp only
  by_cases hl : left < 4
  · rw [if_pos hl]
    by_cases hg : 4 - left ≤ (max now t - since) / 2
    · rw [if_pos hg]
      exact ⟨⟨by simp only; omega, by simp only; omega, by simp only; omega, by simp only; omega, by simp only; omega⟩, rfl, fun _ => rfl, fun h => by simp only at h; omega⟩
    · rw [if_neg hg]
      exact ⟨⟨by simp only; omega, by simp only; omega, by simp only; omega, by simp only; omega, by simp only; omega⟩, rfl, fun h => by simp only at h ⊢; omega, fun h => by simp only; omega⟩
  · rw [if_neg hl]
    by_cases h4' : left = 4
    · rw [if_pos h4']
      exact ⟨⟨by simp only; omega, by simp only; omega, by simp only; omega, by simp only; omega, by simp only; omega⟩, rfl, fun _ => rfl, fun h => by simp only at h; omega⟩
    · omega
def Bk.gtE (y : Bk) (t : Int) : Int := if (y.gs t).left = 0 then 120 else 0
def Bk.gt (y : Bk) (t : Int) : Bk := if (y.gs t).left = 0 then y.gs t else ⟨(y.gs t).left - 1, (y.gs t).since, (y.gs t).now⟩
set_option maxRecDepth 100000 in
set_option maxHeartbeats 4000000 in
theorem rGoes_any {w : World} {b : Nat} {x : Bk} (h : BkAt w b x) (hx : x.Ok) (t : Int) (ht : t ≤ 1152921504606846976) (ht0 : -1152921504606846976 ≤ t) :
    Calls Try.prog 43 #[.pointer (some ⟨b, 0, none⟩), .int .i64 t] w fun e w' => e = .returned (.tuple #[]) ∧ BkAt w' b (x.gs t) ∧ But (Only b) w w' := by
  obtain ⟨h1, h2, h3, h4, h5⟩ := hx
  obtain ⟨m, hm⟩ : ∃ m, m = max x.now t := ⟨_, rfl⟩
  obtain ⟨left, since, now⟩ := x
  simp only at h1 h2 h3 h4 h5 hm
  obtain ⟨k, hk⟩ : ∃ k, k = (m - since) / 2 := ⟨_, rfl⟩
  have k0 : 0 ≤ k := by omega
  have k1 : k ≤ 1152921504606846976 := by omega
  have m0 : since ≤ m := by omega
  have m1 : m ≤ 1152921504606846976 := by omega
  obtain ⟨R, hR⟩ : ∃ R, R = Bk.gs ⟨left, since, now⟩ t := ⟨_, rfl⟩
  have HR : Hid (R = if left < 4 then (if 4 - left ≤ k then ⟨4, m, m⟩ else ⟨left + k, since + 2 * k, m⟩) else if left = 4 then ⟨4, m, m⟩ else ⟨left, since, m⟩) := by rw [hR, Bk.gs]; simp only []; rw [← hm, ← hk]; exact rfl
  rw [← hR]
  have HK := hide hk
  have c2 := h.c2
  have f2 := h.fz 2
  simp only at c2
  -- the latest tick
  obtain ⟨w1, hw1⟩ : ∃ w1, w1 = if now < t then w.setCell ⟨b, 2, none⟩ (.int .i64 t) else w := ⟨_, rfl⟩
  have B1 : BkAt w1 b ⟨left, since, m⟩ := by
    rw [hw1]
    by_cases e : now < t
    · rw [if_pos e]
      have := h.set2 t
      rw [show m = t by omega]; exact this
    · rw [if_neg e, show m = now by omega]; exact h
  have BO1 : Hid (But (Only b) w w1) := by
    rw [hw1]
    by_cases e : now < t
    · rw [if_pos e]; exact (But.refl (Only b) w).cellb (b := b) rfl 2 _
    · rw [if_neg e]; exact But.refl _ _
  have HB1 := hide B1
  have x0 := B1.c0
  have x1 := B1.c1
  have x2 := B1.c2
  have y0 := B1.fz 0
  have y1 := B1.fz 1
  simp only at x0 x1 x2
  have l1 : b < w1.heap.size := B1.lt
  have HW1 := hide hw1
  clear hR hm hk B1 hw1 h
  go_enter Try.func43, Try.ntmps43
  go_upto_if 10 with fail
  go_cut [] (fun wc => w1 = wc)
  case first =>
    by_cases e : now < t
    · rw [if_pos e] at HW1
      have hw := HW1.out.symm
      clear x0 x1 x2
      go_wp2
      go_meet
      case rel => trivial
    · rw [if_neg e] at HW1
      have hw := HW1.out
      clear x0 x1 x2
      go_wp2
      go_meet
      case rel => exact hw
  case rest =>
    subst hcut
    clear c2 f2
    by_cases hl : left < 4
    · rw [if_pos hl] at HR
      obtain ⟨n, hn⟩ : ∃ n, n = if 4 - left < k then 4 - left else k := ⟨_, rfl⟩
      go_upto_region 3 with fail
      refine region_quiet_C (fun W => Below w1.heap.size w1 W) (by kernel_rfl) (by kernel_rfl) (later_drew _) ?_
      go_big_quiet_step (fail)
      go_big_quiet_want
      refine quiet_pure (.pointer (some ⟨b, 0, none⟩)) (fun W hW => exec_nil _ _ rfl rfl) ?_
      go_big_quiet_on
      simp only [Act.put, List.setIfInBounds_toArray, List.set_cons_succ, List.set_cons_zero]
      go_big_quiet_want
      refine quiet_pure (.pointer (some ⟨b, 2, none⟩)) (fun W hW => exec_fieldO 47 _ 2 b 0 2 rfl rfl (fun w => by kernel_rfl)) ?_
      go_big_quiet_on
      simp only [Act.put, List.setIfInBounds_toArray, List.set_cons_succ, List.set_cons_zero]
      go_big_quiet_want
      refine quiet_pure (.int .i64 m) (fun W hW => exec_load1 3 one1 _ rfl b 2 rfl (.int .i64 m) ((hW.cell (p := ⟨b, 2, none⟩) l1).trans x2)) ?_
      go_big_quiet_on
      simp only [Act.put, List.setIfInBounds_toArray, List.set_cons_succ, List.set_cons_zero]
      go_big_quiet_step (fail)
      go_big_quiet_want
      refine quiet_pure (.pointer (some ⟨b, 0, none⟩)) (fun W hW => exec_nil _ _ rfl rfl) ?_
      go_big_quiet_on
      simp only [Act.put, List.setIfInBounds_toArray, List.set_cons_succ, List.set_cons_zero]
      go_big_quiet_want
      refine quiet_pure (.pointer (some ⟨b, 1, none⟩)) (fun W hW => exec_fieldO 47 _ 1 b 0 1 rfl rfl (fun w => by kernel_rfl)) ?_
      go_big_quiet_on
      simp only [Act.put, List.setIfInBounds_toArray, List.set_cons_succ, List.set_cons_zero]
      go_big_quiet_want
      refine quiet_pure (.int .i64 since) (fun W hW => exec_load1 3 one1 _ rfl b 1 rfl (.int .i64 since) ((hW.cell (p := ⟨b, 1, none⟩) l1).trans x1)) ?_
      go_big_quiet_on
      simp only [Act.put, List.setIfInBounds_toArray, List.set_cons_succ, List.set_cons_zero]
      go_big_quiet_want
      refine quiet_pure (.int .i64 (m - since)) (fun W hW => exec_subi2 _ _ _ _ _ rfl rfl rfl (by omega) (by omega)) ?_
      go_big_quiet_on
      simp only [Act.put, List.setIfInBounds_toArray, List.set_cons_succ, List.set_cons_zero]
      go_big_quiet_want
      refine quiet_pure (.int .i64 k) (fun W hW => by rw [HK.out]; exact exec_quo2 _ _ _ rfl (fun _ => rfl) rfl (by omega) (by omega)) ?_
      go_big_quiet_on
      simp only [Act.put, List.setIfInBounds_toArray, List.set_cons_succ, List.set_cons_zero]
      go_big_quiet_step (fail)
      refine wpQuiet_nil ?_
      intro wq bq
      have Bq := HB1.out.later bq
      have BOq := hide (BO1.out.trans (But.of_below bq))
      have HBq := hide Bq
      have z0 := Bq.c0
      have z1 := Bq.c1
      simp only at z0 z1
      have g0 := Bq.fz 0
      clear x0 x1 x2 y0 y1 Bq bq
      go_upto_if 36 with fail
      go_cut [4] (fun v wc => v = .int .i64 n ∧ wq = wc)
      case first =>
        by_cases e : 4 - left < k
        · rw [if_pos e] at hn
          have HN := hide hn
          clear hn
          go_wp2
          go_meet
          case rel => exact ⟨by rw [HN.out], rfl⟩
        · rw [if_neg e] at hn
          subst hn
          go_wp2
          go_meet
          case rel => exact ⟨rfl, rfl⟩
      case rest =>
        obtain ⟨rfl, hcw⟩ := hcut
        subst hcw
        have n0 : 0 ≤ n ∧ n ≤ 4 - left ∧ n ≤ k := by rw [hn]; split <;> omega
        obtain ⟨n1, n2, n3⟩ := n0
        obtain ⟨w5, hw5⟩ : ∃ w5, w5 = wq.setCell ⟨b, 0, none⟩ (.int .i64 (left + n)) := ⟨_, rfl⟩
        have B5 : BkAt w5 b ⟨left + n, since, m⟩ := by rw [hw5]; exact HBq.out.set0 _
        obtain ⟨w6, hw6⟩ : ∃ w6, w6 = w5.setCell ⟨b, 1, none⟩ (.int .i64 (since + 2 * n)) := ⟨_, rfl⟩
        have B6 : BkAt w6 b ⟨left + n, since + 2 * n, m⟩ := by rw [hw6]; exact B5.set1 _
        have BO6 : Hid (But (Only b) w w6) := by rw [hw6, hw5]; exact BOq.out.trans (((But.refl (Only b) wq).cellb (b := b) rfl 0 _).cellb (b := b) rfl 1 _)
        have v1 := B5.c1
        have v2 := B5.fz 1
        have v3 := B6.c0
        have v4 := B6.c2
        have v5 := B6.fz 1
        have v6 := B6.c1
        simp only at v1 v3 v4 v6
        have H6 := hide B6
        have HN := hide hn
        by_cases e4 : left + n = 4
        · have ER : Hid (R = ⟨4, m, m⟩) := by rw [HR.out, if_pos (by rw [hn] at e4; split at e4 <;> omega)]; exact rfl
          obtain ⟨w7, hw7⟩ : ∃ w7, w7 = w6.setCell ⟨b, 1, none⟩ (.int .i64 m) := ⟨_, rfl⟩
          have H7 : Hid (BkAt w7 b ⟨4, m, m⟩) := by
            have := B6.set1 m
            rw [hw7, ← e4]
            exact this
          have BO7 : Hid (But (Only b) w w7) := by rw [hw7]; exact BO6.out.trans ((But.refl (Only b) w6).cellb (b := b) rfl 1 _)
          have q4 : (left + n == 4) = true := by simpa using e4
          have hw5' := hw5.symm
          have hw6' := hw6.symm
          have hw7' := hw7.symm
          clear hn hw5 hw6 hw7 B5 B6 HR e4
          go_wp2
          go_end0
          exact ⟨rfl, by rw [ER.out]; exact H7.out, BO7.out⟩
        · have ER : Hid (R = ⟨left + k, since + 2 * k, m⟩ ∧ n = k) := by
            have hnk : n = k := by rw [hn] at e4 ⊢; split at e4 <;> split <;> omega
            exact ⟨by rw [HR.out, if_neg (by omega)], hnk⟩
          have q4 : (left + n == 4) = false := by simpa using e4
          have hw5' := hw5.symm
          have hw6' := hw6.symm
          clear hn hw5 hw6 B5 B6 HR e4
          go_wp2
          go_end0
          exact ⟨rfl, by rw [ER.out.1, ← ER.out.2]; exact H6.out, BO6.out⟩
    · have e4 : left = 4 := by omega
      subst e4
      have ER : Hid (R = ⟨4, m, m⟩) := by rw [HR.out, if_neg hl, if_pos rfl]; exact rfl
      obtain ⟨w7, hw7⟩ : ∃ w7, w7 = w1.setCell ⟨b, 1, none⟩ (.int .i64 m) := ⟨_, rfl⟩
      have H7 : Hid (BkAt w7 b ⟨4, m, m⟩) := by rw [hw7]; exact HB1.out.set1 m
      have BO7 : Hid (But (Only b) w w7) := by rw [hw7]; exact BO1.out.trans ((But.refl (Only b) w1).cellb (b := b) rfl 1 _)
      have hw7' := hw7.symm
      clear hw7 HR hl
      go_wp2
      go_end0
      exact ⟨rfl, by rw [ER.out]; exact H7.out, BO7.out⟩
set_option maxRecDepth 100000 in
theorem rLeft_any {w : World} {b : Nat} {x : Bk} (h : BkAt w b x) (hx : x.Ok) (t : Int) (ht : t ≤ 1152921504606846976) (ht0 : -1152921504606846976 ≤ t) :
    Calls Try.prog 21 #[.pointer (some ⟨b, 0, none⟩), .int .i64 t] w fun e w' => e = .returned (.int .i64 (x.gs t).left) ∧ BkAt w' b (x.gs t) ∧ But (Only b) w w' := by
  have HG := hide (rGoes_any h hx t ht ht0)
  obtain ⟨y, hy⟩ : ∃ y, y = x.gs t := ⟨_, rfl⟩
  rw [← hy] at HG ⊢
  clear h hx hy
  go_enter Try.func21, Try.ntmps21
  go_wp2_with fail
  refine HG.out.mono ?_
  rintro _ w2 ⟨rfl, B2, bo2⟩
  have c0 := B2.c0
  have H2 := hide B2
  have BO2 := hide bo2
  clear B2 bo2 HG
  go_wp2
  go_ret
  exact ⟨rfl, H2.out, BO2.out⟩
set_option maxRecDepth 100000 in
theorem rTake_any {w : World} {b : Nat} {x : Bk} (h : BkAt w b x) (hx : x.Ok) (t : Int) (ht : t ≤ 1152921504606846976) (ht0 : -1152921504606846976 ≤ t) :
    Calls Try.prog 23 #[.pointer (some ⟨b, 0, none⟩), .int .i64 t] w fun e w' => e = .returned (.int .i64 (x.gtE t)) ∧ BkAt w' b (x.gt t) ∧ But (Only b) w w' := by
  have HG := hide (rGoes_any h hx t ht ht0)
  have ok := (hx.gs ht).1
  unfold Bk.gtE Bk.gt
  obtain ⟨y, hy⟩ : ∃ y, y = x.gs t := ⟨_, rfl⟩
  rw [← hy] at HG ok ⊢
  clear h hx hy
  obtain ⟨left, since, now⟩ := y
  obtain ⟨h1, h2, h3, h4, h5⟩ := ok
  simp only at h1 h2 h3 h4 h5 ⊢
  by_cases e0 : left = 0
  · subst e0
    simp only [if_true]
    go_enter Try.func23, Try.ntmps23
    go_wp2_with fail
    refine HG.out.mono ?_
    rintro _ w2 ⟨rfl, B2, bo2⟩
    have c0 := B2.c0
    simp only at c0
    have H2 := hide B2
    have BO2 := hide bo2
    clear B2 bo2 HG
    go_wp2
    go_ret
    exact ⟨rfl, H2.out, BO2.out⟩
  · rw [if_neg e0, if_neg e0]
    have z0 : (left == 0) = false := by simpa using e0
    clear e0
    go_enter Try.func23, Try.ntmps23
    go_wp2_with fail
    refine HG.out.mono ?_
    rintro _ w2 ⟨rfl, B2, bo2⟩
    have c0 := B2.c0
    have f2 := B2.fz 0
    simp only at c0
    obtain ⟨w4, hw4⟩ : ∃ w4, w4 = w2.setCell ⟨b, 0, none⟩ (.int .i64 (left - 1)) := ⟨_, rfl⟩
    have H4 : Hid (BkAt w4 b ⟨left - 1, since, now⟩) := by rw [hw4]; exact B2.set0 _
    have BO4 : Hid (But (Only b) w w4) := by rw [hw4]; exact bo2.trans ((But.refl (Only b) w2).cellb (b := b) rfl 0 _)
    have hw4' := hw4.symm
    clear hw4 B2 bo2 HG
    go_wp2
    go_ret
    exact ⟨rfl, H4.out, BO4.out⟩
/-- both buckets -/
structure BR (x y : Bk) : Prop where
  l : x.left = y.left
  n : x.now = y.now
  s : x.left < 4 → x.since = y.since
  f : y.left = 4 → y.since = y.now
  ox : x.Ok
  oy : y.Ok
theorem BR.lf {x y : Bk} (h : BR x y) {t : Int} (ht : t ≤ 1152921504606846976) : BR (x.lf t) (y.gs t) := by
  obtain ⟨h1, h2, h3, h4, ox, oy⟩ := h
  have a := ox.lf ht
  have b := oy.gs ht
  refine ⟨?_, ?_, ?_, b.2.2.1, a, b.1⟩
  all_goals
    obtain ⟨xl, xs, xn⟩ := x
    obtain ⟨yl, ys, yn⟩ := y
    obtain ⟨k1, k2, k3, k4, k5⟩ := ox
    obtain ⟨q1, q2, q3, q4, q5⟩ := oy
    simp only at h1 h2 h3 h4 k1 k2 k3 k4 k5 q1 q2 q3 q4 q5
    subst h1 h2
    clear a b
    unfold Bk.lf Bk.gs
    simp only
    by_cases hl : xl < 4
    · have := h3 hl
      subst this
      rw [if_pos hl]
      by_cases hg : 4 - xl ≤ (max xn t - xs) / 2
      · simp only [if_pos hg]
        first | done | (intro; omega)
      · simp only [if_neg hg]
        first | done | (intro; omega)
    · simp only [if_neg hl, if_pos (show xl = 4 by omega), if_pos (show 4 - xl ≤ (max xn t - xs) / 2 by omega)]
      first | done | (intro; omega)
theorem BR.tk {x y : Bk} (h : BR x y) {t : Int} (ht : t ≤ 1152921504606846976) : x.tkE t = y.gtE t ∧ BR (x.tk t) (y.gt t) := by
  have k := h.lf ht
  have ox := h.ox.tk ht
  obtain ⟨h1, h2, h3, h4, o1, o2⟩ := k
  have e := h1
  refine ⟨by unfold Bk.tkE Bk.gtE; rw [e], ?_⟩
  have oy : (y.gt t).Ok := by
    unfold Bk.gt
    obtain ⟨q1, q2, q3, q4, q5⟩ := o2
    split
    · exact ⟨q1, q2, q3, q4, q5⟩
    · exact ⟨by simp only; omega, by simp only; omega, q3, q4, q5⟩
  unfold Bk.tk Bk.gt at *
  by_cases e0 : (x.lf t).left = 0
  · rw [if_pos e0] at ox ⊢
    rw [if_pos (show (y.gs t).left = 0 by omega)] at oy ⊢
    exact ⟨h1, h2, h3, h4, o1, o2⟩
  · rw [if_neg e0] at ox ⊢
    rw [if_neg (show ¬ (y.gs t).left = 0 by omega)] at oy ⊢
    by_cases e4 : (x.lf t).left = 4
    · rw [if_pos e4] at ox ⊢
      have := h4 (by omega)
      exact ⟨by simp only; omega, by simp only; omega, fun _ => by simp only; omega, fun h => by simp only at h; omega, ox, oy⟩
    · rw [if_neg e4] at ox ⊢
      have := o1.l4
      exact ⟨by simp only; omega, by simp only; omega, fun _ => by simp only; exact h3 (by omega), fun h => by simp only at h; omega, ox, oy⟩
/-- what was taken, and when -/
structure TkI (T : List Int) (y : Bk) : Prop where
  a : ∀ (i : Nat) v, T[i]? = some v → 2 * ((T.length : Int) - i + y.left) ≤ 8 + (y.since - v) ∧ v ≤ y.now
  b : ∀ (i n : Nat) u v, i ≤ n → T[i]? = some u → T[n]? = some v → 2 * ((n : Int) - i + 1) ≤ 8 + (v - u) ∧ u ≤ v
  c : ∀ (i : Nat) v, T[i]? = some v → -1152921504606846976 ≤ v
theorem TkI.gs {T : List Int} {y : Bk} (h : TkI T y) (oy : y.Ok) (hf : y.left = 4 → y.since = y.now) {t : Int} : TkI T (y.gs t) := by
  refine ⟨fun i v hv => ?_, h.b, h.c⟩
  have k := h.a i v hv
  obtain ⟨yl, ys, yn⟩ := y
  obtain ⟨q1, q2, q3, q4, q5⟩ := oy
  simp only at k q1 q2 q3 q4 q5 hf
  unfold Bk.gs
  simp only
  by_cases hl : yl < 4
  · rw [if_pos hl]
    by_cases hg : 4 - yl ≤ (max yn t - ys) / 2
    · rw [if_pos hg]
      simp only
      omega
    · rw [if_neg hg]
      simp only
      omega
  · rw [if_neg hl, if_pos (show yl = 4 by omega)]
    simp only
    omega
theorem TkI.take {T : List Int} {z : Bk} (h : TkI T z) (h4 : z.left ≤ 4) (hf : z.left = 4 → z.since = z.now) (hr : z.left < 4 → z.now - z.since ≤ 1) (h0 : 0 < z.left) (hs : z.since ≤ z.now) (hn : -1152921504606846976 ≤ z.now) : TkI (T ++ [z.now]) ⟨z.left - 1, z.since, z.now⟩ := by
  have len : (T ++ [z.now]).length = T.length + 1 := by simp
  have get : ∀ (i : Nat) v, (T ++ [z.now])[i]? = some v → (i < T.length ∧ T[i]? = some v) ∨ (i = T.length ∧ v = z.now) := fun i v hv => by
    by_cases e : i < T.length
    · rw [List.getElem?_append_left e] at hv
      exact .inl ⟨e, hv⟩
    · rw [List.getElem?_append_right (by omega)] at hv
      have hi : i - T.length = 0 := by
        have := (List.getElem?_eq_some_iff.1 hv).1
        simp at this
        omega
      rw [hi] at hv
      simp at hv
      exact .inr ⟨by omega, hv.symm⟩
  refine ⟨fun i v hv => ?_, fun i n u v hin hu hv => ?_, fun i v hv => by rcases get i v hv with ⟨_, hv⟩ | ⟨_, rfl⟩; exact h.c i v hv; exact hn⟩
  · rw [len]
    rcases get i v hv with ⟨e, hv⟩ | ⟨e, rfl⟩
    · have k := h.a i v hv
      simp only
      omega
    · subst e
      simp only
      by_cases e4 : z.left = 4
      · have := hf e4
        omega
      · have := hr (by omega)
        omega
  · rcases get n v hv with ⟨e, hv⟩ | ⟨e, rfl⟩
    · rcases get i u hu with ⟨e', hu⟩ | ⟨e', rfl⟩
      · exact h.b i n u v hin hu hv
      · omega
    · rcases get i u hu with ⟨e', hu⟩ | ⟨e', rfl⟩
      · have k := h.a i u hu
        subst e
        omega
      · omega
end Go.Proofs.Yteiendigcaedhaa
