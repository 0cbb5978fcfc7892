
/-
  CoreBlind: the walk.
-/
import Derived.Test.YtgdcdgofahhfdaaO14
import Derived.Test.YtgdcdgofahhfdaaO20
namespace Go.Proofs.Ytgdcdgofahhfdaa
open Go.RowKit Go.Shelf

def bS (q k f : Int) (d : List Int) : Sg := ⟨0, 0, q, k, f, 0, 0, false, [], d⟩
section
variable {o : Oper} {w : World} {ev : Operand → Value}
theorem exec_remu (x y : Operand) (t : TypeId) (a b : Int) (ho : o.op = .binOp .rem 22 x y t) (hx : ev x = .int .u32 a) (hy : ev y = .int .u32 b) (h0 : 0 ≤ a) (hb : 0 < b) (h1 : a < 4294967296) : (execOp ev o).run Try.prog w = .ok (.value (.int .u32 (a % b))) w := by
  have e : a.tmod b = a % b := Int.tmod_eq_emod_of_nonneg h0
  have e2 : a % b < 4294967296 := by
    have h2 := Int.emod_lt_of_pos a hb
    by_cases h : a < b
    · rw [Int.emod_eq_of_lt h0 h]; exact h1
    · omega
  have e3 : 0 ≤ a % b := Int.emod_nonneg a (by omega)
  have nb : b ≠ 0 := by omega
  unfold execOp
  simp [ho, hx, hy, go_sem, nb, e]
  try (rw [u32_wr]; omega)
theorem exec_bldB (x2 x3 x4 : Operand) (q k f : Int) (ho : o.op = .build 28 #[(2, x2), (3, x3), (4, x4)]) (h2 : ev x2 = .int .u32 q) (h3 : ev x3 = .int .u32 k) (h4 : ev x4 = .int .i64 f) : (execOp ev o).run Try.prog w = .ok (.value (.agg ((bS q k f []).cells (.slice none 0 0) (.slice none 0 0)).toArray)) w := by
  unfold execOp
  rw [ho]
  simp only [List.map_toArray, List.map_cons, List.map_nil, h2, h3, h4]
  kernel_rfl
theorem exec_allocSg (ho : o.op = .alloc 28) : (execOp ev o).run Try.prog w = .ok (.value (.pointer (some ⟨w.heap.size, 0, none⟩))) (w.alloc (.cells (zSg0.cells (.slice none 0 0) (.slice none 0 0)).toArray 28)) := by
  unfold execOp
  rw [ho]
  rfl
end
def BoxSg (n0 : Nat) (W : World) (v : Value) : Prop := ∃ s, v = .pointer (some ⟨s, 0, none⟩) ∧ n0 ≤ s ∧ Box W s (zSg0.cells (.slice none 0 0) (.slice none 0 0))
theorem BoxSg.later {n0 : Nat} {W W' : World} {v : Value} (h : BoxSg n0 W v) (hb : Below W.heap.size W W') : BoxSg n0 W' v := by
  obtain ⟨s, e, h1, h2⟩ := h
  exact ⟨s, e, h1, h2.later hb⟩
theorem boxSg_made {n0 : Nat} {ev : Operand → Value} {o : Oper} {W : World} (ho : o.op = .alloc 28) (hn : n0 ≤ W.heap.size) : ∃ v W', (execOp ev o).run Try.prog W = .ok (.value v) W' ∧ Below W.heap.size W W' ∧ BoxSg n0 W' v :=
  ⟨_, _, exec_allocSg ho, later_alloc _ _, W.heap.size, rfl, hn, CellsAt.new W _ _, fun y => frozen_new W _ _ _, by simp⟩
def vOf0 (c : Ct) : Vd := ⟨c, 1, 0, false, false, 0, 0, false⟩
section
variable {c : Ct} {q k : Int} {d : List Int}
/-- a segment whose first number is wanted is acceptable -/
theorem acc_first {s : Sg} (hw : 0 < win c) (h : wanted c s.seq = true) : accB c s = true := by
  unfold accB
  by_cases h0 : 0 < s.size
  · rw [if_pos h0, h]; rfl
  · rw [if_neg h0, if_pos hw]; exact h
theorem blind0 (h1 : c.st ≠ 1) (hw : 0 < win c) (h : wanted c q = true) (hq : q ≠ c.rcv) : judge c (bS q k 4 d) = vOf0 c := by
  rw [judge_rst (s := bS q k 4 d) h1 (acc_first hw h) rfl, if_neg (show ¬ (bS q k 4 d).seq = c.rcv from hq)]
  rfl
theorem blind1 (h1 : c.st ≠ 1) (hw : 0 < win c) (h : wanted c q = true) : judge c (bS q k 2 d) = vOf0 c := by
  rw [judge_syn (s := bS q k 2 d) h1 (acc_first hw h) rfl rfl]
  rfl
theorem blind2 (h1 : c.st ≠ 1) (h2 : c.st ≠ 2) (hw : 0 < win c) (h : wanted c q = true) (hk : 0 < dif k c.nxt) : judge c (bS q k 16 d) = vOf0 c := by
  have e := judgeR_late (c := c) (s := bS q k 16 d) h1 (acc_first hw h) rfl rfl rfl
  rw [late_bad (s := bS q k 16 d) h2 (.inl hk)] at e
  unfold judge
  rw [e]
  rfl
end
set_option maxRecDepth 100000 in
set_option maxHeartbeats 32000000 in
theorem blind_walk (c : Ct) (sq ak : Int) (bv : Value) (bs : List Int) (wh : Int) (w : World) (hc : c.Ok) (q0 : 0 ≤ sq) (q1 : sq ≤ 4294967295) (k0 : 0 ≤ ak) (k1 : ak ≤ 4294967295) (hb : IsB w.heap.size w bv bs) (_ : Bytes bs) (lb : bs.length ≤ 140737488351232) (_ : -9223372036854775808 ≤ wh) (_ : wh ≤ 9223372036854775807) :
    Calls Try.prog 7 #[.agg c.cells.toArray, .int .u32 sq, .int .u32 ak, bv, .int .i64 wh] w fun e w' => e = .returned (.bool true) ∧ Below w.heap.size w w' := by
  obtain ⟨ba, bc, rfl, _⟩ := hb.shape
  obtain ⟨w1, bcc, hs1, hw1, c1, f1, b1, l1⟩ := boxC w c
  rw [show (Value.agg c.cells.toArray) = .agg #[.int .i64 c.st, .int .u32 c.iss, .int .u32 c.una, .int .u32 c.nxt, .bool c.fs, .int .i64 c.wnd, .int .u32 c.wl1, .int .u32 c.wl2, .int .u32 c.irs, .int .u32 c.rcv, .int .u32 c.adv] from rfl]
  obtain ⟨bn, hbn⟩ : ∃ bn, bn = bs.length := ⟨_, rfl⟩
  have HBN := hide hbn
  rw [← hbn] at lb ⊢
  have BB := hide b1
  have HC := hide hc
  have ZBcc : Hid (w.heap.size ≤ bcc) := by unfold Hid; omega
  obtain ⟨Xcc, hXcc⟩ : ∃ X, X = c.cells := ⟨_, rfl⟩
  have LXcc : Hid (Xcc.length = 11) := by rw [hXcc]; exact rfl
  have Ucc : Hid (Box w1 bcc Xcc) := by rw [hXcc]; exact ⟨c1, f1, l1⟩
  have EXcc := hide hXcc
  clear hXcc
  have hs1' := hs1.symm
  have hw1' := hw1.symm
  clear hs1 hw1 c1 f1 b1 l1 hc hb hbn
  go_enter Try.func7, Try.ntmps7
  go_upto_region 1 with fail
  clear hs1' hw1'
  go_wp2_with fail
  refine (cAwake_any w1).mono ?_
  rintro _ wv1 ⟨rfl, bz⟩
  replace Ucc := hide (Ucc.out.later bz)
  replace BB := hide (later BB.out bz)
  clear bz
  obtain ⟨fl, hfl⟩ : ∃ fl, fl = dif c.nxt c.una := ⟨_, rfl⟩
  obtain ⟨wn, hwn⟩ : ∃ wn, wn = dif c.adv c.rcv := ⟨_, rfl⟩
  have D1 := rDiff_any c.nxt c.una HC.out.nxt HC.out.una wv1
  have D2 := rDiff_any c.adv c.rcv HC.out.adv HC.out.rcv wv1
  rw [← hfl] at D1
  rw [← hwn] at D2
  have HD1 := hide D1
  have HD2 := hide D2
  have HFL := hide hfl
  have HWN := hide hwn
  have wb := dif_in c.adv c.rcv
  rw [← hwn] at wb
  clear D1 D2 hfl hwn
  have k1 : wv1.cell? ⟨bcc, 3, none⟩ = some (.int .u32 c.nxt) := by have h := Ucc.out.1 3 (.int .u32 c.nxt) (by rw [EXcc.out]; rfl); rw [Nat.zero_add] at h; exact h
  have k2 : wv1.cell? ⟨bcc, 2, none⟩ = some (.int .u32 c.una) := by have h := Ucc.out.1 2 (.int .u32 c.una) (by rw [EXcc.out]; rfl); rw [Nat.zero_add] at h; exact h
  have k3 : wv1.cell? ⟨bcc, 10, none⟩ = some (.int .u32 c.adv) := by have h := Ucc.out.1 10 (.int .u32 c.adv) (by rw [EXcc.out]; rfl); rw [Nat.zero_add] at h; exact h
  have k4 : wv1.cell? ⟨bcc, 9, none⟩ = some (.int .u32 c.rcv) := by have h := Ucc.out.1 9 (.int .u32 c.rcv) (by rw [EXcc.out]; rfl); rw [Nat.zero_add] at h; exact h
  go_wp2_with fail
  refine HD1.out.mono ?_
  rintro _ wx ⟨rfl, hwx⟩
  rw [hwx]
  clear hwx wx
  clear HD1
  go_wp2_with fail
  refine HD2.out.mono ?_
  rintro _ wx ⟨rfl, hwx⟩
  rw [hwx]
  clear hwx wx
  clear HD2 k1 k2 k3 k4
  have k1 : wv1.cell? ⟨bcc, 0, none⟩ = some (.int .i64 c.st) := by have h := Ucc.out.1 0 (.int .i64 c.st) (by rw [EXcc.out]; rfl); rw [Nat.zero_add] at h; exact h
  by_cases p1 : fl < 0
  · go_wp2
    go_ret
    exact ⟨rfl, BB.out⟩
  by_cases p2 : wn < 1
  · go_wp2
    go_ret
    exact ⟨rfl, BB.out⟩
  by_cases p3 : c.st < 3
  · go_wp2
    go_ret
    exact ⟨rfl, BB.out⟩
  by_cases p4 : 9 < c.st
  · go_wp2
    go_ret
    exact ⟨rfl, BB.out⟩
  go_upto_region 6 with fail
  clear k1
  have st1 : c.st ≠ 1 := by omega
  have st2 : c.st ≠ 2 := by omega
  have wn0 : 0 < wn := by omega
  have wn1 : wn < 4294967296 := by omega
  clear p1 p2 p3 p4 wb
  have SM := Int.emod_nonneg sq (show wn ≠ 0 by omega)
  have SM2 := Int.emod_lt_of_pos sq wn0
  obtain ⟨q, hq⟩ : ∃ q, q = (c.rcv + sq % wn) % 4294967296 := ⟨_, rfl⟩
  have iq : u32In q := by unfold u32In; omega
  have WQ : Hid (wanted c q = true) := by
    have h2 := HC.out.rcv
    unfold u32In at h2
    unfold Hid wanted win wit
    rw [← HWN.out]
    exact decide_eq_true (by omega)
  have WN : Hid (0 < win c) := by unfold Hid win; rw [← HWN.out]; exact wn0
  have HST1 := hide st1
  have HST2 := hide st2
  have HQ : Hid ((c.rcv + sq % wn) % 4294967296 = q) := hq.symm
  clear SM SM2 st1 st2 hq
  have BW : ∀ W, Below wv1.heap.size wv1.drew W → Below wv1.heap.size wv1 W := fun W hb => later (later_drew _) hb
  have CC : ∀ W, Below wv1.heap.size wv1 W → CellsAt W bcc 0 c.cells := fun W hW => by have h := (Ucc.out.later hW).1; rw [EXcc.out] at h; exact h
  refine region_grow_store (w := wv1) (fun i v W => match i with | 0 => v = .pointer (some ⟨bcc, 9, none⟩) | 1 => v = .int .u32 c.rcv | 2 => v = .int .u32 sq | 3 => v = .int .i64 wn | 4 => v = .int .u32 (wn % 4294967296) | 5 => v = .int .u32 (sq % wn) | 6 => v = .int .u32 q | 7 => v = .pointer (some ⟨bcc, 2, none⟩) | 8 => v = .int .u32 c.una | 9 => v = .agg ((bS q c.una 4 []).cells (.slice none 0 0) (.slice none 0 0)).toArray | 10 => BoxSg wv1.heap.size W v | _ => True) (by kernel_rfl) (by kernel_rfl) (by kernel_rfl) 11 rfl _ rfl rfl (no_guard (by kernel_rfl)) (fun i v W W' h hb => match i, h with | 0, h => h | 1, h => h | 2, h => h | 3, h => h | 4, h => h | 5, h => h | 6, h => h | 7, h => h | 8, h => h | 9, h => h | 10, h => BoxSg.later h hb | _ + 11, h => h) ?_ ?_
  · intro listed a W hM hn i o ho hlt hr
    have B := hM.bel
    match i, ho, hlt, hr with
    | 0, ho, _, hr =>
      have u5 : a.eval (.tmp 5) = .pointer (some ⟨bcc, 0, none⟩) := hM.keep (t := 5) (by kernel_rfl)
      exact Step.of rfl (.inl ⟨.pointer (some ⟨bcc, 9, none⟩), W, exec_fieldO 24 _ 9 bcc 0 9 rfl u5 (fun w => by kernel_rfl), Below.refl _ _, rfl⟩) ho
    | 1, ho, _, hr =>
      have u48 := hM.use hr rfl (j := 0) (by kernel_rfl) rfl rfl
      have u48 : a.eval (.tmp 48) = .pointer (some ⟨bcc, 9, none⟩) := u48
      exact Step.of rfl (.inl ⟨.int .u32 c.rcv, W, exec_load1 22 one32 _ rfl bcc 9 u48 (.int .u32 c.rcv) (CC W (BW W B) 9 _ rfl), Below.refl _ _, rfl⟩) ho
    | 2, ho, _, hr =>
      have u1 : a.eval (.tmp 1) = .int .u32 sq := hM.keep (t := 1) (by kernel_rfl)
      exact Step.of rfl (.inl ⟨.int .u32 sq, W, exec_move _ _ rfl u1, Below.refl _ _, rfl⟩) ho
    | 3, ho, _, hr =>
      have u13 : a.eval (.tmp 13) = .int .i64 wn := hM.keep (t := 13) (by kernel_rfl)
      exact Step.of rfl (.inl ⟨.int .i64 wn, W, exec_move _ _ rfl u13, Below.refl _ _, rfl⟩) ho
    | 4, ho, _, hr =>
      have u51 := hM.use hr rfl (j := 3) (by kernel_rfl) rfl rfl
      have u51 : a.eval (.tmp 51) = .int .i64 wn := u51
      exact Step.of rfl (.inl ⟨.int .u32 (wn % 4294967296), W, exec_cv32 _ _ rfl u51, Below.refl _ _, rfl⟩) ho
    | 5, ho, _, hr =>
      have u50 := hM.use hr rfl (j := 2) (by kernel_rfl) rfl rfl
      have u50 : a.eval (.tmp 50) = .int .u32 sq := u50
      have u52 := hM.use hr rfl (j := 4) (by kernel_rfl) rfl rfl
      have u52 : a.eval (.tmp 52) = .int .u32 (wn % 4294967296) := u52
      exact Step.of rfl (.inl ⟨.int .u32 (sq % wn), W, by rw [Int.emod_eq_of_lt (by omega) wn1] at u52; exact exec_remu _ _ _ _ _ rfl u50 u52 q0 wn0 (by omega), Below.refl _ _, rfl⟩) ho
    | 6, ho, _, hr =>
      have u49 := hM.use hr rfl (j := 1) (by kernel_rfl) rfl rfl
      have u49 : a.eval (.tmp 49) = .int .u32 c.rcv := u49
      have u53 := hM.use hr rfl (j := 5) (by kernel_rfl) rfl rfl
      have u53 : a.eval (.tmp 53) = .int .u32 (sq % wn) := u53
      exact Step.of rfl (.inl ⟨.int .u32 q, W, by rw [← HQ.out]; exact exec_addu _ _ _ _ _ rfl u49 u53, Below.refl _ _, rfl⟩) ho
    | 7, ho, _, hr =>
      have u5 : a.eval (.tmp 5) = .pointer (some ⟨bcc, 0, none⟩) := hM.keep (t := 5) (by kernel_rfl)
      exact Step.of rfl (.inl ⟨.pointer (some ⟨bcc, 2, none⟩), W, exec_fieldO 24 _ 2 bcc 0 2 rfl u5 (fun w => by kernel_rfl), Below.refl _ _, rfl⟩) ho
    | 8, ho, _, hr =>
      have u55 := hM.use hr rfl (j := 7) (by kernel_rfl) rfl rfl
      have u55 : a.eval (.tmp 55) = .pointer (some ⟨bcc, 2, none⟩) := u55
      exact Step.of rfl (.inl ⟨.int .u32 c.una, W, exec_load1 22 one32 _ rfl bcc 2 u55 (.int .u32 c.una) (CC W (BW W B) 2 _ rfl), Below.refl _ _, rfl⟩) ho
    | 9, ho, _, hr =>
      have u54 := hM.use hr rfl (j := 6) (by kernel_rfl) rfl rfl
      have u54 : a.eval (.tmp 54) = .int .u32 q := u54
      have u56 := hM.use hr rfl (j := 8) (by kernel_rfl) rfl rfl
      have u56 : a.eval (.tmp 56) = .int .u32 c.una := u56
      exact Step.of rfl (.inl ⟨.agg ((bS q c.una 4 []).cells (.slice none 0 0) (.slice none 0 0)).toArray, W, exec_bldB _ _ _ _ _ _ rfl u54 u56 rfl, Below.refl _ _, rfl⟩) ho
    | 10, ho, _, hr =>
      refine Step.of rfl (.inl ?_) ho
      exact boxSg_made rfl hn
    | n + 11, _, hlt, _ => exact absurd hlt (by omega)
  intro listed a W hM hl
  have B := hM.bel
  have p48 : a.tmps.getD 48 undef = .pointer (some ⟨bcc, 9, none⟩) := hM.got 0 _ _ rfl (hl 0 (by decide)) rfl
  have p49 : a.tmps.getD 49 undef = .int .u32 c.rcv := hM.got 1 _ _ rfl (hl 1 (by decide)) rfl
  have p50 : a.tmps.getD 50 undef = .int .u32 sq := hM.got 2 _ _ rfl (hl 2 (by decide)) rfl
  have p51 : a.tmps.getD 51 undef = .int .i64 wn := hM.got 3 _ _ rfl (hl 3 (by decide)) rfl
  have p52 : a.tmps.getD 52 undef = .int .u32 (wn % 4294967296) := hM.got 4 _ _ rfl (hl 4 (by decide)) rfl
  have p53 : a.tmps.getD 53 undef = .int .u32 (sq % wn) := hM.got 5 _ _ rfl (hl 5 (by decide)) rfl
  have p54 : a.tmps.getD 54 undef = .int .u32 q := hM.got 6 _ _ rfl (hl 6 (by decide)) rfl
  have p55 : a.tmps.getD 55 undef = .pointer (some ⟨bcc, 2, none⟩) := hM.got 7 _ _ rfl (hl 7 (by decide)) rfl
  have p56 : a.tmps.getD 56 undef = .int .u32 c.una := hM.got 8 _ _ rfl (hl 8 (by decide)) rfl
  have p57 : a.tmps.getD 57 undef = .agg ((bS q c.una 4 []).cells (.slice none 0 0) (.slice none 0 0)).toArray := hM.got 9 _ _ rfl (hl 9 (by decide)) rfl
  have p14 : (fun v W => BoxSg wv1.heap.size W v) (a.tmps.getD 14 undef) W := hM.got 10 _ _ rfl (hl 10 (by decide)) rfl
  obtain ⟨bs9, e9, h91, h92⟩ := p14
  refine ⟨W.setCells bs9 0 ((bS q c.una 4 []).cells (.slice none 0 0) (.slice none 0 0)), exec_storeA 28 10 sizSg (.tmp 14) (.tmp 57) rfl bs9 0 e9 _ (zSg0.cells (.slice none 0 0) (.slice none 0 0)) p57 rfl rfl h92.1 h92.2.1 (sg_one1 _ _ _ rfl rfl), ?_⟩
  rw [hM.lit [48, 49, 50, 51, 52, 53, 54, 55, 56, 57, 14] (by kernel_rfl)]
  clear hM hl
  simp only [fill, List.foldl_cons, List.foldl_nil, Act.put, List.setIfInBounds_toArray, List.set_cons_zero, List.set_cons_succ]
  clear p48
  generalize a.tmps.getD 48 undef = x48 at *
  clear p49
  generalize a.tmps.getD 49 undef = x49 at *
  clear p50
  generalize a.tmps.getD 50 undef = x50 at *
  clear p51
  generalize a.tmps.getD 51 undef = x51 at *
  clear p52
  generalize a.tmps.getD 52 undef = x52 at *
  clear p53
  generalize a.tmps.getD 53 undef = x53 at *
  clear p54
  generalize a.tmps.getD 54 undef = x54 at *
  clear p55
  generalize a.tmps.getD 55 undef = x55 at *
  clear p56
  generalize a.tmps.getD 56 undef = x56 at *
  clear p57
  generalize a.tmps.getD 57 undef = x57 at *
  generalize a.tmps.getD 14 undef = x14 at *
  subst e9
  obtain ⟨bss, hbss⟩ : ∃ b, b = bs9 := ⟨_, rfl⟩
  rw [← hbss] at h91 h92 ⊢
  clear hbss
  obtain ⟨w9, hw9⟩ : ∃ w9, w9 = W.setCells bss 0 ((bS q c.una 4 []).cells (.slice none 0 0) (.slice none 0 0)) := ⟨_, rfl⟩
  rw [← hw9]
  have BQ := BW W B
  have us : Box w9 bss ((bS q c.una 4 []).cells (.slice none 0 0) (.slice none 0 0)) := by rw [hw9]; exact h92.all rfl
  have bz : Below wv1.heap.size wv1 w9 := by rw [hw9]; exact BQ.trans ((But.cells bss _ 0 W).below BQ.size (fun g hg e => by have e : g = bss := e; omega))
  have ZBss : Hid (w.heap.size ≤ bss) := by have h := BB.out.size; unfold Hid; omega
  have D_cc_ss : Hid (bcc < bss) := by have h := Ucc.out.2.2; unfold Hid; omega
  replace Ucc := hide (Ucc.out.later bz)
  replace BB := hide (later BB.out bz)
  clear bz hw9 BQ B BW CC h92 h91
  obtain ⟨Xss, hXss⟩ : ∃ X, X = (bS q c.una 4 []).cells (.slice none 0 0) (.slice none 0 0) := ⟨_, rfl⟩
  have LXss : Hid (Xss.length = 10) := by rw [hXss]; exact rfl
  have Uss : Hid (Box w9 bss Xss) := by rw [hXss]; exact us
  have EXss := hide hXss
  clear hXss
  clear us
  obtain ⟨m, hm⟩ : ∃ m, m = (wrap64 (wh.tmod 3 + 3)).tmod 3 := ⟨_, rfl⟩
  have mi : m = 0 ∨ m = 1 ∨ m = 2 := by
    have h1 : -2 ≤ wh.tmod 3 ∧ wh.tmod 3 ≤ 2 := by rw [tmod_if]; split <;> omega
    have h2 : wrap64 (wh.tmod 3 + 3) = wh.tmod 3 + 3 := by unfold wrap64; omega
    rw [h2, tmod_if, if_pos (by omega)] at hm
    omega
  have hm' := hm.symm
  clear hm
  go_upto_region 11 with fail
  clear hm'
  rcases mi with rfl | rfl | rfl
  · skip
    have k1 : w9.cell? ⟨bss, 2, none⟩ = some (.int .u32 q) := by have h := Uss.out.1 2 (.int .u32 q) (by rw [EXss.out]; rfl); rw [Nat.zero_add] at h; exact h
    have k2 : w9.cell? ⟨bcc, 9, none⟩ = some (.int .u32 c.rcv) := by have h := Ucc.out.1 9 (.int .u32 c.rcv) (by rw [EXcc.out]; rfl); rw [Nat.zero_add] at h; exact h
    by_cases e : q = c.rcv
    · have q3 : (q == c.rcv) = true := by simpa using e
      clear e
      go_wp2
      go_ret
      exact ⟨rfl, BB.out⟩
    have q3 : (q == c.rcv) = false := by simpa using e
    have HE := hide e
    clear e
    go_upto_region 16 with fail
    clear k1 k2 q3
    have JD := Judge_any (gv := .slice none 0 0) (da := none) (dc := 0) (s := bS q c.una 4 []) c rfl (Nat.zero_le _) w9
    rw [blind0 HST1.out WN.out WQ.out HE.out, ← EXcc.out] at JD
    rw [show (Value.slice none (bS q c.una 4 []).dat.length 0) = .slice none 0 0 from rfl] at JD
    rw [← EXss.out] at JD
    have HJD := hide JD
    clear JD
    go_wp2_with (first | refine wpList_loadA rfl 24 11 aggCt sizCt _ rfl bcc 0 rfl Xcc LXcc.out Ucc.out.1 ?_ | refine wpList_loadA rfl 28 10 aggSg sizSg _ rfl bss 0 rfl Xss LXss.out Uss.out.1 ?_)
    refine HJD.out.mono ?_
    rintro _ wv2 ⟨rfl, bz⟩
    replace Ucc := hide (Ucc.out.later bz)
    replace Uss := hide (Uss.out.later bz)
    replace BB := hide (later BB.out bz)
    clear bz
    clear HJD
    obtain ⟨Xv, hXv⟩ : ∃ X, X = (vOf0 c).cells := ⟨_, rfl⟩
    have LXv : Hid (Xv.length = 18) := by rw [hXv]; exact rfl
    have OXv : Hid (∀ u ∈ Xv, u.oneCell' = true) := by rw [hXv]; exact vd_one _
    try rw [← hXv]
    obtain ⟨uv4, wv3, huv, hwv, cuv, fuv, ccv, bzv, lzv, ffv⟩ := newVd wv2 Xv LXv.out
    obtain ⟨bv, hbv⟩ : ∃ b, b = wv2.heap.size := ⟨_, rfl⟩
    rw [← hbv] at hwv cuv fuv ccv lzv ffv
    have EXv := hide hXv
    have D_cc_v : Hid (bcc < bv) := by have h := Ucc.out.2.2; unfold Hid; omega
    have D_ss_v : Hid (bss < bv) := by have h := Uss.out.2.2; unfold Hid; omega
    have ZBv : Hid (w.heap.size ≤ bv) := by have h := BB.out.size; unfold Hid; omega
    replace Ucc := hide (Ucc.out.later bzv)
    replace Uss := hide (Uss.out.later bzv)
    replace BB := hide (later BB.out bzv)
    have Uv : Hid (Box wv3 bv Xv) := ⟨ccv, ffv, lzv⟩
    have CUv := hide cuv
    have FUv := hide fuv
    have huv' := huv.symm
    simp only [zVdL, zVd, zCt, Vd.cells] at huv'
    have hwv' := hwv.symm
    have hbv' := hbv.symm
    clear hXv huv hwv cuv fuv ccv bzv lzv hbv ffv
    go_upto_region 17 with (refine wpList_storeA rfl 32 18 sizVd _ _ rfl bv 0 rfl Xv zVdL rfl LXv.out rfl CUv.out FUv.out OXv.out ?_; intro hcs; clear hcs; rw [hwv'])
    clear huv' hwv' hbv' CUv FUv OXv
    obtain ⟨X, hX⟩ : ∃ X, X = c.cells := ⟨_, rfl⟩
    have LX : Hid (X.length = 11) := by rw [hX]; exact rfl
    have UV2 : Hid (CellsAt wv3 bv 0 X) := by have h := Uv.out.1; rw [EXv.out, Vd.parts] at h; rw [hX]; exact (CellsAt.append.1 h).1
    have UC2 : Hid (CellsAt wv3 bcc 0 X) := by have h := Ucc.out.1; rw [EXcc.out] at h; rw [hX]; exact h
    have EQ : Hid (∀ (o : Oper) (ev : Operand → Value) (W : World) (x y : Operand) (t : TypeId), o.op = .binOp .eql 24 x y t → ev x = .agg X.toArray → ev y = .agg X.toArray → (execOp ev o).run Try.prog W = .ok (.value (.bool true)) W) := fun o ev W x y t ho hx hy => by rw [hX] at hx hy; exact exec_eqCt x y t c ho hx hy
    clear hX
    have k1 : wv3.cell? ⟨bv, 11, none⟩ = some (.int .i64 1) := by have h := Uv.out.1 11 (.int .i64 1) (by rw [EXv.out]; rfl); rw [Nat.zero_add] at h; exact h
    have k2 : wv3.cell? ⟨bv, 12, none⟩ = some (.int .i64 0) := by have h := Uv.out.1 12 (.int .i64 0) (by rw [EXv.out]; rfl); rw [Nat.zero_add] at h; exact h
    have k3 : wv3.cell? ⟨bv, 16, none⟩ = some (.int .i64 0) := by have h := Uv.out.1 16 (.int .i64 0) (by rw [EXv.out]; rfl); rw [Nat.zero_add] at h; exact h
    have k4 : wv3.cell? ⟨bv, 17, none⟩ = some (.bool false) := by have h := Uv.out.1 17 (.bool false) (by rw [EXv.out]; rfl); rw [Nat.zero_add] at h; exact h
    have k5 : wv3.cell? ⟨bv, 13, none⟩ = some (.bool false) := by have h := Uv.out.1 13 (.bool false) (by rw [EXv.out]; rfl); rw [Nat.zero_add] at h; exact h
    go_wp2_with (first | refine wpList_loadA rfl 24 11 aggCt sizCt _ rfl bv 0 rfl X LX.out UV2.out ?_ | refine wpList_loadA rfl 24 11 aggCt sizCt _ rfl bcc 0 rfl X LX.out UC2.out ?_ | refine wpList_val rfl (EQ.out _ _ _ _ _ _ rfl rfl rfl) ?_)
    go_ret
    exact ⟨rfl, BB.out⟩
  · skip
    obtain ⟨vo, so⟩ : ∃ v, w9.cell? ⟨bss, 4, none⟩ = some v := by have h := Uss.out.1 4 _ (List.getElem?_eq_getElem (by rw [LXss.out]; decide)); rw [Nat.zero_add] at h; exact ⟨_, h⟩
    have fo := Uss.out.2.1 4
    obtain ⟨wv2, hwo⟩ : ∃ w1, w1 = w9.setCell ⟨bss, 4, none⟩ (.int .i64 2) := ⟨_, rfl⟩
    have bo : But (Only bss) w9 wv2 := by rw [hwo]; exact (But.refl (Only bss) w9).setOf (b := bss) rfl 4 _
    obtain ⟨Y3, hY⟩ : ∃ X, X = (bS q c.una 2 []).cells (.slice none 0 0) (.slice none 0 0) := ⟨_, rfl⟩
    have LY : Hid (Y3.length = 10) := by rw [hY]; exact rfl
    have U1 : Hid (Box wv2 bss Y3) := by rw [hwo, hY]; have h := Uss.out.one (k := 4) (by rw [LXss.out]; decide) (.int .i64 2); rw [EXss.out] at h; exact h
    replace Ucc := hide (Ucc.out.but bo (fun e => by have e : bcc = bss := e; have := D_cc_ss.out; omega))
    replace BB : Hid (Below w.heap.size w wv2) := BB.out.trans (bo.below BB.out.size (fun g hg e => by have e : g = bss := e; have := ZBss.out; omega))
    have EY := hide hY
    have hwo' := hwo.symm
    clear hwo bo hY Uss LXss EXss
    go_upto_region 16 with fail
    clear hwo' so fo
    try clear vo
    try clear Xss
    obtain ⟨Xss, hXX⟩ : ∃ X, X = Y3 := ⟨_, rfl⟩
    subst hXX
    have Uss := U1
    have LXss := LY
    have EXss := EY
    clear U1 LY EY
    have JD := Judge_any (gv := .slice none 0 0) (da := none) (dc := 0) (s := bS q c.una 2 []) c rfl (Nat.zero_le _) wv2
    rw [blind1 HST1.out WN.out WQ.out, ← EXcc.out] at JD
    rw [show (Value.slice none (bS q c.una 2 []).dat.length 0) = .slice none 0 0 from rfl] at JD
    rw [← EXss.out] at JD
    have HJD := hide JD
    clear JD
    go_wp2_with (first | refine wpList_loadA rfl 24 11 aggCt sizCt _ rfl bcc 0 rfl Xcc LXcc.out Ucc.out.1 ?_ | refine wpList_loadA rfl 28 10 aggSg sizSg _ rfl bss 0 rfl Xss LXss.out Uss.out.1 ?_)
    refine HJD.out.mono ?_
    rintro _ wv4 ⟨rfl, bz⟩
    replace Ucc := hide (Ucc.out.later bz)
    replace Uss := hide (Uss.out.later bz)
    replace BB := hide (later BB.out bz)
    clear bz
    clear HJD
    obtain ⟨Xv, hXv⟩ : ∃ X, X = (vOf0 c).cells := ⟨_, rfl⟩
    have LXv : Hid (Xv.length = 18) := by rw [hXv]; exact rfl
    have OXv : Hid (∀ u ∈ Xv, u.oneCell' = true) := by rw [hXv]; exact vd_one _
    try rw [← hXv]
    obtain ⟨uv6, wv5, huv, hwv, cuv, fuv, ccv, bzv, lzv, ffv⟩ := newVd wv4 Xv LXv.out
    obtain ⟨bv, hbv⟩ : ∃ b, b = wv4.heap.size := ⟨_, rfl⟩
    rw [← hbv] at hwv cuv fuv ccv lzv ffv
    have EXv := hide hXv
    have D_cc_v : Hid (bcc < bv) := by have h := Ucc.out.2.2; unfold Hid; omega
    have D_ss_v : Hid (bss < bv) := by have h := Uss.out.2.2; unfold Hid; omega
    have ZBv : Hid (w.heap.size ≤ bv) := by have h := BB.out.size; unfold Hid; omega
    replace Ucc := hide (Ucc.out.later bzv)
    replace Uss := hide (Uss.out.later bzv)
    replace BB := hide (later BB.out bzv)
    have Uv : Hid (Box wv5 bv Xv) := ⟨ccv, ffv, lzv⟩
    have CUv := hide cuv
    have FUv := hide fuv
    have huv' := huv.symm
    simp only [zVdL, zVd, zCt, Vd.cells] at huv'
    have hwv' := hwv.symm
    have hbv' := hbv.symm
    clear hXv huv hwv cuv fuv ccv bzv lzv hbv ffv
    go_upto_region 17 with (refine wpList_storeA rfl 32 18 sizVd _ _ rfl bv 0 rfl Xv zVdL rfl LXv.out rfl CUv.out FUv.out OXv.out ?_; intro hcs; clear hcs; rw [hwv'])
    clear huv' hwv' hbv' CUv FUv OXv
    obtain ⟨X, hX⟩ : ∃ X, X = c.cells := ⟨_, rfl⟩
    have LX : Hid (X.length = 11) := by rw [hX]; exact rfl
    have UV2 : Hid (CellsAt wv5 bv 0 X) := by have h := Uv.out.1; rw [EXv.out, Vd.parts] at h; rw [hX]; exact (CellsAt.append.1 h).1
    have UC2 : Hid (CellsAt wv5 bcc 0 X) := by have h := Ucc.out.1; rw [EXcc.out] at h; rw [hX]; exact h
    have EQ : Hid (∀ (o : Oper) (ev : Operand → Value) (W : World) (x y : Operand) (t : TypeId), o.op = .binOp .eql 24 x y t → ev x = .agg X.toArray → ev y = .agg X.toArray → (execOp ev o).run Try.prog W = .ok (.value (.bool true)) W) := fun o ev W x y t ho hx hy => by rw [hX] at hx hy; exact exec_eqCt x y t c ho hx hy
    clear hX
    have k1 : wv5.cell? ⟨bv, 11, none⟩ = some (.int .i64 1) := by have h := Uv.out.1 11 (.int .i64 1) (by rw [EXv.out]; rfl); rw [Nat.zero_add] at h; exact h
    have k2 : wv5.cell? ⟨bv, 12, none⟩ = some (.int .i64 0) := by have h := Uv.out.1 12 (.int .i64 0) (by rw [EXv.out]; rfl); rw [Nat.zero_add] at h; exact h
    have k3 : wv5.cell? ⟨bv, 16, none⟩ = some (.int .i64 0) := by have h := Uv.out.1 16 (.int .i64 0) (by rw [EXv.out]; rfl); rw [Nat.zero_add] at h; exact h
    have k4 : wv5.cell? ⟨bv, 17, none⟩ = some (.bool false) := by have h := Uv.out.1 17 (.bool false) (by rw [EXv.out]; rfl); rw [Nat.zero_add] at h; exact h
    have k5 : wv5.cell? ⟨bv, 13, none⟩ = some (.bool false) := by have h := Uv.out.1 13 (.bool false) (by rw [EXv.out]; rfl); rw [Nat.zero_add] at h; exact h
    go_wp2_with (first | refine wpList_loadA rfl 24 11 aggCt sizCt _ rfl bv 0 rfl X LX.out UV2.out ?_ | refine wpList_loadA rfl 24 11 aggCt sizCt _ rfl bcc 0 rfl X LX.out UC2.out ?_ | refine wpList_val rfl (EQ.out _ _ _ _ _ _ rfl rfl rfl) ?_)
    go_ret
    exact ⟨rfl, BB.out⟩
  · skip
    obtain ⟨vo, so⟩ : ∃ v, w9.cell? ⟨bss, 4, none⟩ = some v := by have h := Uss.out.1 4 _ (List.getElem?_eq_getElem (by rw [LXss.out]; decide)); rw [Nat.zero_add] at h; exact ⟨_, h⟩
    have fo := Uss.out.2.1 4
    obtain ⟨wv2, hwo⟩ : ∃ w1, w1 = w9.setCell ⟨bss, 4, none⟩ (.int .i64 16) := ⟨_, rfl⟩
    have bo : But (Only bss) w9 wv2 := by rw [hwo]; exact (But.refl (Only bss) w9).setOf (b := bss) rfl 4 _
    obtain ⟨Y3, hY⟩ : ∃ X, X = (bS q c.una 16 []).cells (.slice none 0 0) (.slice none 0 0) := ⟨_, rfl⟩
    have LY : Hid (Y3.length = 10) := by rw [hY]; exact rfl
    have U1 : Hid (Box wv2 bss Y3) := by rw [hwo, hY]; have h := Uss.out.one (k := 4) (by rw [LXss.out]; decide) (.int .i64 16); rw [EXss.out] at h; exact h
    replace Ucc := hide (Ucc.out.but bo (fun e => by have e : bcc = bss := e; have := D_cc_ss.out; omega))
    replace BB : Hid (Below w.heap.size w wv2) := BB.out.trans (bo.below BB.out.size (fun g hg e => by have e : g = bss := e; have := ZBss.out; omega))
    have EY := hide hY
    have hwo' := hwo.symm
    clear hwo bo hY Uss LXss EXss
    go_upto_region 9 with fail
    clear hwo' so fo
    try clear vo
    try clear Xss
    obtain ⟨Xss, hXX⟩ : ∃ X, X = Y3 := ⟨_, rfl⟩
    subst hXX
    have Uss := U1
    have LXss := LY
    have EXss := EY
    clear U1 LY EY
    obtain ⟨vo, so⟩ : ∃ v, wv2.cell? ⟨bss, 9, none⟩ = some v := by have h := Uss.out.1 9 _ (List.getElem?_eq_getElem (by rw [LXss.out]; decide)); rw [Nat.zero_add] at h; exact ⟨_, h⟩
    have fo := Uss.out.2.1 9
    obtain ⟨wv4, hwo⟩ : ∃ w1, w1 = wv2.setCell ⟨bss, 9, none⟩ (.slice ba bn bc) := ⟨_, rfl⟩
    have bo : But (Only bss) wv2 wv4 := by rw [hwo]; exact (But.refl (Only bss) wv2).setOf (b := bss) rfl 9 _
    obtain ⟨Y5, hY⟩ : ∃ X, X = (bS q c.una 16 bs).cells (.slice none 0 0) (.slice ba bn bc) := ⟨_, rfl⟩
    have LY : Hid (Y5.length = 10) := by rw [hY]; exact rfl
    have U1 : Hid (Box wv4 bss Y5) := by rw [hwo, hY]; have h := Uss.out.one (k := 9) (by rw [LXss.out]; decide) (.slice ba bn bc); rw [EXss.out] at h; exact h
    replace Ucc := hide (Ucc.out.but bo (fun e => by have e : bcc = bss := e; have := D_cc_ss.out; omega))
    replace BB : Hid (Below w.heap.size w wv4) := BB.out.trans (bo.below BB.out.size (fun g hg e => by have e : g = bss := e; have := ZBss.out; omega))
    have EY := hide hY
    have hwo' := hwo.symm
    clear hwo bo hY Uss LXss EXss
    go_upto_region 10 with fail
    clear hwo' so fo
    try clear vo
    try clear Xss
    obtain ⟨Xss, hXX⟩ : ∃ X, X = Y5 := ⟨_, rfl⟩
    subst hXX
    have Uss := U1
    have LXss := LY
    have EXss := EY
    clear U1 LY EY
    obtain ⟨ka, hka⟩ : ∃ ka, ka = (c.nxt + 1 + ak % 1000000) % 4294967296 := ⟨_, rfl⟩
    have HK : Hid (0 < dif ka c.nxt) := by
      have h := HC.out.nxt
      unfold u32In at h
      unfold Hid dif
      split <;> omega
    have hka' := hka.symm
    clear hka
    have k1 : wv4.cell? ⟨bcc, 3, none⟩ = some (.int .u32 c.nxt) := by have h := Ucc.out.1 3 (.int .u32 c.nxt) (by rw [EXcc.out]; rfl); rw [Nat.zero_add] at h; exact h
    obtain ⟨vo, so⟩ : ∃ v, wv4.cell? ⟨bss, 3, none⟩ = some v := by have h := Uss.out.1 3 _ (List.getElem?_eq_getElem (by rw [LXss.out]; decide)); rw [Nat.zero_add] at h; exact ⟨_, h⟩
    have fo := Uss.out.2.1 3
    obtain ⟨wv6, hwo⟩ : ∃ w1, w1 = wv4.setCell ⟨bss, 3, none⟩ (.int .u32 ka) := ⟨_, rfl⟩
    have bo : But (Only bss) wv4 wv6 := by rw [hwo]; exact (But.refl (Only bss) wv4).setOf (b := bss) rfl 3 _
    obtain ⟨Y7, hY⟩ : ∃ X, X = (bS q ka 16 bs).cells (.slice none 0 0) (.slice ba bn bc) := ⟨_, rfl⟩
    have LY : Hid (Y7.length = 10) := by rw [hY]; exact rfl
    have U1 : Hid (Box wv6 bss Y7) := by rw [hwo, hY]; have h := Uss.out.one (k := 3) (by rw [LXss.out]; decide) (.int .u32 ka); rw [EXss.out] at h; exact h
    replace Ucc := hide (Ucc.out.but bo (fun e => by have e : bcc = bss := e; have := D_cc_ss.out; omega))
    replace BB : Hid (Below w.heap.size w wv6) := BB.out.trans (bo.below BB.out.size (fun g hg e => by have e : g = bss := e; have := ZBss.out; omega))
    have EY := hide hY
    have hwo' := hwo.symm
    clear hwo bo hY Uss LXss EXss
    go_upto_region 16 with fail
    clear hwo' so fo
    try clear vo
    try clear Xss
    obtain ⟨Xss, hXX⟩ : ∃ X, X = Y7 := ⟨_, rfl⟩
    subst hXX
    have Uss := U1
    have LXss := LY
    have EXss := EY
    clear U1 LY EY
    clear k1 hka'
    have JD := Judge_any (gv := .slice none 0 0) (da := ba) (dc := bc) (s := bS q ka 16 bs) c rfl (by show bs.length ≤ _; rw [← HBN.out]; omega) wv6
    rw [blind2 HST1.out HST2.out WN.out WQ.out HK.out, ← EXcc.out] at JD
    rw [show (bS q ka 16 bs).dat.length = bn from HBN.out.symm] at JD
    rw [← EXss.out] at JD
    have HJD := hide JD
    clear JD
    go_wp2_with (first | refine wpList_loadA rfl 24 11 aggCt sizCt _ rfl bcc 0 rfl Xcc LXcc.out Ucc.out.1 ?_ | refine wpList_loadA rfl 28 10 aggSg sizSg _ rfl bss 0 rfl Xss LXss.out Uss.out.1 ?_)
    refine HJD.out.mono ?_
    rintro _ wv8 ⟨rfl, bz⟩
    replace Ucc := hide (Ucc.out.later bz)
    replace Uss := hide (Uss.out.later bz)
    replace BB := hide (later BB.out bz)
    clear bz
    clear HJD
    obtain ⟨Xv, hXv⟩ : ∃ X, X = (vOf0 c).cells := ⟨_, rfl⟩
    have LXv : Hid (Xv.length = 18) := by rw [hXv]; exact rfl
    have OXv : Hid (∀ u ∈ Xv, u.oneCell' = true) := by rw [hXv]; exact vd_one _
    try rw [← hXv]
    obtain ⟨uv10, wv9, huv, hwv, cuv, fuv, ccv, bzv, lzv, ffv⟩ := newVd wv8 Xv LXv.out
    obtain ⟨bv, hbv⟩ : ∃ b, b = wv8.heap.size := ⟨_, rfl⟩
    rw [← hbv] at hwv cuv fuv ccv lzv ffv
    have EXv := hide hXv
    have D_cc_v : Hid (bcc < bv) := by have h := Ucc.out.2.2; unfold Hid; omega
    have D_ss_v : Hid (bss < bv) := by have h := Uss.out.2.2; unfold Hid; omega
    have ZBv : Hid (w.heap.size ≤ bv) := by have h := BB.out.size; unfold Hid; omega
    replace Ucc := hide (Ucc.out.later bzv)
    replace Uss := hide (Uss.out.later bzv)
    replace BB := hide (later BB.out bzv)
    have Uv : Hid (Box wv9 bv Xv) := ⟨ccv, ffv, lzv⟩
    have CUv := hide cuv
    have FUv := hide fuv
    have huv' := huv.symm
    simp only [zVdL, zVd, zCt, Vd.cells] at huv'
    have hwv' := hwv.symm
    have hbv' := hbv.symm
    clear hXv huv hwv cuv fuv ccv bzv lzv hbv ffv
    go_upto_region 17 with (refine wpList_storeA rfl 32 18 sizVd _ _ rfl bv 0 rfl Xv zVdL rfl LXv.out rfl CUv.out FUv.out OXv.out ?_; intro hcs; clear hcs; rw [hwv'])
    clear huv' hwv' hbv' CUv FUv OXv
    obtain ⟨X, hX⟩ : ∃ X, X = c.cells := ⟨_, rfl⟩
    have LX : Hid (X.length = 11) := by rw [hX]; exact rfl
    have UV2 : Hid (CellsAt wv9 bv 0 X) := by have h := Uv.out.1; rw [EXv.out, Vd.parts] at h; rw [hX]; exact (CellsAt.append.1 h).1
    have UC2 : Hid (CellsAt wv9 bcc 0 X) := by have h := Ucc.out.1; rw [EXcc.out] at h; rw [hX]; exact h
    have EQ : Hid (∀ (o : Oper) (ev : Operand → Value) (W : World) (x y : Operand) (t : TypeId), o.op = .binOp .eql 24 x y t → ev x = .agg X.toArray → ev y = .agg X.toArray → (execOp ev o).run Try.prog W = .ok (.value (.bool true)) W) := fun o ev W x y t ho hx hy => by rw [hX] at hx hy; exact exec_eqCt x y t c ho hx hy
    clear hX
    have k1 : wv9.cell? ⟨bv, 11, none⟩ = some (.int .i64 1) := by have h := Uv.out.1 11 (.int .i64 1) (by rw [EXv.out]; rfl); rw [Nat.zero_add] at h; exact h
    have k2 : wv9.cell? ⟨bv, 12, none⟩ = some (.int .i64 0) := by have h := Uv.out.1 12 (.int .i64 0) (by rw [EXv.out]; rfl); rw [Nat.zero_add] at h; exact h
    have k3 : wv9.cell? ⟨bv, 16, none⟩ = some (.int .i64 0) := by have h := Uv.out.1 16 (.int .i64 0) (by rw [EXv.out]; rfl); rw [Nat.zero_add] at h; exact h
    have k4 : wv9.cell? ⟨bv, 17, none⟩ = some (.bool false) := by have h := Uv.out.1 17 (.bool false) (by rw [EXv.out]; rfl); rw [Nat.zero_add] at h; exact h
    have k5 : wv9.cell? ⟨bv, 13, none⟩ = some (.bool false) := by have h := Uv.out.1 13 (.bool false) (by rw [EXv.out]; rfl); rw [Nat.zero_add] at h; exact h
    go_wp2_with (first | refine wpList_loadA rfl 24 11 aggCt sizCt _ rfl bv 0 rfl X LX.out UV2.out ?_ | refine wpList_loadA rfl 24 11 aggCt sizCt _ rfl bcc 0 rfl X LX.out UC2.out ?_ | refine wpList_val rfl (EQ.out _ _ _ _ _ _ rfl rfl rfl) ?_)
    go_ret
    exact ⟨rfl, BB.out⟩
end Go.Proofs.Ytgdcdgofahhfdaa
