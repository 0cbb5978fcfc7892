
/-
  EtherApart, walked: a frame that is for one address in one VLAN is for no other one.
-/
import Derived.Test.YtipebfaappangaaE11
namespace Go.Proofs.Ytipebfaappangaa
open Go.RowKit

theorem eqm_guard (w : World) (op : BinOp) (x y : Operand) (m n : M6) : (eqGuard op 23 x y m.val n.val).run Try.prog w = .ok () w := run_eqGuard_agg w op _ x y _ _ (by kernel_rfl)
theorem eqm_eql (w : World) (m n : M6) : (binOp .eql 23 m.val n.val).run Try.prog w = .ok (.bool (eqM m n)) w := by
  have := run_eql_struct (P := Try.prog) w 23 m.cells n.cells
  have e := eq_mac w 9998 m.a m.b m.c m.d m.e m.f n.a n.b n.c n.d n.e n.f
  unfold M6.val
  rw [this]
  unfold M6.cells
  rw [e]
  rfl
theorem eqm_neq (w : World) (m n : M6) : (binOp .neq 23 m.val n.val).run Try.prog w = .ok (.bool (!eqM m n)) w := by
  have := run_neq_struct (P := Try.prog) w 23 m.cells n.cells
  have e := eq_mac w 9998 m.a m.b m.c m.d m.e m.f n.a n.b n.c n.d n.e n.f
  unfold M6.val
  rw [this]
  unfold M6.cells
  rw [e]
  rfl

theorem wpList_load_mac {ops : Array Oper} {rest : List Oper} {o : Oper} {a : Act} {w : World} {Q : Exit → Act → World → Prop} (x : Operand) (ho : o.op = .load 23 x)
    (s k : Nat) (hx : a.eval x = .pointer (some ⟨s, k, none⟩)) (m : M6) (hg : SixAt w s k m) (hw : Region.wanted o (yielded ops a.tmps) = true)
    (h : wpList Try.prog ops Q rest (a.put o.dst m.val) w) : wpList Try.prog ops Q (o :: rest) a w := by
  refine wpList_step fun K hK => ?_
  rw [if_pos hw]
  unfold Oper.wp execOp
  simp only [ho, hx, Instr.loadAt, Instr.sureAddr, loadVar, Sem.run_bind, Sem.run_pure, Result.andThen_ok, aggM, sizM, if_true, hg.loads]
  exact hK _ _ h

theorem mine_src {f : Fr} {a : M6} {v : Int} (h : miB f a v = true) : eqM f.src a = false := by
  unfold miB at h
  simp only [Bool.and_eq_true, Bool.not_eq_true'] at h
  exact h.1.2.1
theorem mine_dst {f : Fr} {a b : M6} {v : Int} (h : miB f a v = true) (k : miB f b v = true) (n : eqM a b = false) : eqM f.dst mAll = true := by
  unfold miB eqM at *
  simp only [Bool.and_eq_true, Bool.or_eq_true, decide_eq_true_eq, decide_eq_false_iff_not] at *
  rcases h.1.1 with e | e
  · rcases k.1.1 with e' | e'
    · exact absurd (e.symm.trans e') n
    · exact e'
  · exact e
theorem mine_vlan {f : Fr} {a : M6} {v u : Int} (h : miB f a v = true) (k : miB f a u = true) : v = u ∨ (v ≤ 0 ∧ u ≤ 0) := by
  unfold miB inB at h k
  simp only [Bool.and_eq_true] at h k
  obtain ⟨_, h⟩ := h
  obtain ⟨_, k⟩ := k
  split at h <;> split at k
  · omega
  · simp only [Bool.or_eq_true, Bool.not_eq_true', decide_eq_true_eq, Bool.and_eq_true] at h k
    rcases h with h | h
    · rw [k.1] at h; cases h
    · omega
  · simp only [Bool.or_eq_true, Bool.not_eq_true', decide_eq_true_eq, Bool.and_eq_true] at h k
    rcases k with k | k
    · rw [h.1] at k; cases k
    · omega
  · simp only [decide_eq_true_eq, Bool.and_eq_true] at h k
    omega

set_option maxHeartbeats 4000000 in
theorem apart_walk (f : Fr) (a b : M6) (v u : Int) (w : World) (h0 : 0 ≤ f.src.a) (h1 : f.src.a ≤ 255) : Calls Try.prog 6 #[f.val, a.val, b.val, .int .i64 v, .int .i64 u] w fun e w' => e = .returned (.bool true) ∧ Below w.heap.size w w' := by
  have B2 := hide (later (later (later_alloc w (.cells f.cells 25)) (later_alloc _ (.cells a.cells 23))) (later_alloc _ (.cells b.cells 23)))
  have F2 := hide (((FrAt.new w f 25).al (.cells a.cells 23)).al (.cells b.cells 23))
  have M2 := hide ((MaAt.new (w.alloc (.cells f.cells 25)) a 23).al (.cells b.cells 23))
  have N2 := hide (MaAt.new ((w.alloc (.cells f.cells 25)).alloc (.cells a.cells 23)) b 23)
  rw [World.size_alloc] at M2 N2
  rw [World.size_alloc] at N2
  have K1 := hide (fun W => Mine_any f a v W h0 h1)
  have K2 := hide (fun W => Mine_any f b v W h0 h1)
  have K3 := hide (fun W => Mine_any f a u W h0 h1)
  have S1 := hide (mine_src (f := f) (a := a) (v := v))
  have S2 := hide (mine_dst (f := f) (a := a) (b := b) (v := v))
  have S3 := hide (mine_vlan (f := f) (a := a) (v := v) (u := u))
  obtain ⟨m, hm⟩ : ∃ m, miB f a v = m := ⟨_, rfl⟩
  obtain ⟨o, ho⟩ : ∃ o, miB f b v = o := ⟨_, rfl⟩
  obtain ⟨t, ht⟩ : ∃ t, miB f a u = t := ⟨_, rfl⟩
  rw [hm] at K1 S1 S2 S3
  rw [ho] at K2 S2
  rw [ht] at K3 S3
  clear hm ho ht h0 h1
  simp only [Fr.val, M6.val]
  go_enter Try.func6, Try.ntmps6
  go_wp2_with fail
  obtain ⟨W2, e2⟩ : ∃ W2, ((w.alloc (.cells f.cells 25)).alloc (.cells a.cells 23)).alloc (.cells b.cells 23) = W2 := ⟨_, rfl⟩
  rw [e2] at B2 F2 M2 N2 ⊢
  clear e2
  refine (awake_any W2).mono ?_
  rintro e w3 ⟨rfl, b3⟩
  have F3 := hide (F2.out.later b3)
  have M3 := hide (M2.out.later b3)
  have N3 := hide (N2.out.later b3)
  have B3 := hide (later B2.out b3)
  clear F2 M2 N2 B2 b3
  have g1 := eqm_guard
  have g2 := eqm_eql
  have g3 := eqm_neq
  go_wp2_with (first | (refine wpList_load_fr rfl _ rfl w.heap.size rfl f F3.out ?_) | (refine wpList_load_mac _ rfl (w.heap.size + 1) 0 rfl a M3.out.six (by kernel_rfl) ?_))
  refine (K1.out w3).mono ?_
  rintro e w4 ⟨rfl, b4⟩
  have F4 := hide (F3.out.later b4)
  have M4 := hide (M3.out.later b4)
  have N4 := hide (N3.out.later b4)
  have B4 := hide (later B3.out b4)
  clear F3 M3 N3 B3 b4 K1
  go_upto_region 3 with fail
  go_cut [30] (fun c wc => c = .bool false ∧ wc = w4)
  case first =>
    cases m
    · go_wp2
      go_meet
      case rel => exact ⟨rfl, rfl⟩
    · have es := S1.out rfl
      go_wp2_with (first | (refine wpList_load_mac _ rfl w.heap.size 6 rfl f.src F4.out.six_src (by kernel_rfl) ?_) | (refine wpList_load_mac _ rfl (w.heap.size + 1) 0 rfl a M4.out.six (by kernel_rfl) ?_))
      go_wp2
      go_meet
      case rel => exact ⟨rfl, rfl⟩
  case rest =>
    obtain ⟨rfl, rfl⟩ := hcut
    go_wp2_with (first | (refine wpList_load_fr rfl _ rfl w.heap.size rfl f F4.out ?_) | (refine wpList_load_mac _ rfl (w.heap.size + 1 + 1) 0 rfl b N4.out.six (by kernel_rfl) ?_))
    refine (K2.out wc).mono ?_
    rintro e w5 ⟨rfl, b5⟩
    have F5 := hide (F4.out.later b5)
    have M5 := hide (M4.out.later b5)
    have N5 := hide (N4.out.later b5)
    have B5 := hide (later B4.out b5)
    clear F4 M4 N4 B4 b5 K2
    go_upto_region 6 with fail
    go_cut [49] (fun c wc => c = .bool false ∧ Hid (Below w5.heap.size w5 wc))
    case first =>
      cases hab : eqM a b
      · cases m
        · refine region_quiet_C (fun W => Below w5.heap.size w5 W) (by kernel_rfl) (by kernel_rfl) (later_drew _) ?_
          go_big_quiet_want
          refine quiet_load_mac _ rfl (w.heap.size + 1) 0 rfl a (fun W hW => (M5.out.later hW).six) ?_
          go_big_quiet_on
          simp only [Act.put, List.setIfInBounds_toArray, List.set_cons_succ, List.set_cons_zero]
          go_big_quiet_want
          refine quiet_load_mac _ rfl (w.heap.size + 1 + 1) 0 rfl b (fun W hW => (N5.out.later hW).six) ?_
          go_big_quiet_on
          simp only [Act.put, List.setIfInBounds_toArray, List.set_cons_succ, List.set_cons_zero]
          go_big_quiet_want
          refine quiet_pure (.bool true) (fun _ _ => by simp [Act.eval, go_sem, g1, g3, hab]) ?_
          go_big_quiet_on
          simp only [Act.put, List.setIfInBounds_toArray, List.set_cons_succ, List.set_cons_zero]
          go_big_quiet_step (fail)
          go_big_quiet_step (fail)
          go_big_quiet_want
          refine quiet_pure (.bool false) (fun _ _ => by simp [Act.eval, go_sem]) ?_
          go_big_quiet_on
          simp only [Act.put, List.setIfInBounds_toArray, List.set_cons_succ, List.set_cons_zero]
          go_big_quiet_step (fail)
          go_big_quiet_step (fail)
          go_big_quiet_want
          refine quiet_pure (.bool false) (fun _ _ => by simp [Act.eval, go_sem]) ?_
          go_big_quiet_on
          simp only [Act.put, List.setIfInBounds_toArray, List.set_cons_succ, List.set_cons_zero]
          go_big_quiet_step (fail)
          go_big_quiet_step (fail)
          go_big_quiet_step (fail)
          go_big_quiet_step (fail)
          go_big_quiet_step (fail)
          go_big_quiet_want
          refine quiet_pure (.bool false) (fun _ _ => by simp [Act.eval, go_sem]) ?_
          go_big_quiet_on
          simp only [Act.put, List.setIfInBounds_toArray, List.set_cons_succ, List.set_cons_zero]
          refine wpQuiet_nil ?_
          intro w6 b6
          go_wp2
          go_meet
          case rel => exact ⟨rfl, b6⟩
        · cases o
          · refine region_quiet_C (fun W => Below w5.heap.size w5 W) (by kernel_rfl) (by kernel_rfl) (later_drew _) ?_
            go_big_quiet_want
            refine quiet_load_mac _ rfl (w.heap.size + 1) 0 rfl a (fun W hW => (M5.out.later hW).six) ?_
            go_big_quiet_on
            simp only [Act.put, List.setIfInBounds_toArray, List.set_cons_succ, List.set_cons_zero]
            go_big_quiet_want
            refine quiet_load_mac _ rfl (w.heap.size + 1 + 1) 0 rfl b (fun W hW => (N5.out.later hW).six) ?_
            go_big_quiet_on
            simp only [Act.put, List.setIfInBounds_toArray, List.set_cons_succ, List.set_cons_zero]
            go_big_quiet_want
            refine quiet_pure (.bool true) (fun _ _ => by simp [Act.eval, go_sem, g1, g3, hab]) ?_
            go_big_quiet_on
            simp only [Act.put, List.setIfInBounds_toArray, List.set_cons_succ, List.set_cons_zero]
            go_big_quiet_step (fail)
            go_big_quiet_step (fail)
            go_big_quiet_want
            refine quiet_pure (.bool true) (fun _ _ => by simp [Act.eval, go_sem]) ?_
            go_big_quiet_on
            simp only [Act.put, List.setIfInBounds_toArray, List.set_cons_succ, List.set_cons_zero]
            go_big_quiet_step (fail)
            go_big_quiet_step (fail)
            go_big_quiet_want
            refine quiet_pure (.bool false) (fun _ _ => by simp [Act.eval, go_sem]) ?_
            go_big_quiet_on
            simp only [Act.put, List.setIfInBounds_toArray, List.set_cons_succ, List.set_cons_zero]
            go_big_quiet_step (fail)
            go_big_quiet_step (fail)
            go_big_quiet_step (fail)
            go_big_quiet_step (fail)
            go_big_quiet_step (fail)
            go_big_quiet_want
            refine quiet_pure (.bool false) (fun _ _ => by simp [Act.eval, go_sem]) ?_
            go_big_quiet_on
            simp only [Act.put, List.setIfInBounds_toArray, List.set_cons_succ, List.set_cons_zero]
            refine wpQuiet_nil ?_
            intro w6 b6
            go_wp2
            go_meet
            case rel => exact ⟨rfl, b6⟩
          · have hdd := S2.out rfl rfl hab
            refine region_quiet_C (fun W => Below w5.heap.size w5 W) (by kernel_rfl) (by kernel_rfl) (later_drew _) ?_
            go_big_quiet_want
            refine quiet_load_mac _ rfl (w.heap.size + 1) 0 rfl a (fun W hW => (M5.out.later hW).six) ?_
            go_big_quiet_on
            simp only [Act.put, List.setIfInBounds_toArray, List.set_cons_succ, List.set_cons_zero]
            go_big_quiet_want
            refine quiet_load_mac _ rfl (w.heap.size + 1 + 1) 0 rfl b (fun W hW => (N5.out.later hW).six) ?_
            go_big_quiet_on
            simp only [Act.put, List.setIfInBounds_toArray, List.set_cons_succ, List.set_cons_zero]
            go_big_quiet_want
            refine quiet_pure (.bool true) (fun _ _ => by simp [Act.eval, go_sem, g1, g3, hab]) ?_
            go_big_quiet_on
            simp only [Act.put, List.setIfInBounds_toArray, List.set_cons_succ, List.set_cons_zero]
            go_big_quiet_step (fail)
            go_big_quiet_step (fail)
            go_big_quiet_want
            refine quiet_pure (.bool true) (fun _ _ => by simp [Act.eval, go_sem]) ?_
            go_big_quiet_on
            simp only [Act.put, List.setIfInBounds_toArray, List.set_cons_succ, List.set_cons_zero]
            go_big_quiet_step (fail)
            go_big_quiet_step (fail)
            go_big_quiet_want
            refine quiet_pure (.bool true) (fun _ _ => by simp [Act.eval, go_sem]) ?_
            go_big_quiet_on
            simp only [Act.put, List.setIfInBounds_toArray, List.set_cons_succ, List.set_cons_zero]
            go_big_quiet_step (fail)
            go_big_quiet_want
            refine quiet_pure (.pointer (some ⟨w.heap.size, 0, none⟩)) (fun _ _ => by simp [Act.eval, go_sem]) ?_
            go_big_quiet_on
            simp only [Act.put, List.setIfInBounds_toArray, List.set_cons_succ, List.set_cons_zero]
            go_big_quiet_want
            refine quiet_load_mac _ rfl w.heap.size 0 rfl f.dst (fun W hW => (F5.out.later hW).six_dst) ?_
            go_big_quiet_on
            simp only [Act.put, List.setIfInBounds_toArray, List.set_cons_succ, List.set_cons_zero]
            go_big_quiet_want
            refine quiet_call 15 #[] mAll.val (fun _ => by simp [go_sem]) (fun W hW => (All_any W).mono fun e w' h => ⟨h.1, later hW h.2⟩) ?_
            go_big_quiet_on
            simp only [Act.put, List.setIfInBounds_toArray, List.set_cons_succ, List.set_cons_zero]
            go_big_quiet_want
            refine quiet_pure (.bool false) (fun _ _ => by simp [Act.eval, go_sem, g1, g3, hdd]) ?_
            go_big_quiet_on
            simp only [Act.put, List.setIfInBounds_toArray, List.set_cons_succ, List.set_cons_zero]
            go_big_quiet_want
            refine quiet_pure (.bool false) (fun _ _ => by simp [Act.eval, go_sem]) ?_
            go_big_quiet_on
            simp only [Act.put, List.setIfInBounds_toArray, List.set_cons_succ, List.set_cons_zero]
            refine wpQuiet_nil ?_
            intro w6 b6
            go_wp2
            go_meet
            case rel => exact ⟨rfl, b6⟩
      · refine region_quiet_C (fun W => Below w5.heap.size w5 W) (by kernel_rfl) (by kernel_rfl) (later_drew _) ?_
        go_big_quiet_want
        refine quiet_load_mac _ rfl (w.heap.size + 1) 0 rfl a (fun W hW => (M5.out.later hW).six) ?_
        go_big_quiet_on
        simp only [Act.put, List.setIfInBounds_toArray, List.set_cons_succ, List.set_cons_zero]
        go_big_quiet_want
        refine quiet_load_mac _ rfl (w.heap.size + 1 + 1) 0 rfl b (fun W hW => (N5.out.later hW).six) ?_
        go_big_quiet_on
        simp only [Act.put, List.setIfInBounds_toArray, List.set_cons_succ, List.set_cons_zero]
        go_big_quiet_want
        refine quiet_pure (.bool false) (fun _ _ => by simp [Act.eval, go_sem, g1, g3, hab]) ?_
        go_big_quiet_on
        simp only [Act.put, List.setIfInBounds_toArray, List.set_cons_succ, List.set_cons_zero]
        go_big_quiet_step (fail)
        go_big_quiet_step (fail)
        go_big_quiet_want
        refine quiet_pure (.bool false) (fun _ _ => by simp [Act.eval, go_sem]) ?_
        go_big_quiet_on
        simp only [Act.put, List.setIfInBounds_toArray, List.set_cons_succ, List.set_cons_zero]
        go_big_quiet_step (fail)
        go_big_quiet_step (fail)
        go_big_quiet_want
        refine quiet_pure (.bool false) (fun _ _ => by simp [Act.eval, go_sem]) ?_
        go_big_quiet_on
        simp only [Act.put, List.setIfInBounds_toArray, List.set_cons_succ, List.set_cons_zero]
        go_big_quiet_step (fail)
        go_big_quiet_step (fail)
        go_big_quiet_step (fail)
        go_big_quiet_step (fail)
        go_big_quiet_step (fail)
        go_big_quiet_want
        refine quiet_pure (.bool false) (fun _ _ => by simp [Act.eval, go_sem]) ?_
        go_big_quiet_on
        simp only [Act.put, List.setIfInBounds_toArray, List.set_cons_succ, List.set_cons_zero]
        refine wpQuiet_nil ?_
        intro w6 b6
        go_wp2
        go_meet
        case rel => exact ⟨rfl, b6⟩
    case rest =>
      obtain ⟨rfl, b6⟩ := hcut
      have F6 := hide (F5.out.later b6.out)
      have M6 := hide (M5.out.later b6.out)
      have B6 := hide (later B5.out b6.out)
      clear F5 M5 N5 B5 b6
      go_wp2_with (first | (refine wpList_load_fr rfl _ rfl w.heap.size rfl f F6.out ?_) | (refine wpList_load_mac _ rfl (w.heap.size + 1) 0 rfl a M6.out.six (by kernel_rfl) ?_))
      refine (K3.out wc).mono ?_
      rintro e w7 ⟨rfl, b7⟩
      have B7 := hide (later B6.out b7)
      clear B6 b7 K3 F6 M6
      cases m
      · go_wp2
        go_ret
        exact ⟨rfl, B7.out⟩
      · cases t
        · go_wp2
          go_ret
          exact ⟨rfl, B7.out⟩
        · have h3 := S3.out rfl rfl
          by_cases hvu : v = u
          · have e1 : (v == u) = true := by rw [beq_dec]; exact decide_eq_true hvu
            go_wp2
            go_ret
            exact ⟨rfl, B7.out⟩
          · have e1 : (v == u) = false := by rw [beq_dec]; exact decide_eq_false hvu
            have e2 : v ≤ 0 := by omega
            have e3 : u ≤ 0 := by omega
            clear h3 S3
            go_wp2
            go_ret
            exact ⟨by simp, B7.out⟩

end Go.Proofs.Ytipebfaappangaa
