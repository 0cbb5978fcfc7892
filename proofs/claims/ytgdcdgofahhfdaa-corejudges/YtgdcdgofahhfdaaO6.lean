
/-
  Package core: the steps that a segment goes through, up to its Ack.
-/
import Derived.Test.YtgdcdgofahhfdaaO5
namespace Go.Proofs.Ytgdcdgofahhfdaa
open Go.RowKit Go.Shelf

def fStray (c : Ct) (s : Sg) (v : Vd) : Bool × Ct × Vd := if hasB s.flg 16 = true ∧ s.ack ≠ c.nxt then (false, c, if hasB s.flg 4 = true then v else { v with rep := 2 }) else (true, c, v)
def fRefuse (c : Ct) (s : Sg) (v : Vd) : Bool × Ct × Vd := if hasB s.flg 4 = true then (false, c, if hasB s.flg 16 = true then { v with en := 215 } else v) else (true, c, v)
def fMeets (c : Ct) (s : Sg) (v : Vd) : Bool × Ct × Vd := if hasB s.flg 2 = true then (if hasB s.flg 16 = true then (false, { synC c s with st := 3, wl2 := s.ack, una := s.ack }, { v with ack := true, rep := 1 }) else (false, { synC c s with st := 2, wl2 := c.iss }, { v with rep := 3 })) else (false, c, v)
def fAccept (c : Ct) (s : Sg) (v : Vd) : Bool × Ct × Vd := if accB c s = true then (true, c, v) else (false, c, if hasB s.flg 4 = true then v else { v with rep := 1 })
def fReset (c : Ct) (s : Sg) (v : Vd) : Bool × Ct × Vd := if hasB s.flg 4 = true then (if s.seq = c.rcv then (false, c, { v with en := if c.st = 2 then 215 else 216 }) else (false, c, { v with rep := 1 })) else (true, c, v)
def fSyn (c : Ct) (s : Sg) (v : Vd) : Bool × Ct × Vd := if hasB s.flg 2 = true then (false, c, { v with rep := 1 }) else (true, c, v)
def fAckS (c : Ct) (s : Sg) (v : Vd) : Bool × Ct × Vd := (hasB s.flg 16, c, v)
/-- what a step does -/
def SD (F : FuncId) (b : Nat) (w : World) (s : Sg) (gv dv : Value) (r : Bool × Ct × Vd) : Prop := Calls Try.prog F #[.pointer (some ⟨b, 0, none⟩)] w fun e w' => e = .returned (.bool r.1) ∧ JgAt w' b r.2.1 s gv dv r.2.2 ∧ But (Only b) w w'
section
variable {w : World} {b : Nat} {c : Ct} {s : Sg} {gv dv : Value} {v : Vd}
/-- has it a flag: in a walk -/
theorem hasZ {Z : List Value} (hZ : Z = s.cells gv dv) (k : Nat) (hk : k ≤ 4) {m : Int} (hm : ((2 ^ k : Nat) : Int) = m) (W : World) : Calls Try.prog 30 #[.agg Z.toArray, .int .i64 m] W fun e w' => e = .returned (.bool (hasB s.flg m)) ∧ Below W.heap.size W w' := by
  rw [hZ, ← hm]
  exact cHas_any s gv dv k hk W
set_option maxHeartbeats 4000000 in
theorem isNoStray_any (J : JgAt w b c s gv dv v) : SD 36 b w s gv dv (fStray c s v) := by
  unfold SD
  obtain ⟨R, hR⟩ : ∃ R, R = fStray c s v := ⟨_, rfl⟩
  have HR := hide hR
  rw [← hR]
  obtain ⟨Z, hZ⟩ : ∃ Z, Z = s.cells gv dv := ⟨_, rfl⟩
  have LZ : Hid (Z.length = 10) := by rw [hZ]; exact rfl
  have CS : Hid (CellsAt w b 11 Z) := by rw [hZ]; exact J.cs
  have ZV := hide hZ
  obtain ⟨h16, e16⟩ : ∃ h, h = hasB s.flg 16 := ⟨_, rfl⟩
  have E16 := hide e16
  have H16 : Hid (∀ W, Calls Try.prog 30 #[.agg Z.toArray, .int .i64 16] W fun e w' => e = .returned (.bool h16) ∧ Below W.heap.size W w') := fun W => by rw [e16]; exact hasZ hZ 4 (by decide) (by decide) W
  obtain ⟨h4, e4⟩ : ∃ h, h = hasB s.flg 4 := ⟨_, rfl⟩
  have E4 := hide e4
  have H4 : Hid (∀ W, Calls Try.prog 30 #[.agg Z.toArray, .int .i64 4] W fun e w' => e = .returned (.bool h4) ∧ Below W.heap.size W w') := fun W => by rw [e4]; exact hasZ hZ 2 (by decide) (by decide) W
  have HJ := hide J
  clear J hZ e16 e4 hR
  go_enter Try.func36, Try.ntmps36
  go_upto_region 1 with fail
  cases h16 with
  | false =>
    refine region_quiet_C (fun W => Below w.heap.size w W) (by kernel_rfl) (by kernel_rfl) (later_drew _) ?_
    go_big_quiet_step (fail)
    go_big_quiet_want
    refine quiet_pure (.pointer (some ⟨b, 0, none⟩)) (fun W hW => exec_nil _ _ rfl rfl) ?_
    go_big_quiet_on
    simp only [Act.put, List.setIfInBounds_toArray, List.set_cons_succ, List.set_cons_zero]
    go_big_quiet_want
    refine quiet_pure (.pointer (some ⟨b, 11, none⟩)) (fun W hW => exec_fieldO 50 _ 1 b 0 11 rfl rfl (fun w => by kernel_rfl)) ?_
    go_big_quiet_on
    simp only [Act.put, List.setIfInBounds_toArray, List.set_cons_succ, List.set_cons_zero]
    go_big_quiet_want
    refine quiet_pure (.agg (s.cells gv dv).toArray) (fun W hW => exec_loadA 28 10 aggSg sizSg _ rfl b 11 rfl (s.cells gv dv) rfl ((HJ.out.later hW).cs)) ?_
    go_big_quiet_on
    simp only [Act.put, List.setIfInBounds_toArray, List.set_cons_succ, List.set_cons_zero]
    go_big_quiet_want
    refine quiet_call 30 #[.agg (s.cells gv dv).toArray, .int .i64 16] (.bool false) (fun _ => by simp [Act.eval, go_sem]) (fun W hW => by rw [← ZV.out]; exact (H16.out W).mono fun e w' h => ⟨h.1, later hW h.2⟩) ?_
    go_big_quiet_on
    simp only [Act.put, List.setIfInBounds_toArray, List.set_cons_succ, List.set_cons_zero]
    go_big_quiet_want
    refine quiet_pure (.bool true) (fun W hW => exec_not _ _ false rfl rfl) ?_
    go_big_quiet_on
    simp only [Act.put, List.setIfInBounds_toArray, List.set_cons_succ, List.set_cons_zero]
    go_big_quiet_step (fail)
    go_big_quiet_step (fail)
    go_big_quiet_step (fail)
    go_big_quiet_step (fail)
    go_big_quiet_step (fail)
    go_big_quiet_step (fail)
    go_big_quiet_step (fail)
    go_big_quiet_step (fail)
    go_big_quiet_step (fail)
    go_big_quiet_step (fail)
    go_big_quiet_step (fail)
    go_big_quiet_step (fail)
    go_big_quiet_want
    refine quiet_pure (.bool true) (fun W hW => exec_pick _ _ _ true _ rfl rfl rfl) ?_
    go_big_quiet_on
    simp only [Act.put, List.setIfInBounds_toArray, List.set_cons_succ, List.set_cons_zero]
    refine wpQuiet_nil ?_
    intro wq bq
    have BQ := hide bq
    clear bq
    go_wp2
    go_ret
    have e : R = (true, c, v) := by rw [HR.out]; unfold fStray; rw [← E16.out, if_neg (by simp)]
    rw [e]
    exact ⟨rfl, HJ.out.later BQ.out, But.of_below BQ.out⟩
  | true =>
    by_cases h : s.ack = c.nxt
    · have hd : decide (s.ack = c.nxt) = true := decide_eq_true h
      refine region_quiet_C (fun W => Below w.heap.size w W) (by kernel_rfl) (by kernel_rfl) (later_drew _) ?_
      go_big_quiet_step (fail)
      go_big_quiet_want
      refine quiet_pure (.pointer (some ⟨b, 0, none⟩)) (fun W hW => exec_nil _ _ rfl rfl) ?_
      go_big_quiet_on
      simp only [Act.put, List.setIfInBounds_toArray, List.set_cons_succ, List.set_cons_zero]
      go_big_quiet_want
      refine quiet_pure (.pointer (some ⟨b, 11, none⟩)) (fun W hW => exec_fieldO 50 _ 1 b 0 11 rfl rfl (fun w => by kernel_rfl)) ?_
      go_big_quiet_on
      simp only [Act.put, List.setIfInBounds_toArray, List.set_cons_succ, List.set_cons_zero]
      go_big_quiet_want
      refine quiet_pure (.agg (s.cells gv dv).toArray) (fun W hW => exec_loadA 28 10 aggSg sizSg _ rfl b 11 rfl (s.cells gv dv) rfl ((HJ.out.later hW).cs)) ?_
      go_big_quiet_on
      simp only [Act.put, List.setIfInBounds_toArray, List.set_cons_succ, List.set_cons_zero]
      go_big_quiet_want
      refine quiet_call 30 #[.agg (s.cells gv dv).toArray, .int .i64 16] (.bool true) (fun _ => by simp [Act.eval, go_sem]) (fun W hW => by rw [← ZV.out]; exact (H16.out W).mono fun e w' h => ⟨h.1, later hW h.2⟩) ?_
      go_big_quiet_on
      simp only [Act.put, List.setIfInBounds_toArray, List.set_cons_succ, List.set_cons_zero]
      go_big_quiet_want
      refine quiet_pure (.bool false) (fun W hW => exec_not _ _ true rfl rfl) ?_
      go_big_quiet_on
      simp only [Act.put, List.setIfInBounds_toArray, List.set_cons_succ, List.set_cons_zero]
      go_big_quiet_step (fail)
      go_big_quiet_step (fail)
      go_big_quiet_want
      refine quiet_pure (.pointer (some ⟨b, 0, none⟩)) (fun W hW => exec_nil _ _ rfl rfl) ?_
      go_big_quiet_on
      simp only [Act.put, List.setIfInBounds_toArray, List.set_cons_succ, List.set_cons_zero]
      go_big_quiet_want
      refine quiet_pure (.pointer (some ⟨b, 11, none⟩)) (fun W hW => exec_fieldO 50 _ 1 b 0 11 rfl rfl (fun w => by kernel_rfl)) ?_
      go_big_quiet_on
      simp only [Act.put, List.setIfInBounds_toArray, List.set_cons_succ, List.set_cons_zero]
      go_big_quiet_want
      refine quiet_pure (.pointer (some ⟨b, 14, none⟩)) (fun W hW => exec_fieldO 28 _ 3 b 11 14 rfl rfl (fun w => by kernel_rfl)) ?_
      go_big_quiet_on
      simp only [Act.put, List.setIfInBounds_toArray, List.set_cons_succ, List.set_cons_zero]
      go_big_quiet_want
      refine quiet_pure (.int .u32 s.ack) (fun W hW => exec_load1 22 one32 _ rfl b 14 rfl (.int .u32 s.ack) ((HJ.out.later hW).cs 3 _ rfl)) ?_
      go_big_quiet_on
      simp only [Act.put, List.setIfInBounds_toArray, List.set_cons_succ, List.set_cons_zero]
      go_big_quiet_step (fail)
      go_big_quiet_want
      refine quiet_pure (.pointer (some ⟨b, 0, none⟩)) (fun W hW => exec_nil _ _ rfl rfl) ?_
      go_big_quiet_on
      simp only [Act.put, List.setIfInBounds_toArray, List.set_cons_succ, List.set_cons_zero]
      go_big_quiet_want
      refine quiet_pure (.pointer (some ⟨b, 0, none⟩)) (fun W hW => exec_fieldO 50 _ 0 b 0 0 rfl rfl (fun w => by kernel_rfl)) ?_
      go_big_quiet_on
      simp only [Act.put, List.setIfInBounds_toArray, List.set_cons_succ, List.set_cons_zero]
      go_big_quiet_want
      refine quiet_pure (.pointer (some ⟨b, 3, none⟩)) (fun W hW => exec_fieldO 24 _ 3 b 0 3 rfl rfl (fun w => by kernel_rfl)) ?_
      go_big_quiet_on
      simp only [Act.put, List.setIfInBounds_toArray, List.set_cons_succ, List.set_cons_zero]
      go_big_quiet_want
      refine quiet_pure (.int .u32 c.nxt) (fun W hW => exec_load1 22 one32 _ rfl b 3 rfl (.int .u32 c.nxt) ((HJ.out.later hW).cc 3 _ rfl)) ?_
      go_big_quiet_on
      simp only [Act.put, List.setIfInBounds_toArray, List.set_cons_succ, List.set_cons_zero]
      go_big_quiet_want
      refine quiet_pure (.bool true) (fun W hW => exec_equ _ _ _ _ _ _ rfl rfl rfl hd) ?_
      go_big_quiet_on
      simp only [Act.put, List.setIfInBounds_toArray, List.set_cons_succ, List.set_cons_zero]
      go_big_quiet_want
      refine quiet_pure (.bool true) (fun W hW => exec_pick _ _ _ false _ rfl rfl rfl) ?_
      go_big_quiet_on
      simp only [Act.put, List.setIfInBounds_toArray, List.set_cons_succ, List.set_cons_zero]
      refine wpQuiet_nil ?_
      intro wq bq
      have BQ := hide bq
      clear bq
      go_wp2
      go_ret
      have e : R = (true, c, v) := by rw [HR.out]; unfold fStray; rw [if_neg (fun k => k.2 h)]
      rw [e]
      exact ⟨rfl, HJ.out.later BQ.out, But.of_below BQ.out⟩
    · have hd : decide (s.ack = c.nxt) = false := decide_eq_false h
      refine region_quiet_C (fun W => Below w.heap.size w W) (by kernel_rfl) (by kernel_rfl) (later_drew _) ?_
      go_big_quiet_step (fail)
      go_big_quiet_want
      refine quiet_pure (.pointer (some ⟨b, 0, none⟩)) (fun W hW => exec_nil _ _ rfl rfl) ?_
      go_big_quiet_on
      simp only [Act.put, List.setIfInBounds_toArray, List.set_cons_succ, List.set_cons_zero]
      go_big_quiet_want
      refine quiet_pure (.pointer (some ⟨b, 11, none⟩)) (fun W hW => exec_fieldO 50 _ 1 b 0 11 rfl rfl (fun w => by kernel_rfl)) ?_
      go_big_quiet_on
      simp only [Act.put, List.setIfInBounds_toArray, List.set_cons_succ, List.set_cons_zero]
      go_big_quiet_want
      refine quiet_pure (.agg (s.cells gv dv).toArray) (fun W hW => exec_loadA 28 10 aggSg sizSg _ rfl b 11 rfl (s.cells gv dv) rfl ((HJ.out.later hW).cs)) ?_
      go_big_quiet_on
      simp only [Act.put, List.setIfInBounds_toArray, List.set_cons_succ, List.set_cons_zero]
      go_big_quiet_want
      refine quiet_call 30 #[.agg (s.cells gv dv).toArray, .int .i64 16] (.bool true) (fun _ => by simp [Act.eval, go_sem]) (fun W hW => by rw [← ZV.out]; exact (H16.out W).mono fun e w' h => ⟨h.1, later hW h.2⟩) ?_
      go_big_quiet_on
      simp only [Act.put, List.setIfInBounds_toArray, List.set_cons_succ, List.set_cons_zero]
      go_big_quiet_want
      refine quiet_pure (.bool false) (fun W hW => exec_not _ _ true rfl rfl) ?_
      go_big_quiet_on
      simp only [Act.put, List.setIfInBounds_toArray, List.set_cons_succ, List.set_cons_zero]
      go_big_quiet_step (fail)
      go_big_quiet_step (fail)
      go_big_quiet_want
      refine quiet_pure (.pointer (some ⟨b, 0, none⟩)) (fun W hW => exec_nil _ _ rfl rfl) ?_
      go_big_quiet_on
      simp only [Act.put, List.setIfInBounds_toArray, List.set_cons_succ, List.set_cons_zero]
      go_big_quiet_want
      refine quiet_pure (.pointer (some ⟨b, 11, none⟩)) (fun W hW => exec_fieldO 50 _ 1 b 0 11 rfl rfl (fun w => by kernel_rfl)) ?_
      go_big_quiet_on
      simp only [Act.put, List.setIfInBounds_toArray, List.set_cons_succ, List.set_cons_zero]
      go_big_quiet_want
      refine quiet_pure (.pointer (some ⟨b, 14, none⟩)) (fun W hW => exec_fieldO 28 _ 3 b 11 14 rfl rfl (fun w => by kernel_rfl)) ?_
      go_big_quiet_on
      simp only [Act.put, List.setIfInBounds_toArray, List.set_cons_succ, List.set_cons_zero]
      go_big_quiet_want
      refine quiet_pure (.int .u32 s.ack) (fun W hW => exec_load1 22 one32 _ rfl b 14 rfl (.int .u32 s.ack) ((HJ.out.later hW).cs 3 _ rfl)) ?_
      go_big_quiet_on
      simp only [Act.put, List.setIfInBounds_toArray, List.set_cons_succ, List.set_cons_zero]
      go_big_quiet_step (fail)
      go_big_quiet_want
      refine quiet_pure (.pointer (some ⟨b, 0, none⟩)) (fun W hW => exec_nil _ _ rfl rfl) ?_
      go_big_quiet_on
      simp only [Act.put, List.setIfInBounds_toArray, List.set_cons_succ, List.set_cons_zero]
      go_big_quiet_want
      refine quiet_pure (.pointer (some ⟨b, 0, none⟩)) (fun W hW => exec_fieldO 50 _ 0 b 0 0 rfl rfl (fun w => by kernel_rfl)) ?_
      go_big_quiet_on
      simp only [Act.put, List.setIfInBounds_toArray, List.set_cons_succ, List.set_cons_zero]
      go_big_quiet_want
      refine quiet_pure (.pointer (some ⟨b, 3, none⟩)) (fun W hW => exec_fieldO 24 _ 3 b 0 3 rfl rfl (fun w => by kernel_rfl)) ?_
      go_big_quiet_on
      simp only [Act.put, List.setIfInBounds_toArray, List.set_cons_succ, List.set_cons_zero]
      go_big_quiet_want
      refine quiet_pure (.int .u32 c.nxt) (fun W hW => exec_load1 22 one32 _ rfl b 3 rfl (.int .u32 c.nxt) ((HJ.out.later hW).cc 3 _ rfl)) ?_
      go_big_quiet_on
      simp only [Act.put, List.setIfInBounds_toArray, List.set_cons_succ, List.set_cons_zero]
      go_big_quiet_want
      refine quiet_pure (.bool false) (fun W hW => exec_equ _ _ _ _ _ _ rfl rfl rfl hd) ?_
      go_big_quiet_on
      simp only [Act.put, List.setIfInBounds_toArray, List.set_cons_succ, List.set_cons_zero]
      go_big_quiet_want
      refine quiet_pure (.bool false) (fun W hW => exec_pick _ _ _ false _ rfl rfl rfl) ?_
      go_big_quiet_on
      simp only [Act.put, List.setIfInBounds_toArray, List.set_cons_succ, List.set_cons_zero]
      refine wpQuiet_nil ?_
      intro wq bq
      obtain ⟨w1, hw1⟩ : ∃ w1, w1 = wq := ⟨_, rfl⟩
      rw [← hw1] at bq ⊢
      have BQ := hide bq
      have J1 := hide (HJ.out.later bq)
      have CS1 := hide (CS.out.later HJ.out.lt bq)
      have ER : Hid (R = (false, c, if h4 = true then v else { v with rep := 2 })) := by unfold Hid; rw [HR.out]; unfold fStray; rw [← E16.out, ← E4.out, if_pos ⟨rfl, h⟩]
      clear bq hw1
      go_wp2_with (refine wpList_loadA rfl 28 10 aggSg sizSg _ rfl b 11 rfl Z LZ.out CS1.out ?_)
      refine (H4.out w1).mono ?_
      rintro _ w2 ⟨rfl, bz⟩
      have B_w2 := hide (later BQ.out bz)
      have J_w2 := hide (J1.out.later bz)
      have CS_w2 := hide (CS1.out.later J1.out.lt bz)
      clear bz H4
      cases h4 with
      | true =>
        go_wp2
        go_ret
        have e : R = (false, c, v) := ER.out
        rw [e]
        exact ⟨rfl, J_w2.out, But.of_below B_w2.out⟩
      | false =>
        have RP := hide (reply_any J_w2.out 2)
        go_wp2_with fail
        refine RP.out.mono ?_
        rintro _ w3 ⟨rfl, j3, b3⟩
        have J3 := hide j3
        have B3 := hide b3
        clear j3 b3 RP
        go_wp2
        go_ret
        have e : R = (false, c, { v with rep := 2 }) := ER.out
        rw [e]
        exact ⟨rfl, J3.out, (But.of_below B_w2.out).trans B3.out⟩
set_option maxHeartbeats 4000000 in
theorem isNoRefusal_any (J : JgAt w b c s gv dv v) : SD 37 b w s gv dv (fRefuse c s v) := by
  unfold SD
  obtain ⟨R, hR⟩ : ∃ R, R = fRefuse c s v := ⟨_, rfl⟩
  have HR := hide hR
  rw [← hR]
  obtain ⟨Z, hZ⟩ : ∃ Z, Z = s.cells gv dv := ⟨_, rfl⟩
  have LZ : Hid (Z.length = 10) := by rw [hZ]; exact rfl
  have CS : Hid (CellsAt w b 11 Z) := by rw [hZ]; exact J.cs
  have ZV := hide hZ
  obtain ⟨h4, e4⟩ : ∃ h, h = hasB s.flg 4 := ⟨_, rfl⟩
  have E4 := hide e4
  have H4 : Hid (∀ W, Calls Try.prog 30 #[.agg Z.toArray, .int .i64 4] W fun e w' => e = .returned (.bool h4) ∧ Below W.heap.size W w') := fun W => by rw [e4]; exact hasZ hZ 2 (by decide) (by decide) W
  obtain ⟨h16, e16⟩ : ∃ h, h = hasB s.flg 16 := ⟨_, rfl⟩
  have E16 := hide e16
  have H16 : Hid (∀ W, Calls Try.prog 30 #[.agg Z.toArray, .int .i64 16] W fun e w' => e = .returned (.bool h16) ∧ Below W.heap.size W w') := fun W => by rw [e16]; exact hasZ hZ 4 (by decide) (by decide) W
  have HJ := hide J
  clear J hZ e4 e16 hR
  go_enter Try.func37, Try.ntmps37
  have x33 : w.cell? ⟨b, 33, none⟩ = some (.int .i64 v.en) := HJ.out.cv 12 _ rfl
  go_wp2_with (refine wpList_loadA rfl 28 10 aggSg sizSg _ rfl b 11 rfl Z LZ.out CS.out ?_)
  refine (H4.out w).mono ?_
  rintro _ w1 ⟨rfl, bz⟩
  have B_w1 := hide bz
  have J_w1 := hide (HJ.out.later bz)
  have CS_w1 := hide (CS.out.later HJ.out.lt bz)
  clear bz H4
  clear x33
  cases h4 with
  | false =>
    go_wp2
    go_ret
    have e : R = (true, c, v) := by rw [HR.out]; unfold fRefuse; rw [← E4.out, if_neg (by simp)]
    rw [e]
    exact ⟨rfl, J_w1.out, But.of_below B_w1.out⟩
  | true =>
    have ER : Hid (R = (false, c, if h16 = true then { v with en := 215 } else v)) := by unfold Hid; rw [HR.out]; unfold fRefuse; rw [← E4.out, ← E16.out, if_pos rfl]
    go_wp2_with (refine wpList_loadA rfl 28 10 aggSg sizSg _ rfl b 11 rfl Z LZ.out CS_w1.out ?_)
    refine (H16.out w1).mono ?_
    rintro _ w2 ⟨rfl, bz⟩
    have B_w2 := hide (later B_w1.out bz)
    have J_w2 := hide (J_w1.out.later bz)
    have CS_w2 := hide (CS_w1.out.later J_w1.out.lt bz)
    clear bz H16
    have x33 : w2.cell? ⟨b, 33, none⟩ = some (.int .i64 v.en) := J_w2.out.cv 12 _ rfl
    have f33 := J_w2.out.fz 33
    cases h16 with
    | true =>
      go_wp2
      go_ret
      have e : R = (false, c, { v with en := 215 }) := ER.out
      rw [e]
      exact ⟨rfl, J_w2.out.setV (k := 12) (by decide) (.int .i64 215) rfl, (But.of_below (K := Only b) B_w2.out).setOf (b := b) rfl 33 _⟩
    | false =>
      go_wp2
      go_ret
      have e : R = (false, c, v) := ER.out
      rw [e]
      exact ⟨rfl, J_w2.out, But.of_below B_w2.out⟩
set_option maxHeartbeats 4000000 in
theorem isNoSyn_any (J : JgAt w b c s gv dv v) : SD 41 b w s gv dv (fSyn c s v) := by
  unfold SD
  obtain ⟨R, hR⟩ : ∃ R, R = fSyn c s v := ⟨_, rfl⟩
  have HR := hide hR
  rw [← hR]
  obtain ⟨Z, hZ⟩ : ∃ Z, Z = s.cells gv dv := ⟨_, rfl⟩
  have LZ : Hid (Z.length = 10) := by rw [hZ]; exact rfl
  have CS : Hid (CellsAt w b 11 Z) := by rw [hZ]; exact J.cs
  have ZV := hide hZ
  obtain ⟨h2, e2⟩ : ∃ h, h = hasB s.flg 2 := ⟨_, rfl⟩
  have E2 := hide e2
  have H2 : Hid (∀ W, Calls Try.prog 30 #[.agg Z.toArray, .int .i64 2] W fun e w' => e = .returned (.bool h2) ∧ Below W.heap.size W w') := fun W => by rw [e2]; exact hasZ hZ 1 (by decide) (by decide) W
  have HJ := hide J
  clear J hZ e2 hR
  go_enter Try.func41, Try.ntmps41
  go_wp2_with (refine wpList_loadA rfl 28 10 aggSg sizSg _ rfl b 11 rfl Z LZ.out CS.out ?_)
  refine (H2.out w).mono ?_
  rintro _ w1 ⟨rfl, bz⟩
  have B_w1 := hide bz
  have J_w1 := hide (HJ.out.later bz)
  have CS_w1 := hide (CS.out.later HJ.out.lt bz)
  clear bz H2
  cases h2 with
  | false =>
    go_wp2
    go_ret
    have e : R = (true, c, v) := by rw [HR.out]; unfold fSyn; rw [← E2.out, if_neg (by simp)]
    rw [e]
    exact ⟨rfl, J_w1.out, But.of_below B_w1.out⟩
  | true =>
    have RP := hide (reply_any J_w1.out 1)
    go_wp2_with fail
    refine RP.out.mono ?_
    rintro _ w3 ⟨rfl, j3, b3⟩
    have J3 := hide j3
    have B3 := hide b3
    clear j3 b3 RP
    go_wp2
    go_ret
    have e : R = (false, c, { v with rep := 1 }) := by rw [HR.out]; unfold fSyn; rw [← E2.out, if_pos rfl]
    rw [e]
    exact ⟨rfl, J3.out, (But.of_below B_w1.out).trans B3.out⟩
set_option maxHeartbeats 4000000 in
theorem hasAck_any (J : JgAt w b c s gv dv v) : SD 42 b w s gv dv (fAckS c s v) := by
  unfold SD
  obtain ⟨R, hR⟩ : ∃ R, R = fAckS c s v := ⟨_, rfl⟩
  have HR := hide hR
  rw [← hR]
  obtain ⟨Z, hZ⟩ : ∃ Z, Z = s.cells gv dv := ⟨_, rfl⟩
  have LZ : Hid (Z.length = 10) := by rw [hZ]; exact rfl
  have CS : Hid (CellsAt w b 11 Z) := by rw [hZ]; exact J.cs
  have ZV := hide hZ
  obtain ⟨h16, e16⟩ : ∃ h, h = hasB s.flg 16 := ⟨_, rfl⟩
  have E16 := hide e16
  have H16 : Hid (∀ W, Calls Try.prog 30 #[.agg Z.toArray, .int .i64 16] W fun e w' => e = .returned (.bool h16) ∧ Below W.heap.size W w') := fun W => by rw [e16]; exact hasZ hZ 4 (by decide) (by decide) W
  have HJ := hide J
  clear J hZ e16 hR
  go_enter Try.func42, Try.ntmps42
  go_wp2_with (refine wpList_loadA rfl 28 10 aggSg sizSg _ rfl b 11 rfl Z LZ.out CS.out ?_)
  refine (H16.out w).mono ?_
  rintro _ w1 ⟨rfl, bz⟩
  have B_w1 := hide bz
  have J_w1 := hide (HJ.out.later bz)
  have CS_w1 := hide (CS.out.later HJ.out.lt bz)
  clear bz H16
  go_wp2
  go_ret
  have e : R = (h16, c, v) := by rw [HR.out]; unfold fAckS; rw [← E16.out]
  rw [e]
  exact ⟨rfl, J_w1.out, But.of_below B_w1.out⟩
set_option maxHeartbeats 4000000 in
theorem isNoReset_any (J : JgAt w b c s gv dv v) : SD 40 b w s gv dv (fReset c s v) := by
  unfold SD
  obtain ⟨R, hR⟩ : ∃ R, R = fReset c s v := ⟨_, rfl⟩
  have HR := hide hR
  rw [← hR]
  obtain ⟨Z, hZ⟩ : ∃ Z, Z = s.cells gv dv := ⟨_, rfl⟩
  have LZ : Hid (Z.length = 10) := by rw [hZ]; exact rfl
  have CS : Hid (CellsAt w b 11 Z) := by rw [hZ]; exact J.cs
  have ZV := hide hZ
  obtain ⟨h4, e4⟩ : ∃ h, h = hasB s.flg 4 := ⟨_, rfl⟩
  have E4 := hide e4
  have H4 : Hid (∀ W, Calls Try.prog 30 #[.agg Z.toArray, .int .i64 4] W fun e w' => e = .returned (.bool h4) ∧ Below W.heap.size W w') := fun W => by rw [e4]; exact hasZ hZ 2 (by decide) (by decide) W
  have HJ := hide J
  clear J hZ e4 hR
  go_enter Try.func40, Try.ntmps40
  go_wp2_with (refine wpList_loadA rfl 28 10 aggSg sizSg _ rfl b 11 rfl Z LZ.out CS.out ?_)
  refine (H4.out w).mono ?_
  rintro _ w1 ⟨rfl, bz⟩
  have B_w1 := hide bz
  have J_w1 := hide (HJ.out.later bz)
  have CS_w1 := hide (CS.out.later HJ.out.lt bz)
  clear bz H4
  cases h4 with
  | false =>
    go_wp2
    go_ret
    have e : R = (true, c, v) := by rw [HR.out]; unfold fReset; rw [← E4.out, if_neg (by simp)]
    rw [e]
    exact ⟨rfl, J_w1.out, But.of_below B_w1.out⟩
  | true =>
    have ER : Hid (R = if s.seq = c.rcv then (false, c, { v with en := if c.st = 2 then 215 else 216 }) else (false, c, { v with rep := 1 })) := by unfold Hid; rw [HR.out]; unfold fReset; rw [← E4.out, if_pos rfl]
    go_upto_region 4 with fail
    by_cases h : s.seq = c.rcv
    · have hd : (!decide (s.seq = c.rcv)) = false := by rw [decide_eq_true h]; rfl
      refine region_quiet_C (fun W => Below w1.heap.size w1 W) (by kernel_rfl) (by kernel_rfl) (later_drew _) ?_
      go_big_quiet_step (fail)
      go_big_quiet_want
      refine quiet_pure (.pointer (some ⟨b, 0, none⟩)) (fun W hW => exec_nil _ _ rfl rfl) ?_
      go_big_quiet_on
      simp only [Act.put, List.setIfInBounds_toArray, List.set_cons_succ, List.set_cons_zero]
      go_big_quiet_want
      refine quiet_pure (.pointer (some ⟨b, 11, none⟩)) (fun W hW => exec_fieldO 50 _ 1 b 0 11 rfl rfl (fun w => by kernel_rfl)) ?_
      go_big_quiet_on
      simp only [Act.put, List.setIfInBounds_toArray, List.set_cons_succ, List.set_cons_zero]
      go_big_quiet_want
      refine quiet_pure (.pointer (some ⟨b, 13, none⟩)) (fun W hW => exec_fieldO 28 _ 2 b 11 13 rfl rfl (fun w => by kernel_rfl)) ?_
      go_big_quiet_on
      simp only [Act.put, List.setIfInBounds_toArray, List.set_cons_succ, List.set_cons_zero]
      go_big_quiet_want
      refine quiet_pure (.int .u32 s.seq) (fun W hW => exec_load1 22 one32 _ rfl b 13 rfl (.int .u32 s.seq) ((J_w1.out.later hW).cs 2 _ rfl)) ?_
      go_big_quiet_on
      simp only [Act.put, List.setIfInBounds_toArray, List.set_cons_succ, List.set_cons_zero]
      go_big_quiet_step (fail)
      go_big_quiet_want
      refine quiet_pure (.pointer (some ⟨b, 0, none⟩)) (fun W hW => exec_nil _ _ rfl rfl) ?_
      go_big_quiet_on
      simp only [Act.put, List.setIfInBounds_toArray, List.set_cons_succ, List.set_cons_zero]
      go_big_quiet_want
      refine quiet_pure (.pointer (some ⟨b, 0, none⟩)) (fun W hW => exec_fieldO 50 _ 0 b 0 0 rfl rfl (fun w => by kernel_rfl)) ?_
      go_big_quiet_on
      simp only [Act.put, List.setIfInBounds_toArray, List.set_cons_succ, List.set_cons_zero]
      go_big_quiet_want
      refine quiet_pure (.pointer (some ⟨b, 9, none⟩)) (fun W hW => exec_fieldO 24 _ 9 b 0 9 rfl rfl (fun w => by kernel_rfl)) ?_
      go_big_quiet_on
      simp only [Act.put, List.setIfInBounds_toArray, List.set_cons_succ, List.set_cons_zero]
      go_big_quiet_want
      refine quiet_pure (.int .u32 c.rcv) (fun W hW => exec_load1 22 one32 _ rfl b 9 rfl (.int .u32 c.rcv) ((J_w1.out.later hW).cc 9 _ rfl)) ?_
      go_big_quiet_on
      simp only [Act.put, List.setIfInBounds_toArray, List.set_cons_succ, List.set_cons_zero]
      go_big_quiet_want
      refine quiet_pure (.bool false) (fun W hW => exec_neu _ _ _ _ _ _ rfl rfl rfl hd) ?_
      go_big_quiet_on
      simp only [Act.put, List.setIfInBounds_toArray, List.set_cons_succ, List.set_cons_zero]
      go_big_quiet_step (fail)
      refine wpQuiet_nil ?_
      intro wq bq
      obtain ⟨w2, hw2⟩ : ∃ w2, w2 = wq := ⟨_, rfl⟩
      rw [← hw2] at bq ⊢
      have BQ := hide (later B_w1.out bq)
      have J2 := hide (J_w1.out.later bq)
      clear bq hw2
      have x33 : w2.cell? ⟨b, 33, none⟩ = some (.int .i64 v.en) := J2.out.cv 12 _ rfl
      have f33 := J2.out.fz 33
      have x0 : w2.cell? ⟨b, 0, none⟩ = some (.int .i64 c.st) := J2.out.cc 0 _ rfl
      by_cases h2 : c.st = 2
      · go_wp2
        go_ret
        have e : R = (false, c, { v with en := 215 }) := by rw [ER.out, if_pos h, if_pos h2]
        rw [e]
        exact ⟨rfl, J2.out.setV (k := 12) (by decide) (.int .i64 215) rfl, (But.of_below (K := Only b) BQ.out).setOf (b := b) rfl 33 _⟩
      · go_wp2
        go_ret
        have e : R = (false, c, { v with en := 216 }) := by rw [ER.out, if_pos h, if_neg h2]
        rw [e]
        exact ⟨rfl, J2.out.setV (k := 12) (by decide) (.int .i64 216) rfl, (But.of_below (K := Only b) BQ.out).setOf (b := b) rfl 33 _⟩
    · have hd : (!decide (s.seq = c.rcv)) = true := by rw [decide_eq_false h]; rfl
      refine region_quiet_C (fun W => Below w1.heap.size w1 W) (by kernel_rfl) (by kernel_rfl) (later_drew _) ?_
      go_big_quiet_step (fail)
      go_big_quiet_want
      refine quiet_pure (.pointer (some ⟨b, 0, none⟩)) (fun W hW => exec_nil _ _ rfl rfl) ?_
      go_big_quiet_on
      simp only [Act.put, List.setIfInBounds_toArray, List.set_cons_succ, List.set_cons_zero]
      go_big_quiet_want
      refine quiet_pure (.pointer (some ⟨b, 11, none⟩)) (fun W hW => exec_fieldO 50 _ 1 b 0 11 rfl rfl (fun w => by kernel_rfl)) ?_
      go_big_quiet_on
      simp only [Act.put, List.setIfInBounds_toArray, List.set_cons_succ, List.set_cons_zero]
      go_big_quiet_want
      refine quiet_pure (.pointer (some ⟨b, 13, none⟩)) (fun W hW => exec_fieldO 28 _ 2 b 11 13 rfl rfl (fun w => by kernel_rfl)) ?_
      go_big_quiet_on
      simp only [Act.put, List.setIfInBounds_toArray, List.set_cons_succ, List.set_cons_zero]
      go_big_quiet_want
      refine quiet_pure (.int .u32 s.seq) (fun W hW => exec_load1 22 one32 _ rfl b 13 rfl (.int .u32 s.seq) ((J_w1.out.later hW).cs 2 _ rfl)) ?_
      go_big_quiet_on
      simp only [Act.put, List.setIfInBounds_toArray, List.set_cons_succ, List.set_cons_zero]
      go_big_quiet_step (fail)
      go_big_quiet_want
      refine quiet_pure (.pointer (some ⟨b, 0, none⟩)) (fun W hW => exec_nil _ _ rfl rfl) ?_
      go_big_quiet_on
      simp only [Act.put, List.setIfInBounds_toArray, List.set_cons_succ, List.set_cons_zero]
      go_big_quiet_want
      refine quiet_pure (.pointer (some ⟨b, 0, none⟩)) (fun W hW => exec_fieldO 50 _ 0 b 0 0 rfl rfl (fun w => by kernel_rfl)) ?_
      go_big_quiet_on
      simp only [Act.put, List.setIfInBounds_toArray, List.set_cons_succ, List.set_cons_zero]
      go_big_quiet_want
      refine quiet_pure (.pointer (some ⟨b, 9, none⟩)) (fun W hW => exec_fieldO 24 _ 9 b 0 9 rfl rfl (fun w => by kernel_rfl)) ?_
      go_big_quiet_on
      simp only [Act.put, List.setIfInBounds_toArray, List.set_cons_succ, List.set_cons_zero]
      go_big_quiet_want
      refine quiet_pure (.int .u32 c.rcv) (fun W hW => exec_load1 22 one32 _ rfl b 9 rfl (.int .u32 c.rcv) ((J_w1.out.later hW).cc 9 _ rfl)) ?_
      go_big_quiet_on
      simp only [Act.put, List.setIfInBounds_toArray, List.set_cons_succ, List.set_cons_zero]
      go_big_quiet_want
      refine quiet_pure (.bool true) (fun W hW => exec_neu _ _ _ _ _ _ rfl rfl rfl hd) ?_
      go_big_quiet_on
      simp only [Act.put, List.setIfInBounds_toArray, List.set_cons_succ, List.set_cons_zero]
      go_big_quiet_step (fail)
      refine wpQuiet_nil ?_
      intro wq bq
      obtain ⟨w2, hw2⟩ : ∃ w2, w2 = wq := ⟨_, rfl⟩
      rw [← hw2] at bq ⊢
      have BQ := hide (later B_w1.out bq)
      have J2 := hide (J_w1.out.later bq)
      clear bq hw2
      have RP := hide (reply_any J2.out 1)
      go_wp2_with fail
      refine RP.out.mono ?_
      rintro _ w3 ⟨rfl, j3, b3⟩
      have J3 := hide j3
      have B3 := hide b3
      clear j3 b3 RP
      go_wp2
      go_ret
      have e : R = (false, c, { v with rep := 1 }) := by rw [ER.out, if_neg h]
      rw [e]
      exact ⟨rfl, J3.out, (But.of_below BQ.out).trans B3.out⟩
end
section
variable {w : World} {b : Nat} {c : Ct} {s : Sg} {gv : Value} {da : Option Addr} {dc : Nat} {v : Vd}
set_option maxHeartbeats 4000000 in
theorem isAcceptable_any (J : JgAt w b c s gv (.slice da s.dat.length dc) v) (hl : s.dat.length ≤ 1125899906842624) : SD 39 b w s gv (.slice da s.dat.length dc) (fAccept c s v) := by
  unfold SD
  obtain ⟨R, hR⟩ : ∃ R, R = fAccept c s v := ⟨_, rfl⟩
  have HR := hide hR
  rw [← hR]
  have LR := liesRight_any J hl
  obtain ⟨a, ha⟩ : ∃ a, a = accB c s := ⟨_, rfl⟩
  rw [← ha] at LR
  have HLR := hide LR
  have HA := hide ha
  obtain ⟨dv, hdv⟩ : ∃ dv : Value, dv = .slice da s.dat.length dc := ⟨_, rfl⟩
  rw [← hdv] at J ⊢
  clear LR ha hdv
  obtain ⟨Z, hZ⟩ : ∃ Z, Z = s.cells gv dv := ⟨_, rfl⟩
  have LZ : Hid (Z.length = 10) := by rw [hZ]; exact rfl
  have CS : Hid (CellsAt w b 11 Z) := by rw [hZ]; exact J.cs
  have ZV := hide hZ
  obtain ⟨h4, e4⟩ : ∃ h, h = hasB s.flg 4 := ⟨_, rfl⟩
  have E4 := hide e4
  have H4 : Hid (∀ W, Calls Try.prog 30 #[.agg Z.toArray, .int .i64 4] W fun e w' => e = .returned (.bool h4) ∧ Below W.heap.size W w') := fun W => by rw [e4]; exact hasZ hZ 2 (by decide) (by decide) W
  have HJ := hide J
  clear J hZ e4 hR
  go_enter Try.func39, Try.ntmps39
  go_wp2_with fail
  refine HLR.out.mono ?_
  rintro _ w1 ⟨rfl, b1⟩
  have B1 := hide b1
  have J1 := hide (HJ.out.later b1)
  have CS1 := hide (CS.out.later HJ.out.lt b1)
  clear b1 HLR
  cases a with
  | true =>
    go_wp2
    go_ret
    have e : R = (true, c, v) := by rw [HR.out]; unfold fAccept; rw [← HA.out, if_pos rfl]
    rw [e]
    exact ⟨rfl, J1.out, But.of_below B1.out⟩
  | false =>
    have ER : Hid (R = (false, c, if h4 = true then v else { v with rep := 1 })) := by unfold Hid; rw [HR.out]; unfold fAccept; rw [← HA.out, ← E4.out, if_neg (by simp)]
    go_wp2_with (refine wpList_loadA rfl 28 10 aggSg sizSg _ rfl b 11 rfl Z LZ.out CS1.out ?_)
    refine (H4.out w1).mono ?_
    rintro _ w2 ⟨rfl, bz⟩
    have B_w2 := hide (later B1.out bz)
    have J_w2 := hide (J1.out.later bz)
    have CS_w2 := hide (CS1.out.later J1.out.lt bz)
    clear bz H4
    cases h4 with
    | true =>
      go_wp2
      go_ret
      have e : R = (false, c, v) := ER.out
      rw [e]
      exact ⟨rfl, J_w2.out, But.of_below B_w2.out⟩
    | false =>
      have RP := hide (reply_any J_w2.out 1)
      go_wp2_with fail
      refine RP.out.mono ?_
      rintro _ w3 ⟨rfl, j3, b3⟩
      have J3 := hide j3
      have B3 := hide b3
      clear j3 b3 RP
      go_wp2
      go_ret
      have e : R = (false, c, { v with rep := 1 }) := ER.out
      rw [e]
      exact ⟨rfl, J3.out, (But.of_below B_w2.out).trans B3.out⟩
end
end Go.Proofs.Ytgdcdgofahhfdaa
