
/-
  Package core: what is judged: the smallest methods.
-/
import Derived.Test.YtgdcdgofahhfdaaO1
namespace Go.Proofs.Ytgdcdgofahhfdaa
open Go.RowKit Go.Shelf

/-- the numbers that are wanted -/
def win (c : Ct) : Int := dif c.adv c.rcv
def wanted (c : Ct) (n : Int) : Bool := wit n c.rcv (win c)
theorem dif_in (a b : Int) : -2147483648 ≤ dif a b ∧ dif a b < 2147483648 := by
  unfold dif
  split <;> omega
theorem win_in (c : Ct) : i64In (win c) := by
  have := dif_in c.adv c.rcv
  unfold win i64In
  omega
section
variable {w : World} {b : Nat} {c : Ct} {s : Sg} {gv dv : Value} {v : Vd}
theorem reply_any (J : JgAt w b c s gv dv v) (n : Int) : Calls Try.prog 48 #[.pointer (some ⟨b, 0, none⟩), .int .i64 n] w fun e w' => e = .returned (.bool false) ∧ JgAt w' b c s gv dv { v with rep := n } ∧ But (Only b) w w' := by
  have x : w.cell? ⟨b, 32, none⟩ = some (.int .i64 v.rep) := J.cv 11 _ rfl
  have f := J.fz 32
  have HJ := hide J
  clear J
  go_enter Try.func48, Try.ntmps48
  go_wp2
  go_ret
  exact ⟨rfl, HJ.out.setV (k := 11) (by decide) (.int .i64 n) rfl, (But.refl (Only b) w).setOf rfl 32 _⟩
theorem acknowledge_any (J : JgAt w b c s gv dv v) : Calls Try.prog 49 #[.pointer (some ⟨b, 0, none⟩)] w fun e w' => e = .returned (.tuple #[]) ∧ JgAt w' b { c with una := s.ack } s gv dv { v with ack := true } ∧ But (Only b) w w' := by
  have x1 : w.cell? ⟨b, 14, none⟩ = some (.int .u32 s.ack) := J.cs 3 _ rfl
  have x2 : w.cell? ⟨b, 2, none⟩ = some (.int .u32 c.una) := J.cc 2 _ rfl
  have x3 : w.cell? ⟨b, 34, none⟩ = some (.bool v.ack) := J.cv 13 _ rfl
  have f2 := J.fz 2
  have f3 := J.fz 34
  have HJ := hide J
  clear J
  go_enter Try.func49, Try.ntmps49
  go_wp2
  go_end0
  exact ⟨rfl, (HJ.out.setC (k := 2) (c' := { c with una := s.ack }) (by decide) (.int .u32 s.ack) rfl).setV (k := 13) (by decide) (.bool true) rfl, ((But.refl (Only b) w).setOf rfl 2 _).setOf rfl 34 _⟩
theorem letSend_any (J : JgAt w b c s gv dv v) : Calls Try.prog 53 #[.pointer (some ⟨b, 0, none⟩)] w fun e w' => e = .returned (.tuple #[]) ∧ JgAt w' b { c with wnd := s.wnd, wl1 := s.seq, wl2 := s.ack } s gv dv v ∧ But (Only b) w w' := by
  have x1 : w.cell? ⟨b, 16, none⟩ = some (.int .i64 s.wnd) := J.cs 5 _ rfl
  have x2 : w.cell? ⟨b, 13, none⟩ = some (.int .u32 s.seq) := J.cs 2 _ rfl
  have x3 : w.cell? ⟨b, 14, none⟩ = some (.int .u32 s.ack) := J.cs 3 _ rfl
  have y1 : w.cell? ⟨b, 5, none⟩ = some (.int .i64 c.wnd) := J.cc 5 _ rfl
  have y2 : w.cell? ⟨b, 6, none⟩ = some (.int .u32 c.wl1) := J.cc 6 _ rfl
  have y3 : w.cell? ⟨b, 7, none⟩ = some (.int .u32 c.wl2) := J.cc 7 _ rfl
  have f1 := J.fz 5
  have f2 := J.fz 6
  have f3 := J.fz 7
  have HJ := hide J
  clear J
  go_enter Try.func53, Try.ntmps53
  go_wp2
  go_end0
  exact ⟨rfl, ((HJ.out.setC (k := 5) (c' := { c with wnd := s.wnd }) (by decide) _ rfl).setC (k := 6) (c' := { c with wnd := s.wnd, wl1 := s.seq }) (by decide) _ rfl).setC (k := 7) (by decide) _ rfl, (((But.refl (Only b) w).setOf rfl 5 _).setOf rfl 6 _).setOf rfl 7 _⟩
theorem window_any (J : JgAt w b c s gv dv v) : Calls Try.prog 57 #[.pointer (some ⟨b, 0, none⟩)] w fun e w' => e = .returned (.int .i64 (win c)) ∧ Below w.heap.size w w' := by
  have HJ := hide J
  clear J
  go_enter Try.func57, Try.ntmps57
  go_upto_region 1 with fail
  refine region_quiet_C (fun W => Below w.heap.size w W) (by kernel_rfl) (by kernel_rfl) (later_drew _) ?_
  go_big_quiet_step (fail)
  go_big_quiet_want
  refine quiet_pure (.pointer (some ⟨b, 0, none⟩)) (fun W hW => exec_nil _ _ rfl rfl) ?_
  go_big_quiet_on
  simp only [Act.put, List.setIfInBounds_toArray, List.set_cons_succ, List.set_cons_zero]
  go_big_quiet_want
  refine quiet_pure (.pointer (some ⟨b, 0, none⟩)) (fun W hW => exec_fieldO 50 _ 0 b 0 0 rfl rfl (fun w => by kernel_rfl)) ?_
  go_big_quiet_on
  simp only [Act.put, List.setIfInBounds_toArray, List.set_cons_succ, List.set_cons_zero]
  go_big_quiet_want
  refine quiet_pure (.pointer (some ⟨b, 10, none⟩)) (fun W hW => exec_fieldO 24 _ 10 b 0 10 rfl rfl (fun w => by kernel_rfl)) ?_
  go_big_quiet_on
  simp only [Act.put, List.setIfInBounds_toArray, List.set_cons_succ, List.set_cons_zero]
  go_big_quiet_want
  refine quiet_pure (.int .u32 c.adv) (fun W hW => exec_load1 22 one32 _ rfl b 10 rfl (.int .u32 c.adv) ((HJ.out.later hW).cc 10 _ rfl)) ?_
  go_big_quiet_on
  simp only [Act.put, List.setIfInBounds_toArray, List.set_cons_succ, List.set_cons_zero]
  go_big_quiet_step (fail)
  go_big_quiet_want
  refine quiet_pure (.pointer (some ⟨b, 0, none⟩)) (fun W hW => exec_nil _ _ rfl rfl) ?_
  go_big_quiet_on
  simp only [Act.put, List.setIfInBounds_toArray, List.set_cons_succ, List.set_cons_zero]
  go_big_quiet_want
  refine quiet_pure (.pointer (some ⟨b, 0, none⟩)) (fun W hW => exec_fieldO 50 _ 0 b 0 0 rfl rfl (fun w => by kernel_rfl)) ?_
  go_big_quiet_on
  simp only [Act.put, List.setIfInBounds_toArray, List.set_cons_succ, List.set_cons_zero]
  go_big_quiet_want
  refine quiet_pure (.pointer (some ⟨b, 9, none⟩)) (fun W hW => exec_fieldO 24 _ 9 b 0 9 rfl rfl (fun w => by kernel_rfl)) ?_
  go_big_quiet_on
  simp only [Act.put, List.setIfInBounds_toArray, List.set_cons_succ, List.set_cons_zero]
  go_big_quiet_want
  refine quiet_pure (.int .u32 c.rcv) (fun W hW => exec_load1 22 one32 _ rfl b 9 rfl (.int .u32 c.rcv) ((HJ.out.later hW).cc 9 _ rfl)) ?_
  go_big_quiet_on
  simp only [Act.put, List.setIfInBounds_toArray, List.set_cons_succ, List.set_cons_zero]
  go_big_quiet_want
  refine quiet_call 47 #[.int .u32 c.adv, .int .u32 c.rcv] (.int .i64 (dif c.adv c.rcv)) (fun _ => by simp [Act.eval, go_sem]) (fun W hW => (Diff_any c.adv c.rcv W).mono fun e w' h => ⟨h.1, by rw [h.2]; exact hW⟩) ?_
  go_big_quiet_on
  simp only [Act.put, List.setIfInBounds_toArray, List.set_cons_succ, List.set_cons_zero]
  go_big_quiet_step (fail)
  refine wpQuiet_nil ?_
  intro wq bq
  have BQ := hide bq
  clear bq
  go_wp2
  go_ret
  exact ⟨rfl, BQ.out⟩
theorem isWanted_any (J : JgAt w b c s gv dv v) (n : Int) : Calls Try.prog 56 #[.pointer (some ⟨b, 0, none⟩), .int .u32 n] w fun e w' => e = .returned (.bool (wanted c n)) ∧ Below w.heap.size w w' := by
  have HJ := hide J
  clear J
  go_enter Try.func56, Try.ntmps56
  go_upto_region 1 with fail
  refine region_quiet_C (fun W => Below w.heap.size w W) (by kernel_rfl) (by kernel_rfl) (later_drew _) ?_
  go_big_quiet_step (fail)
  go_big_quiet_step (fail)
  go_big_quiet_want
  refine quiet_pure (.pointer (some ⟨b, 0, none⟩)) (fun W hW => exec_nil _ _ rfl rfl) ?_
  go_big_quiet_on
  simp only [Act.put, List.setIfInBounds_toArray, List.set_cons_succ, List.set_cons_zero]
  go_big_quiet_want
  refine quiet_pure (.pointer (some ⟨b, 0, none⟩)) (fun W hW => exec_fieldO 50 _ 0 b 0 0 rfl rfl (fun w => by kernel_rfl)) ?_
  go_big_quiet_on
  simp only [Act.put, List.setIfInBounds_toArray, List.set_cons_succ, List.set_cons_zero]
  go_big_quiet_want
  refine quiet_pure (.pointer (some ⟨b, 9, none⟩)) (fun W hW => exec_fieldO 24 _ 9 b 0 9 rfl rfl (fun w => by kernel_rfl)) ?_
  go_big_quiet_on
  simp only [Act.put, List.setIfInBounds_toArray, List.set_cons_succ, List.set_cons_zero]
  go_big_quiet_want
  refine quiet_pure (.int .u32 c.rcv) (fun W hW => exec_load1 22 one32 _ rfl b 9 rfl (.int .u32 c.rcv) ((HJ.out.later hW).cc 9 _ rfl)) ?_
  go_big_quiet_on
  simp only [Act.put, List.setIfInBounds_toArray, List.set_cons_succ, List.set_cons_zero]
  go_big_quiet_step (fail)
  go_big_quiet_want
  refine quiet_call 57 #[.pointer (some ⟨b, 0, none⟩)] (.int .i64 (win c)) (fun _ => by simp [Act.eval, go_sem]) (fun W hW => (window_any (HJ.out.later hW)).mono fun e w' h => ⟨h.1, later hW h.2⟩) ?_
  go_big_quiet_on
  simp only [Act.put, List.setIfInBounds_toArray, List.set_cons_succ, List.set_cons_zero]
  go_big_quiet_want
  refine quiet_call 61 #[.int .u32 n, .int .u32 c.rcv, .int .i64 (win c)] (.bool (wit n c.rcv (win c))) (fun _ => by simp [Act.eval, go_sem]) (fun W hW => (Within_any n c.rcv (win c) (win_in c) W).mono fun e w' h => ⟨h.1, by rw [h.2]; exact hW⟩) ?_
  go_big_quiet_on
  simp only [Act.put, List.setIfInBounds_toArray, List.set_cons_succ, List.set_cons_zero]
  go_big_quiet_step (fail)
  refine wpQuiet_nil ?_
  intro wq bq
  have BQ := hide bq
  clear bq
  go_wp2
  go_ret
  exact ⟨rfl, BQ.out⟩
end
end Go.Proofs.Ytgdcdgofahhfdaa
