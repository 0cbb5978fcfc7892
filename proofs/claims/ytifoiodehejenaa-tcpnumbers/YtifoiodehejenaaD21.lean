
/-
  TcpNumbers, TcpResets: the walks.
-/
import Derived.Test.YtifoiodehejenaaDRow
namespace Go.Proofs.Ytifoiodehejenaa
open Go.RowKit Go.Shelf
open Go.ChangeMaps (setBlock)

theorem exec_eqw {o : Oper} {w : World} {ev : Operand → Value} (x y : Operand) (t : TypeId) (a : Int) (ho : o.op = .binOp .eql 22 x y t) (hx : ev x = .int .u32 a) (hy : ev y = .int .u32 a) : (execOp ev o).run Try.prog w = .ok (.value (.bool true)) w := by
  unfold execOp
  simp [ho, hx, hy, go_sem]
theorem eqbB {o : Oper} {w : World} {ev : Operand → Value} (x y : Operand) (t : TypeId) (b : Bool) (ho : o.op = .binOp .eql 4 x y t) (hx : ev x = .bool b) (hy : ev y = .bool b) : (execOp ev o).run Try.prog w = .ok (.value (.bool true)) w := by
  unfold execOp
  simp [ho, hx, hy, go_sem]
set_option maxRecDepth 100000 in
set_option maxHeartbeats 8000000 in
theorem numbers_walk (a b m now : Int) (s : Sg) (gv dv : Value) (w : World) (a0 : 0 ≤ a) (a1 : a ≤ 4294967295) (b0 : 0 ≤ b) (b1 : b ≤ 4294967295) (m0 : -9223372036854775808 ≤ m) (m1 : m ≤ 9223372036854775807) (_ : -9223372036854775808 ≤ now) (_ : now ≤ 9223372036854775807) (hs : SgIn w s gv dv) :
    Calls Try.prog 3 #[.int .u32 a, .int .u32 b, .int .i64 m, .int .i64 now, .agg (s.cells gv dv).toArray] w fun e w' => e = .returned (.bool true) ∧ Below w.heap.size w w' := by
  obtain ⟨da, dc, rfl, _⟩ := hs.dat
  have hl := hs.datl
  obtain ⟨X, hX⟩ : ∃ X, X = s.cells gv (.slice da s.dat.length dc) := ⟨_, rfl⟩
  obtain ⟨d, hd⟩ : ∃ d, d = dif a b := ⟨_, rfl⟩
  obtain ⟨q, hq⟩ : ∃ q, q = wit a b m := ⟨_, rfl⟩
  obtain ⟨f, hf⟩ : ∃ f, f = fst32 now := ⟨_, rfl⟩
  obtain ⟨z, hz⟩ : ∃ z, z = s.size := ⟨_, rfl⟩
  have C1 : Hid (∀ W, Calls Try.prog 10 #[.int .u32 a, .int .u32 b] W fun e w' => e = .returned (.int .i64 d) ∧ w' = W) := fun W => by rw [hd]; exact Diff_any a b W
  have C2 : Hid (∀ W, Calls Try.prog 11 #[.int .u32 a, .int .u32 b] W fun e w' => e = .returned (.int .i64 d) ∧ w' = W) := fun W => by rw [hd]; exact rDiff_any a b ⟨a0, by omega⟩ ⟨b0, by omega⟩ W
  have C3 : Hid (∀ W, Calls Try.prog 12 #[.int .u32 a, .int .u32 b, .int .i64 m] W fun e w' => e = .returned (.bool q) ∧ w' = W) := fun W => by rw [hq]; exact Within_any a b m ⟨m0, m1⟩ W
  have C4 : Hid (∀ W, Calls Try.prog 13 #[.int .u32 a, .int .u32 b, .int .i64 m] W fun e w' => e = .returned (.bool q) ∧ w' = W) := fun W => by rw [hq]; exact rWithin_any a b m ⟨a0, by omega⟩ ⟨b0, by omega⟩ W
  have C5 : Hid (∀ W, Calls Try.prog 14 #[.int .i64 now] W fun e w' => e = .returned (.int .u32 f) ∧ w' = W) := fun W => by rw [hf]; exact First_any now W
  have C6 : Hid (∀ W, Calls Try.prog 15 #[.int .i64 now] W fun e w' => e = .returned (.int .u32 f) ∧ w' = W) := fun W => by rw [hf]; exact rFirst_any now W
  have C7 : Hid (∀ W, Calls Try.prog 16 #[.agg X.toArray] W fun e w' => e = .returned (.int .i64 z) ∧ Below W.heap.size W w') := fun W => by rw [hz, hX]; exact Size_any s gv da dc W (by omega)
  have C8 : Hid (∀ W, Calls Try.prog 17 #[.agg X.toArray] W fun e w' => e = .returned (.int .i64 z) ∧ Below W.heap.size W w') := fun W => by rw [hz, hX]; exact rSize_any s gv da dc W (by omega)
  have LX : Hid (X.length = 10) := by rw [hX]; exact rfl
  have AW := hide (fun W => tAwake_any W)
  obtain ⟨w1, bx, hs1, hw1, c1, f1, B1, l1⟩ := boxS w s gv (.slice da s.dat.length dc)
  rw [← hX] at c1 ⊢
  have CX := hide c1
  have EX : X.toArray = #[.int .i64 s.src, .int .i64 s.dst, .int .u32 s.seq, .int .u32 s.ack, .int .i64 s.flg, .int .i64 s.wnd, .int .i64 s.mss, .bool s.sak, gv, .slice da s.dat.length dc] := by rw [hX]; rfl
  rw [← EX] at hw1
  have hs' := hs1.symm
  have hw' := hw1.symm
  have HB1 := hide B1
  clear hs1 hw1 c1 f1 B1 hX hd hq hf hz EX hl hs
  go_enter Try.func3, Try.ntmps3
  go_upto_region 1 with fail
  go_wp2_with fail
  refine (AW.out w1).mono ?_
  rintro _ w2 ⟨rfl, b2⟩
  have HB2 := hide (later HB1.out b2)
  have CX2 := hide (CX.out.later l1 b2)
  have l2 : bx < w2.heap.size := Nat.lt_of_lt_of_le l1 b2.size
  clear b2 CX HB1 AW hs' hw'
  go_upto_region 2 with fail
  refine region_quiet_C (fun W => Below w2.heap.size w2 W) (by kernel_rfl) (by kernel_rfl) (later_drew _) ?_
  go_big_quiet_step (fail)
  go_big_quiet_step (fail)
  go_big_quiet_step (fail)
  go_big_quiet_step (fail)
  go_big_quiet_want
  refine quiet_call 10 #[.int .u32 a, .int .u32 b] (.int .i64 d) (fun _ => by simp [Act.eval, go_sem]) (fun W hW => (C1.out W).mono fun e w' h => ⟨h.1, h.2 ▸ hW⟩) ?_
  go_big_quiet_on
  simp only [Act.put, List.setIfInBounds_toArray, List.set_cons_succ, List.set_cons_zero]
  go_big_quiet_step (fail)
  go_big_quiet_step (fail)
  go_big_quiet_want
  refine quiet_call 11 #[.int .u32 a, .int .u32 b] (.int .i64 d) (fun _ => by simp [Act.eval, go_sem]) (fun W hW => (C2.out W).mono fun e w' h => ⟨h.1, h.2 ▸ hW⟩) ?_
  go_big_quiet_on
  simp only [Act.put, List.setIfInBounds_toArray, List.set_cons_succ, List.set_cons_zero]
  go_big_quiet_want
  refine quiet_pure (.bool true) (fun W hW => exec_eqi _ _ _ d d true rfl rfl rfl (by simp)) ?_
  go_big_quiet_on
  simp only [Act.put, List.setIfInBounds_toArray, List.set_cons_succ, List.set_cons_zero]
  go_big_quiet_want
  refine quiet_pure (.bool true) (fun W hW => exec_pick _ _ _ true _ rfl rfl rfl) ?_
  go_big_quiet_on
  simp only [Act.put, List.setIfInBounds_toArray, List.set_cons_succ, List.set_cons_zero]
  go_big_quiet_step (fail)
  go_big_quiet_step (fail)
  go_big_quiet_step (fail)
  go_big_quiet_step (fail)
  go_big_quiet_want
  refine quiet_call 12 #[.int .u32 a, .int .u32 b, .int .i64 m] (.bool q) (fun _ => by simp [Act.eval, go_sem]) (fun W hW => (C3.out W).mono fun e w' h => ⟨h.1, h.2 ▸ hW⟩) ?_
  go_big_quiet_on
  simp only [Act.put, List.setIfInBounds_toArray, List.set_cons_succ, List.set_cons_zero]
  go_big_quiet_step (fail)
  go_big_quiet_step (fail)
  go_big_quiet_step (fail)
  go_big_quiet_want
  refine quiet_call 13 #[.int .u32 a, .int .u32 b, .int .i64 m] (.bool q) (fun _ => by simp [Act.eval, go_sem]) (fun W hW => (C4.out W).mono fun e w' h => ⟨h.1, h.2 ▸ hW⟩) ?_
  go_big_quiet_on
  simp only [Act.put, List.setIfInBounds_toArray, List.set_cons_succ, List.set_cons_zero]
  go_big_quiet_want
  refine quiet_pure (.bool true) (fun W hW => eqbB _ _ _ q rfl rfl rfl) ?_
  go_big_quiet_on
  simp only [Act.put, List.setIfInBounds_toArray, List.set_cons_succ, List.set_cons_zero]
  go_big_quiet_want
  refine quiet_pure (.bool true) (fun W hW => exec_pick _ _ _ true _ rfl rfl rfl) ?_
  go_big_quiet_on
  simp only [Act.put, List.setIfInBounds_toArray, List.set_cons_succ, List.set_cons_zero]
  go_big_quiet_step (fail)
  go_big_quiet_step (fail)
  go_big_quiet_want
  refine quiet_call 14 #[.int .i64 now] (.int .u32 f) (fun _ => by simp [Act.eval, go_sem]) (fun W hW => (C5.out W).mono fun e w' h => ⟨h.1, h.2 ▸ hW⟩) ?_
  go_big_quiet_on
  simp only [Act.put, List.setIfInBounds_toArray, List.set_cons_succ, List.set_cons_zero]
  go_big_quiet_step (fail)
  go_big_quiet_want
  refine quiet_call 15 #[.int .i64 now] (.int .u32 f) (fun _ => by simp [Act.eval, go_sem]) (fun W hW => (C6.out W).mono fun e w' h => ⟨h.1, h.2 ▸ hW⟩) ?_
  go_big_quiet_on
  simp only [Act.put, List.setIfInBounds_toArray, List.set_cons_succ, List.set_cons_zero]
  go_big_quiet_want
  refine quiet_pure (.bool true) (fun W hW => exec_eqw _ _ _ f rfl rfl rfl) ?_
  go_big_quiet_on
  simp only [Act.put, List.setIfInBounds_toArray, List.set_cons_succ, List.set_cons_zero]
  go_big_quiet_want
  refine quiet_pure (.bool true) (fun W hW => exec_pick _ _ _ true _ rfl rfl rfl) ?_
  go_big_quiet_on
  simp only [Act.put, List.setIfInBounds_toArray, List.set_cons_succ, List.set_cons_zero]
  go_big_quiet_step (fail)
  go_big_quiet_want
  refine quiet_pure (.agg X.toArray) (fun W hW => exec_loadA 26 10 aggSg sizSg _ rfl bx 0 rfl X LX.out (CX2.out.later l2 hW)) ?_
  go_big_quiet_on
  simp only [Act.put, List.setIfInBounds_toArray, List.set_cons_succ, List.set_cons_zero]
  go_big_quiet_want
  refine quiet_call 16 #[.agg X.toArray] (.int .i64 z) (fun _ => by simp [Act.eval, go_sem]) (fun W hW => (C7.out W).mono fun e w' h => ⟨h.1, later hW h.2⟩) ?_
  go_big_quiet_on
  simp only [Act.put, List.setIfInBounds_toArray, List.set_cons_succ, List.set_cons_zero]
  go_big_quiet_want
  refine quiet_pure (.agg X.toArray) (fun W hW => exec_loadA 26 10 aggSg sizSg _ rfl bx 0 rfl X LX.out (CX2.out.later l2 hW)) ?_
  go_big_quiet_on
  simp only [Act.put, List.setIfInBounds_toArray, List.set_cons_succ, List.set_cons_zero]
  go_big_quiet_want
  refine quiet_call 17 #[.agg X.toArray] (.int .i64 z) (fun _ => by simp [Act.eval, go_sem]) (fun W hW => (C8.out W).mono fun e w' h => ⟨h.1, later hW h.2⟩) ?_
  go_big_quiet_on
  simp only [Act.put, List.setIfInBounds_toArray, List.set_cons_succ, List.set_cons_zero]
  go_big_quiet_want
  refine quiet_pure (.bool true) (fun W hW => exec_eqi _ _ _ z z true rfl rfl rfl (by simp)) ?_
  go_big_quiet_on
  simp only [Act.put, List.setIfInBounds_toArray, List.set_cons_succ, List.set_cons_zero]
  go_big_quiet_want
  refine quiet_pure (.bool true) (fun W hW => exec_pick _ _ _ true _ rfl rfl rfl) ?_
  go_big_quiet_on
  simp only [Act.put, List.setIfInBounds_toArray, List.set_cons_succ, List.set_cons_zero]
  go_big_quiet_step (fail)
  refine wpQuiet_nil ?_
  intro wq bq
  have BQ := hide (later HB2.out bq)
  clear bq
  go_wp2
  go_ret
  exact ⟨rfl, BQ.out⟩
end Go.Proofs.Ytifoiodehejenaa
