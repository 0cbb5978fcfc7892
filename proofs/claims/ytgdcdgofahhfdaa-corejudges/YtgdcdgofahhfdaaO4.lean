
/-
  Package core: what is taken of a segment.
-/
import Derived.Test.YtgdcdgofahhfdaaO3
namespace Go.Proofs.Ytgdcdgofahhfdaa
open Go.RowKit Go.Shelf

theorem exec_subi {o : Oper} {w : World} {ev : Operand → Value} (x y : Operand) (t : TypeId) (a b : Int) (ho : o.op = .binOp .sub 3 x y t) (hx : ev x = .int .i64 a) (hy : ev y = .int .i64 b) (h0 : 0 ≤ a - b) (h1 : a - b < 9223372036854775808) : (execOp ev o).run Try.prog w = .ok (.value (.int .i64 (a - b))) w := by
  unfold execOp
  simp [ho, hx, hy, go_sem]
  rw [IntKind.wrap_i64]
  omega
def skp (c : Ct) (s : Sg) : Int := lim (dif c.rcv s.seq) s.dat.length
def tkn (c : Ct) (s : Sg) : Int := lim (dif c.adv ((s.seq + skp c s) % 4294967296)) (s.dat.length - skp c s)
def finB (c : Ct) (s : Sg) : Bool := hasB s.flg 1 && (decide (skp c s + tkn c s = s.dat.length) && wanted c ((s.seq + s.dat.length) % 4294967296))
theorem lim_in {n m : Int} (h : 0 ≤ m) : 0 ≤ lim n m ∧ lim n m ≤ m := by
  unfold lim
  omega
section
variable {w : World} {b : Nat} {c : Ct} {s : Sg} {gv : Value} {da : Option Addr} {dc : Nat} {v : Vd}
set_option maxHeartbeats 4000000 in
theorem take_any (J : JgAt w b c s gv (.slice da s.dat.length dc) v) (hl : s.dat.length ≤ 1125899906842624) : Calls Try.prog 54 #[.pointer (some ⟨b, 0, none⟩)] w fun e w' => e = .returned (.tuple #[]) ∧ JgAt w' b c s gv (.slice da s.dat.length dc) { v with sk := skp c s, tk := tkn c s, fin := finB c s } ∧ But (Only b) w w' := by
  have HJ := hide J
  have x20 : w.cell? ⟨b, 20, none⟩ = some (.slice da s.dat.length dc) := J.cs 9 _ rfl
  obtain ⟨n, hn⟩ : ∃ n, n = s.dat.length := ⟨_, rfl⟩
  obtain ⟨k, hk⟩ : ∃ k, k = skp c s := ⟨_, rfl⟩
  obtain ⟨t, ht⟩ : ∃ t, t = tkn c s := ⟨_, rfl⟩
  have K1 := lim_in (n := dif c.rcv s.seq) (show 0 ≤ (s.dat.length : Int) by omega)
  have K2 : 0 ≤ t ∧ t ≤ (n : Int) - k := by rw [ht, hn, hk]; exact lim_in (by have := K1.2; unfold skp; omega)
  have K1 : 0 ≤ k ∧ k ≤ (n : Int) := by rw [hk, hn]; exact K1
  have EK : Hid (k = lim (dif c.rcv s.seq) n) := by rw [hk, hn]; exact rfl
  have ET : Hid (t = lim (dif c.adv ((s.seq + k) % 4294967296)) (n - k)) := by rw [ht, hn, hk]; exact rfl
  have EF : Hid (finB c s = (hasB s.flg 1 && (decide (k + t = n) && wanted c ((s.seq + n) % 4294967296)))) := by rw [ht, hn, hk]; exact rfl
  rw [← hk, ← ht, EF.out]
  rw [← hn] at HJ x20 hl ⊢
  obtain ⟨f1, hf1⟩ : ∃ f1, f1 = hasB s.flg 1 := ⟨_, rfl⟩
  obtain ⟨f2, hf2⟩ : ∃ f2, f2 = wanted c ((s.seq + n) % 4294967296) := ⟨_, rfl⟩
  rw [← hf1, ← hf2]
  have HF1 := hide hf1
  have HF2 := hide hf2
  have HN := hide hn
  have zn : (n : Int) ≤ 1125899906842624 := by omega
  obtain ⟨k0, k1⟩ := K1
  obtain ⟨t0, t1⟩ := K2
  clear J EF hf1 hf2 hk ht hn
  go_enter Try.func54, Try.ntmps54
  go_upto_region 1 with fail
  clear x20
  refine region_quiet_C (fun W => Below w.heap.size w W) (by kernel_rfl) (by kernel_rfl) (later_drew _) ?_
  go_big_quiet_step (fail)
  go_big_quiet_want
  refine quiet_pure (.pointer (some ⟨b, 0, none⟩)) (fun W hW => exec_nil _ _ rfl rfl) ?_
  go_big_quiet_on
  simp only [Act.put, List.setIfInBounds_toArray, List.set_cons_succ, List.set_cons_zero]
  go_big_quiet_want
  refine quiet_pure (.pointer (some ⟨b, 0, none⟩)) (fun W hW => exec_fieldO 50 _ 0 b 0 0 rfl rfl (fun w => by kernel_rfl)) ?_
  go_big_quiet_on
  simp only [Act.put, List.setIfInBounds_toArray, List.set_cons_succ, List.set_cons_zero]
  go_big_quiet_want
  refine quiet_pure (.pointer (some ⟨b, 9, none⟩)) (fun W hW => exec_fieldO 24 _ 9 b 0 9 rfl rfl (fun w => by kernel_rfl)) ?_
  go_big_quiet_on
  simp only [Act.put, List.setIfInBounds_toArray, List.set_cons_succ, List.set_cons_zero]
  go_big_quiet_want
  refine quiet_pure (.int .u32 c.rcv) (fun W hW => exec_load1 22 one32 _ rfl b 9 rfl (.int .u32 c.rcv) ((HJ.out.later hW).cc 9 _ rfl)) ?_
  go_big_quiet_on
  simp only [Act.put, List.setIfInBounds_toArray, List.set_cons_succ, List.set_cons_zero]
  go_big_quiet_step (fail)
  go_big_quiet_want
  refine quiet_pure (.pointer (some ⟨b, 0, none⟩)) (fun W hW => exec_nil _ _ rfl rfl) ?_
  go_big_quiet_on
  simp only [Act.put, List.setIfInBounds_toArray, List.set_cons_succ, List.set_cons_zero]
  go_big_quiet_want
  refine quiet_pure (.pointer (some ⟨b, 11, none⟩)) (fun W hW => exec_fieldO 50 _ 1 b 0 11 rfl rfl (fun w => by kernel_rfl)) ?_
  go_big_quiet_on
  simp only [Act.put, List.setIfInBounds_toArray, List.set_cons_succ, List.set_cons_zero]
  go_big_quiet_want
  refine quiet_pure (.pointer (some ⟨b, 13, none⟩)) (fun W hW => exec_fieldO 28 _ 2 b 11 13 rfl rfl (fun w => by kernel_rfl)) ?_
  go_big_quiet_on
  simp only [Act.put, List.setIfInBounds_toArray, List.set_cons_succ, List.set_cons_zero]
  go_big_quiet_want
  refine quiet_pure (.int .u32 s.seq) (fun W hW => exec_load1 22 one32 _ rfl b 13 rfl (.int .u32 s.seq) ((HJ.out.later hW).cs 2 _ rfl)) ?_
  go_big_quiet_on
  simp only [Act.put, List.setIfInBounds_toArray, List.set_cons_succ, List.set_cons_zero]
  go_big_quiet_want
  refine quiet_call 47 #[.int .u32 c.rcv, .int .u32 s.seq] (.int .i64 (dif c.rcv s.seq)) (fun _ => by simp [Act.eval, go_sem]) (fun W hW => (Diff_any c.rcv s.seq W).mono fun e w' h => ⟨h.1, by rw [h.2]; exact hW⟩) ?_
  go_big_quiet_on
  simp only [Act.put, List.setIfInBounds_toArray, List.set_cons_succ, List.set_cons_zero]
  go_big_quiet_step (fail)
  go_big_quiet_want
  refine quiet_call 59 #[.int .i64 (dif c.rcv s.seq), .int .i64 (n : Int)] (.int .i64 k) (fun _ => by simp [Act.eval, go_sem]) (fun W hW => (limited_any (dif c.rcv s.seq) n W).mono fun e w' h => ⟨by rw [EK.out]; exact h.1, by rw [h.2]; exact hW⟩) ?_
  go_big_quiet_on
  simp only [Act.put, List.setIfInBounds_toArray, List.set_cons_succ, List.set_cons_zero]
  go_big_quiet_step (fail)
  refine wpQuiet_nil ?_
  intro wq bq
  have B1 := hide bq
  have HJ1 := hide (HJ.out.later bq)
  obtain ⟨w1, hw1⟩ : ∃ w1, w1 = wq := ⟨_, rfl⟩
  rw [← hw1] at B1 HJ1 ⊢
  clear bq hw1
  go_upto_region 2 with fail
  refine region_quiet_C (fun W => Below w1.heap.size w1 W) (by kernel_rfl) (by kernel_rfl) (later_drew _) ?_
  go_big_quiet_step (fail)
  go_big_quiet_want
  refine quiet_pure (.pointer (some ⟨b, 0, none⟩)) (fun W hW => exec_nil _ _ rfl rfl) ?_
  go_big_quiet_on
  simp only [Act.put, List.setIfInBounds_toArray, List.set_cons_succ, List.set_cons_zero]
  go_big_quiet_want
  refine quiet_pure (.pointer (some ⟨b, 0, none⟩)) (fun W hW => exec_fieldO 50 _ 0 b 0 0 rfl rfl (fun w => by kernel_rfl)) ?_
  go_big_quiet_on
  simp only [Act.put, List.setIfInBounds_toArray, List.set_cons_succ, List.set_cons_zero]
  go_big_quiet_want
  refine quiet_pure (.pointer (some ⟨b, 10, none⟩)) (fun W hW => exec_fieldO 24 _ 10 b 0 10 rfl rfl (fun w => by kernel_rfl)) ?_
  go_big_quiet_on
  simp only [Act.put, List.setIfInBounds_toArray, List.set_cons_succ, List.set_cons_zero]
  go_big_quiet_want
  refine quiet_pure (.int .u32 c.adv) (fun W hW => exec_load1 22 one32 _ rfl b 10 rfl (.int .u32 c.adv) ((HJ1.out.later hW).cc 10 _ rfl)) ?_
  go_big_quiet_on
  simp only [Act.put, List.setIfInBounds_toArray, List.set_cons_succ, List.set_cons_zero]
  go_big_quiet_step (fail)
  go_big_quiet_want
  refine quiet_pure (.pointer (some ⟨b, 0, none⟩)) (fun W hW => exec_nil _ _ rfl rfl) ?_
  go_big_quiet_on
  simp only [Act.put, List.setIfInBounds_toArray, List.set_cons_succ, List.set_cons_zero]
  go_big_quiet_want
  refine quiet_pure (.pointer (some ⟨b, 11, none⟩)) (fun W hW => exec_fieldO 50 _ 1 b 0 11 rfl rfl (fun w => by kernel_rfl)) ?_
  go_big_quiet_on
  simp only [Act.put, List.setIfInBounds_toArray, List.set_cons_succ, List.set_cons_zero]
  go_big_quiet_want
  refine quiet_pure (.pointer (some ⟨b, 13, none⟩)) (fun W hW => exec_fieldO 28 _ 2 b 11 13 rfl rfl (fun w => by kernel_rfl)) ?_
  go_big_quiet_on
  simp only [Act.put, List.setIfInBounds_toArray, List.set_cons_succ, List.set_cons_zero]
  go_big_quiet_want
  refine quiet_pure (.int .u32 s.seq) (fun W hW => exec_load1 22 one32 _ rfl b 13 rfl (.int .u32 s.seq) ((HJ1.out.later hW).cs 2 _ rfl)) ?_
  go_big_quiet_on
  simp only [Act.put, List.setIfInBounds_toArray, List.set_cons_succ, List.set_cons_zero]
  go_big_quiet_step (fail)
  go_big_quiet_want
  refine quiet_pure (.int .u32 (k % 4294967296)) (fun W hW => exec_cv32 _ _ rfl rfl) ?_
  go_big_quiet_on
  simp only [Act.put, List.setIfInBounds_toArray, List.set_cons_succ, List.set_cons_zero]
  go_big_quiet_want
  refine quiet_pure (.int .u32 ((s.seq + k % 4294967296) % 4294967296)) (fun W hW => exec_addu _ _ _ _ _ rfl rfl rfl) ?_
  go_big_quiet_on
  simp only [Act.put, List.setIfInBounds_toArray, List.set_cons_succ, List.set_cons_zero]
  go_big_quiet_want
  refine quiet_call 47 #[.int .u32 c.adv, .int .u32 ((s.seq + k % 4294967296) % 4294967296)] (.int .i64 (dif c.adv ((s.seq + k) % 4294967296))) (fun _ => by simp [Act.eval, go_sem]) (fun W hW => by rw [show (s.seq + k % 4294967296) % 4294967296 = (s.seq + k) % 4294967296 by omega]; exact (Diff_any c.adv _ W).mono fun e w' h => ⟨h.1, by rw [h.2]; exact hW⟩) ?_
  go_big_quiet_on
  simp only [Act.put, List.setIfInBounds_toArray, List.set_cons_succ, List.set_cons_zero]
  go_big_quiet_step (fail)
  go_big_quiet_step (fail)
  go_big_quiet_want
  refine quiet_pure (.int .i64 ((n : Int) - k)) (fun W hW => exec_subi _ _ _ _ _ rfl rfl rfl (by omega) (by omega)) ?_
  go_big_quiet_on
  simp only [Act.put, List.setIfInBounds_toArray, List.set_cons_succ, List.set_cons_zero]
  go_big_quiet_want
  refine quiet_call 59 #[.int .i64 (dif c.adv ((s.seq + k) % 4294967296)), .int .i64 ((n : Int) - k)] (.int .i64 t) (fun _ => by simp [Act.eval, go_sem]) (fun W hW => (limited_any (dif c.adv ((s.seq + k) % 4294967296)) ((n : Int) - k) W).mono fun e w' h => ⟨by rw [ET.out]; exact h.1, by rw [h.2]; exact hW⟩) ?_
  go_big_quiet_on
  simp only [Act.put, List.setIfInBounds_toArray, List.set_cons_succ, List.set_cons_zero]
  go_big_quiet_step (fail)
  refine wpQuiet_nil ?_
  intro wq bq
  have B2 := hide (later B1.out bq)
  have HJ2 := hide (HJ1.out.later bq)
  have x36 : wq.cell? ⟨b, 36, none⟩ = some (.int .i64 v.sk) := HJ2.out.cv 15 _ rfl
  have x37 : wq.cell? ⟨b, 37, none⟩ = some (.int .i64 v.tk) := HJ2.out.cv 16 _ rfl
  have f36 := HJ2.out.fz 36
  have f37 := HJ2.out.fz 37
  clear bq
  obtain ⟨w3, hw3⟩ : ∃ w3, w3 = (wq.setCell ⟨b, 36, none⟩ (.int .i64 k)).setCell ⟨b, 37, none⟩ (.int .i64 t) := ⟨_, rfl⟩
  have HJ3 : Hid (JgAt w3 b c s gv (.slice da n dc) { v with sk := k, tk := t }) := by
    rw [hw3]
    exact (HJ2.out.setV (k := 15) (v' := { v with sk := k }) (by decide) (.int .i64 k) rfl).setV (k := 16) (by decide) (.int .i64 t) rfl
  have B3 : Hid (But (Only b) w w3) := by
    rw [hw3]
    exact ((But.of_below (K := Only b) B2.out).setOf (b := b) rfl 36 _).setOf (b := b) rfl 37 _
  have hw3' := hw3.symm
  clear hw3
  obtain ⟨Z, hZ⟩ : ∃ Z, Z = s.cells gv (.slice da n dc) := ⟨_, rfl⟩
  have LZ : Hid (Z.length = 10) := by rw [hZ]; exact rfl
  have CS : Hid (CellsAt w3 b 11 Z) := by rw [hZ]; exact HJ3.out.cs
  have CH := cHas_any s gv (.slice da n dc) 0 (by decide) w3
  rw [← hZ, show ((2 ^ 0 : Nat) : Int) = 1 from rfl, ← HF1.out] at CH
  have HCH := hide CH
  clear hZ CH HJ2 B2 HJ1 B1 HJ
  go_upto_region 4 with fail
  clear x36 x37 f36 f37 hw3'
  go_wp2_with (refine wpList_loadA rfl 28 10 aggSg sizSg _ rfl b 11 rfl Z LZ.out CS.out ?_)
  refine HCH.out.mono ?_
  rintro _ w4 ⟨rfl, b4⟩
  have HJ4 := hide (HJ3.out.later b4)
  have B4 := hide (B3.out.after b4)
  have x38 : w4.cell? ⟨b, 38, none⟩ = some (.bool v.fin) := HJ4.out.cv 17 _ rfl
  have x13 : w4.cell? ⟨b, 13, none⟩ = some (.int .u32 s.seq) := HJ4.out.cs 2 _ rfl
  have f38 := HJ4.out.fz 38
  clear b4 HCH CS
  cases f1 with
  | false =>
    go_wp2
    go_end0
    exact ⟨rfl, HJ4.out.setV (k := 17) (by decide) (.bool false) rfl, B4.out.setOf rfl 38 _⟩
  | true =>
    by_cases h : k + t = n
    · have W4 := isWanted_any HJ4.out ((s.seq + n) % 4294967296)
      rw [← HF2.out] at W4
      have HW4 := hide W4
      clear W4
      have h' : decide (k + t = (n : Int)) = true := decide_eq_true h
      go_wp2_with fail
      rw [show (s.seq + (n : Int) % 4294967296) % 4294967296 = (s.seq + n) % 4294967296 by omega]
      refine HW4.out.mono ?_
      rintro _ w5 ⟨rfl, b5⟩
      have HJ5 := hide (HJ4.out.later b5)
      have B5 := hide (B4.out.after b5)
      have x38' : w5.cell? ⟨b, 38, none⟩ = some (.bool v.fin) := HJ5.out.cv 17 _ rfl
      have f38' := HJ5.out.fz 38
      clear b5 HW4
      go_wp2
      go_end0
      refine ⟨rfl, ?_, B5.out.setOf rfl 38 _⟩
      rw [h']
      exact HJ5.out.setV (k := 17) (by decide) (.bool f2) rfl
    · have h' : decide (k + t = (n : Int)) = false := decide_eq_false h
      go_wp2
      go_end0
      refine ⟨rfl, ?_, B4.out.setOf rfl 38 _⟩
      rw [h']
      exact HJ4.out.setV (k := 17) (by decide) (.bool false) rfl
end
end Go.Proofs.Ytgdcdgofahhfdaa
