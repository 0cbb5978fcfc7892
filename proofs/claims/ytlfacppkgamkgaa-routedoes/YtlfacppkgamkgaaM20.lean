
/-
  awake: the chapter's example.
-/
import Derived.Test.YtlfacppkgamkgaaM19
namespace Go.Proofs.Ytlfacppkgamkgaa
open Go.RowKit Go.Shelf

def x1A : Wy := ⟨⟨10, 0, 0, 0⟩, 8, zI, false⟩
def x2A : Wy := ⟨zI, 0, ⟨10, 0, 0, 9⟩, true⟩
theorem aE1 : adE [] x1A = 0 := by decide +kernel
theorem aL1 : adL [] x1A = [x1A] := by decide +kernel
theorem aE2 : adE [x1A] x2A = 0 := by decide +kernel
theorem aL2 : adL [x1A] x2A = [x1A, x2A] := by decide +kernel
theorem fA3 : fdA [x1A, x2A] ⟨10, 1, 2, 3⟩ = ⟨10, 1, 2, 3⟩ := by decide +kernel
theorem fE3 : fdE [x1A, x2A] ⟨10, 1, 2, 3⟩ = 0 := by decide +kernel
theorem fA4 : fdA [x1A, x2A] ⟨9, 9, 9, 9⟩ = ⟨10, 0, 0, 9⟩ := by decide +kernel
theorem fE4 : fdE [x1A, x2A] ⟨9, 9, 9, 9⟩ = 0 := by decide +kernel
theorem dE5 : drE [x1A, x2A] zI 0 = 0 := by decide +kernel
theorem dL5 : drL [x1A, x2A] zI 0 = [x1A] := by decide +kernel
theorem fA6 : fdA [x1A] ⟨9, 9, 9, 9⟩ = zI := by decide +kernel
theorem fE6 : fdE [x1A] ⟨9, 9, 9, 9⟩ = 100 := by decide +kernel
theorem lit_ok {a b c d : Int} (h : (decide (0 ≤ a ∧ a ≤ 255) && decide (0 ≤ b ∧ b ≤ 255) && decide (0 ≤ c ∧ c ≤ 255) && decide (0 ≤ d ∧ d ≤ 255)) = true) : I4.Ok ⟨a, b, c, d⟩ := by
  simp only [Bool.and_eq_true, decide_eq_true_eq] at h
  exact ⟨h.1.1.1, h.1.1.2, h.1.2, h.2⟩
/-- a table, all of it from n on -/
theorem Rt.over {W W' : World} {rt b n : Nat} (hb : But (Two rt b) W W') (hn : n ≤ W.heap.size) (h1 : n ≤ rt) (h2 : n ≤ b) : Below n W W' := hb.below hn (fun g hg e => by rcases e with e | e <;> omega)
theorem exec_lenW {o : Oper} {w : World} {ev : Operand → Value} (x : Operand) (a : Option Addr) (n c : Nat) (ho : o.op = .call { callee := .builtin .len, args := #[x], argTypes := #[27] }) (hx : ev x = .slice a n c) : (execOp ev o).run Try.prog w = .ok (.value (.int .i64 (n : Int))) w := by
  unfold execOp
  simp [ho, hx, go_sem]
set_option maxRecDepth 100000 in
set_option maxHeartbeats 4000000 in
theorem awake_any (w : World) : Calls Try.prog 6 #[] w fun e w' => e = .returned (.bool true) ∧ Below w.heap.size w w' := by
  have EI := eq_ip
  have HN := hide (New_any w)
  obtain ⟨s, hs⟩ : ∃ s, s = w.heap.size := ⟨_, rfl⟩
  rw [← hs] at HN
  have HS := hide hs
  clear hs
  go_enter Try.func6, Try.ntmps6
  go_wp2_with fail
  refine HN.out.mono ?_
  rintro _ w1 ⟨rfl, r1, b1⟩
  have R1 := hide r1
  have B1 : Hid (Below s w w1) := by unfold Hid; exact b1
  have A1 := hide (Add_any x1A ⟨lit_ok rfl, lit_ok rfl⟩ r1 (by decide))
  rw [aE1, aL1] at A1
  clear r1 b1 HN
  go_wp2_with fail
  refine A1.out.mono ?_
  rintro _ w2 ⟨rfl, r2, b2⟩
  have B2 : Hid (Below s w w2) := B1.out.trans (Rt.over b2 (by have := B1.out.size; have := HS.out; omega) (by omega) (Nat.le_refl _))
  have A2 := hide (Add_any x2A ⟨lit_ok rfl, lit_ok rfl⟩ r2 (by decide))
  rw [aE2, aL2] at A2
  clear r2 b2 A1 B1 R1
  go_wp2_with fail
  refine A2.out.mono ?_
  rintro _ w3 ⟨rfl, r3, b3⟩
  have B3 : Hid (Below s w w3) := B2.out.trans (Rt.over b3 (by have := B2.out.size; have := HS.out; omega) (by omega) (Nat.le_refl _))
  have R3 := hide r3
  have A3 := hide (Find_any ⟨10, 1, 2, 3⟩ (lit_ok rfl) r3)
  rw [fA3, fE3] at A3
  clear r3 b3 A2 B2
  go_wp2_with fail
  refine A3.out.mono ?_
  rintro _ w4 ⟨rfl, b4⟩
  have hn4 : w3.heap.size ≤ w4.heap.size := b4.size
  have B4 : Hid (Below s w w4) := B3.out.trans (b4.mono (by have := B3.out.size; have := HS.out; omega))
  have R4 := hide (R3.out.later b4)
  obtain ⟨w5, hw5⟩ : ∃ w5, w5 = w4.alloc (.cells #[.int .u8 10, .int .u8 1, .int .u8 2, .int .u8 3] 31) := ⟨_, rfl⟩
  obtain ⟨s5, hs5⟩ : ∃ s5, s5 = w4.heap.size := ⟨_, rfl⟩
  have b5 : Below w4.heap.size w4 w5 := by rw [hw5]; exact (Below.refl _ _).alloc (Nat.le_refl _) _
  have c5 : CellsAt w5 s5 0 [.int .u8 10, .int .u8 1, .int .u8 2, .int .u8 3] := by rw [hw5, hs5]; exact CellsAt.new w4 _ _
  have l5 : s5 < w5.heap.size := c5.lt (by decide)
  have A5 := hide (Find_any ⟨9, 9, 9, 9⟩ (lit_ok rfl) (R4.out.later b5))
  rw [fA4, fE4] at A5
  have C5 := hide c5
  have R5 := hide (R4.out.later b5)
  have B5 : Hid (Below s w w5) := B4.out.trans (b5.mono (by have := B4.out.size; have := HS.out; omega))
  have N5a : Hid (s + 2 ≤ s5) := by have := R4.out.lt.1; unfold Hid; omega
  have hw5' := hw5.symm
  have hs5' := hs5.symm
  clear b4 hn4 A3 R3 B3 hw5 hs5 b5 c5 R4 B4
  simp only [I4.val]
  go_wp2_with fail
  clear hw5' hs5'
  refine A5.out.mono ?_
  rintro _ w6 ⟨rfl, b6⟩
  have B6 : Hid (Below s w w6) := B5.out.trans (b6.mono (by have := B5.out.size; have := HS.out; omega))
  have C6 := hide (C5.out.later l5 b6)
  have l6 : s5 < w6.heap.size := Nat.lt_of_lt_of_le l5 b6.size
  obtain ⟨w7, hw7⟩ : ∃ w7, w7 = w6.alloc (.cells #[.int .u8 10, .int .u8 0, .int .u8 0, .int .u8 9] 31) := ⟨_, rfl⟩
  obtain ⟨s7, hs7⟩ : ∃ s7, s7 = w6.heap.size := ⟨_, rfl⟩
  have b7 : Below w6.heap.size w6 w7 := by rw [hw7]; exact (Below.refl _ _).alloc (Nat.le_refl _) _
  have c7 : CellsAt w7 s7 0 [.int .u8 10, .int .u8 0, .int .u8 0, .int .u8 9] := by rw [hw7, hs7]; exact CellsAt.new w6 _ _
  have l7 : s7 < w7.heap.size := c7.lt (by decide)
  have A7 := hide (Drop_any zI 0 (lit_ok rfl) ((R5.out.later b6).later b7))
  rw [dE5, dL5] at A7
  have C7 := hide c7
  have C7a := hide (C6.out.later l6 b7)
  have l7a : s5 < w7.heap.size := Nat.lt_of_lt_of_le l6 b7.size
  have B7 : Hid (Below s w w7) := B6.out.trans (b7.mono (by have := B6.out.size; have := HS.out; omega))
  have N5 : Hid (s + 2 ≤ s5 ∧ s + 2 ≤ s7) := ⟨N5a.out, by have := (R5.out.later b6).lt.1; omega⟩
  have hw7' := hw7.symm
  have hs7' := hs7.symm
  clear b6 A5 R5 B5 hw7 hs7 b7 c7 B6 C5 C6 l5 l6
  simp only [I4.val]
  go_wp2_with fail
  clear hw7' hs7'
  simp only [zI, I4.val] at A7
  refine A7.out.mono ?_
  rintro _ w8 ⟨rfl, r8, b8⟩
  have n5 : ¬ Two (s + 1) s s5 := fun e => by have := N5.out; rcases e with e | e <;> omega
  have n7 : ¬ Two (s + 1) s s7 := fun e => by have := N5.out; rcases e with e | e <;> omega
  have C8a := hide (C7a.out.but l7a b8 n5)
  have C8 := hide (C7.out.but l7 b8 n7)
  have l8a : s5 < w8.heap.size := Nat.lt_of_lt_of_le l7a b8.size
  have l8 : s7 < w8.heap.size := Nat.lt_of_lt_of_le l7 b8.size
  have B8 : Hid (Below s w w8) := B7.out.trans (Rt.over b8 (by have := B7.out.size; have := HS.out; omega) (by omega) (Nat.le_refl _))
  have R8 := hide r8
  have A8 := hide (Find_any ⟨9, 9, 9, 9⟩ (lit_ok rfl) r8)
  rw [fA6, fE6] at A8
  clear A7 C7 C7a l7 l7a B7 r8 b8 n5 n7
  go_wp2_with fail
  refine A8.out.mono ?_
  rintro _ w9 ⟨rfl, b9⟩
  have B9 : Hid (Below s w w9) := B8.out.trans (b9.mono (by have := B8.out.size; have := HS.out; omega))
  have ba : Below w9.heap.size w9 (w9.alloc (.cells #[.int .u8 0, .int .u8 0, .int .u8 0, .int .u8 0] 31)) := (Below.refl _ _).alloc (Nat.le_refl _) _
  obtain ⟨wa, hwa⟩ : ∃ wa, wa = w9.alloc (.cells #[.int .u8 0, .int .u8 0, .int .u8 0, .int .u8 0] 31) := ⟨_, rfl⟩
  rw [← hwa] at ba
  have b8a := later b9 ba
  have Ba : Hid (Below s w wa) := B9.out.trans (ba.mono (by have := B9.out.size; have := HS.out; omega))
  have ca := C8a.out.later l8a b8a
  have cb := C8.out.later l8 b8a
  have a0 := ca 0 _ rfl
  have a1 := ca 1 _ rfl
  have a2 := ca 2 _ rfl
  have a3 := ca 3 _ rfl
  have b0 := cb 0 _ rfl
  have b1 := cb 1 _ rfl
  have b2 := cb 2 _ rfl
  have b3 := cb 3 _ rfl
  simp only [Nat.zero_add, Nat.add_zero] at a0 a1 a2 a3 b0 b1 b2 b3
  have AL := hide (All_any (R8.out.later b8a))
  clear b9 ba b8a ca cb A8 B8 B9 R8 C8 C8a
  subst hwa
  simp only [zI, I4.val]
  go_wp2_with fail
  refine AL.out.mono ?_
  rintro _ wf ⟨v, rfl, rv, bf⟩
  obtain ⟨va, vc, rfl⟩ := rv.shape
  have BF : Hid (Below s w wf) := Ba.out.trans (bf.mono (by have := Ba.out.size; have := HS.out; omega))
  clear rv bf AL
  go_wp2
  go_ret
  exact ⟨rfl, by have := BF.out; rw [HS.out] at this; exact this⟩
end Go.Proofs.Ytlfacppkgamkgaa
