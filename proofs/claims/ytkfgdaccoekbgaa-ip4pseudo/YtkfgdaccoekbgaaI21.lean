
/-
  The document's Pseudo; the walk of Ip4Pseudo.
-/
import Derived.Test.YtkfgdaccoekbgaaI16
import Derived.Test.YtkfgdaccoekbgaaI20
namespace Go.Proofs.Ytkfgdaccoekbgaa
open Go.RowKit Go.Shelf

theorem low_put (n : Int) : put16 (n % 65536) = put16 n := by
  unfold put16
  rw [show n % 65536 / 256 % 256 = n / 256 % 256 by omega, show n % 65536 % 256 = n % 256 by omega]
theorem low_mod (n : Int) : IntKind.u8.wrap ((n % 65536).tmod 256) = n % 256 := by
  rw [IntKind.wrap_u8, Int.tmod_eq_emod_of_nonneg (by omega)]
  omega
set_option maxRecDepth 100000 in
set_option maxHeartbeats 4000000 in
theorem rPseudo_any (x y : I4) (p n : Int) (w : World) : Calls Try.prog 16 #[x.val, y.val, .int .i64 p, .int .i64 n] w fun e w' => ∃ v, e = .returned v ∧ IsB w'.heap.size w' v (psB x y p n) ∧ Below w.heap.size w w' := by
  obtain ⟨w1, w2, s1, s2, hs1, hw1, hs2, hw2, c1, c2, b2, l1, l2, _⟩ := twoI w x y
  have C1 := hide c1
  have C2 := hide c2
  have B2 := hide b2
  rw [show x.val = .agg #[.int .u8 x.a, .int .u8 x.b, .int .u8 x.c, .int .u8 x.d] from rfl, show y.val = .agg #[.int .u8 y.a, .int .u8 y.b, .int .u8 y.c, .int .u8 y.d] from rfl]
  have hs1' := hs1.symm
  have hs2' := hs2.symm
  have hw1' := hw1.symm
  have hw2' := hw2.symm
  have HS1 := hide hs1
  have LM := low_mod p
  clear c1 c2 b2 hs1 hs2 hw1 hw2
  go_enter Try.func16, Try.ntmps16
  go_wp2_with (refine wpList_loadA rfl 23 4 aggI sizI _ rfl s1 0 rfl x.vals rfl C1.out ?_)
  clear hs1' hs2' hw1' hw2'
  refine (rip_any (.slice none 0 0) [] x w2.heap.size w2 (Nat.le_refl _) (Gro.nil _ _) (by simp)).mono ?_
  rintro _ w3 ⟨v3, rfl, g3, b3⟩
  rw [List.nil_append] at g3
  obtain ⟨a3, c3, rfl, _⟩ := g3.isB.shape
  have B3 := hide b3
  have G3 := hide g3
  have C3 := hide (C2.out.later l2 b3)
  have Z3 := b3.size
  have EL : (ipL x).length = 4 := rfl
  rw [EL] at G3 ⊢
  clear b3 g3 C2 C1
  go_wp2_with (refine wpList_loadA rfl 23 4 aggI sizI _ rfl s2 0 rfl y.vals rfl C3.out ?_)
  refine (rip_any (.slice a3 4 c3) (ipL x) y w2.heap.size w3 Z3 G3.out (by simp [ipL])).mono ?_
  rintro _ w4 ⟨v4, rfl, g4, b4⟩
  obtain ⟨a4, c4, rfl, _⟩ := g4.isB.shape
  have B4 : Hid (Below w2.heap.size w2 w4) := B3.out.trans b4
  have G4 := hide g4
  have EL2 : (ipL x ++ ipL y).length = 8 := rfl
  rw [EL2] at G4 ⊢
  clear b4 g4 C3 B3 G3 Z3
  go_wp2_with fail
  refine (rLow_any _ _).mono ?_
  rintro _ w5 ⟨rfl, rfl⟩
  obtain ⟨s5, hs5⟩ : ∃ s5, s5 = w5.heap.size := ⟨_, rfl⟩
  obtain ⟨w6, hw6⟩ : ∃ w6, w6 = w5.alloc (.cells #[.int .u8 0, .int .u8 (p % 256)] 5) := ⟨_, rfl⟩
  have b6 : Below w5.heap.size w5 w6 := by rw [hw6]; exact later_alloc _ _
  have i6 : IsB w6.heap.size w6 (.slice (some ⟨s5, 0, none⟩) 2 2) [0, p % 256] := by rw [hw6, World.size_alloc, hs5]; exact IsB_new [0, p % 256] (by omega)
  have G6 := hide (G4.out.later b6)
  have I6 := hide i6
  have B6 : Hid (Below w2.heap.size w2 w6) := B4.out.trans (b6.mono B4.out.size)
  have hs5' := hs5.symm
  have hw6' := hw6.symm
  obtain ⟨L6, hL6⟩ : ∃ L6, (ipL x ++ ipL y) ++ [0, p % 256] = L6 := ⟨_, rfl⟩
  have HL6 := hide hL6
  have EL6 : Hid (L6.length = 10) := by show _ = _; rw [← hL6]; rfl
  clear b6 i6 hs5 hw6 G4 B4 hL6
  go_wp2_with (at_builtin; refine wpList_growB rfl (.tmp 15) (.tmp 20) rfl rfl w2.heap.size (.slice a4 8 c4) _ (ipL x ++ ipL y) [0, p % 256] rfl rfl G6.out I6.out B6.out.size (by simp [ipL]) L6 HL6.out ?_)
  intro a7 c7 w7 _ g7 b7
  have B7 : Hid (Below w2.heap.size w2 w7) := B6.out.trans b7
  have G7 := hide g7
  rw [EL6.out] at G7 ⊢
  clear g7 b7 G6 I6 B6 hs5' hw6'
  go_wp2_with fail
  refine (rLow_any _ _).mono ?_
  rintro _ w8 ⟨rfl, rfl⟩
  have PU := hide (rPut2_any (.slice a7 10 c7) L6 (n % 65536) w8 G7.out.isB (by rw [EL6.out]; decide) (by omega) (by omega))
  clear G7
  go_wp2_with fail
  refine PU.out.mono ?_
  rintro _ w9 ⟨v9, rfl, g9, b9⟩
  have e9 : L6 ++ put16 (n % 65536) = psB x y p n := by
    rw [low_put, ← HL6.out]
    unfold psB
    simp
  rw [e9] at g9
  have I9 := hide g9.isB
  have B9 : Hid (Below w.heap.size w w9) := B2.out.trans ((B7.out.trans (b9.mono B7.out.size)).mono B2.out.size)
  obtain ⟨a9, c9, rfl, _⟩ := I9.out.shape
  clear g9 b9 PU B7 e9
  go_wp2
  go_ret
  exact ⟨_, rfl, I9.out, B9.out⟩
theorem exec_str {o : Oper} {w : World} {ev : Operand → Value} (x : Operand) (v : Value) (bs : List Int) (ho : o.op = .convert 24 9 x) (hx : ev x = v) (h : IsB w.heap.size w v bs) : (execOp ev o).run Try.prog w = .ok (.value (.string (strB bs))) w := by
  have e := conv_str h
  unfold execOp
  simp only [ho, hx, Sem.run_bind, Sem.run_pure, Result.andThen_ok, e]
theorem exec_eqs {o : Oper} {w : World} {ev : Operand → Value} (x y : Operand) (t : TypeId) (s : ByteArray) (ho : o.op = .binOp .eql 9 x y t) (hx : ev x = .string s) (hy : ev y = .string s) : (execOp ev o).run Try.prog w = .ok (.value (.bool true)) w := by
  unfold execOp
  simp [ho, hx, hy, go_sem]
theorem exec_eqb {o : Oper} {w : World} {ev : Operand → Value} (x y : Operand) (t : TypeId) (b : Bool) (ho : o.op = .binOp .eql 4 x y t) (hx : ev x = .bool b) (hy : ev y = .bool b) : (execOp ev o).run Try.prog w = .ok (.value (.bool true)) w := by
  unfold execOp
  simp [ho, hx, hy, go_sem]
set_option maxRecDepth 100000 in
set_option maxHeartbeats 8000000 in
theorem Pseudo_walk (x y : I4) (p n : Int) (w : World) (hx : x.Ok) (_hy : y.Ok) (_ : -9223372036854775808 ≤ p) (_ : p ≤ 9223372036854775807) (_ : -9223372036854775808 ≤ n) (_ : n ≤ 9223372036854775807) :
    Calls Try.prog 4 #[x.val, y.val, .int .i64 p, .int .i64 n] w fun e w' => e = .returned (.bool true) ∧ Below w.heap.size w w' := by
  obtain ⟨w1, w2, s1, s2, hs1, hw1, hs2, hw2, c1, c2, b2, l1, l2, _⟩ := twoI w x y
  have C1 := hide c1
  have C2 := hide c2
  have B2 := hide b2
  rw [show x.val = .agg #[.int .u8 x.a, .int .u8 x.b, .int .u8 x.c, .int .u8 x.d] from rfl, show y.val = .agg #[.int .u8 y.a, .int .u8 y.b, .int .u8 y.c, .int .u8 y.d] from rfl]
  have hs1' := hs1.symm
  have hs2' := hs2.symm
  have hw1' := hw1.symm
  have hw2' := hw2.symm
  have HS1 := hide hs1
  clear c1 c2 b2 hs1 hs2 hw1 hw2
  go_enter Try.func4, Try.ntmps4
  go_wp2_with fail
  clear hs1' hs2' hw1' hw2'
  refine (awake_any w2).mono ?_
  rintro _ w3 ⟨rfl, b3⟩
  have B3 : Hid (Below w.heap.size w w3) := B2.out.trans (b3.mono B2.out.size)
  have C31 := hide (C1.out.later l1 b3)
  have C32 := hide (C2.out.later l2 b3)
  have l31 : s1 < w3.heap.size := Nat.lt_of_lt_of_le l1 b3.size
  have l32 : s2 < w3.heap.size := Nat.lt_of_lt_of_le l2 b3.size
  clear b3 C1 C2 B2 l1 l2
  obtain ⟨F, hF⟩ : ∃ F, F = (decide (1 ≤ x.a ∧ x.a ≤ 223) && !decide (x.a = 127)) := ⟨_, rfl⟩
  have HF := hide hF
  have HX := hide hx
  clear hF hx
  go_upto_region 2 with fail
  go_cut [10] from 12 to 24 (fun v10 wx => v10 = .bool F ∧ wx = w3)
  case first =>
    have x0 := C31.out 0 _ rfl
    simp only [Nat.zero_add] at x0
    by_cases h1 : 1 ≤ x.a
    · by_cases h2 : x.a ≤ 223
      · by_cases h3 : x.a = 127
        · have q : (x.a != 127) = false := by rw [h3]; rfl
          have E : Hid (F = false) := by unfold Hid; rw [HF.out, decide_eq_true h3]; simp
          clear h3
          go_wp2
          go_meet
          exact ⟨by rw [E.out], rfl⟩
        · have q : (x.a != 127) = true := by simpa using h3
          have E : Hid (F = true) := by unfold Hid; rw [HF.out, decide_eq_false h3, decide_eq_true ⟨h1, h2⟩]; rfl
          clear h3
          go_wp2
          go_meet
          exact ⟨by rw [E.out], rfl⟩
      · have E : Hid (F = false) := by unfold Hid; rw [HF.out, decide_eq_false (by omega)]; rfl
        go_wp2
        go_meet
        exact ⟨by rw [E.out], rfl⟩
    · have E : Hid (F = false) := by unfold Hid; rw [HF.out, decide_eq_false (by omega)]; rfl
      go_wp2
      go_meet
      exact ⟨by rw [E.out], rfl⟩
  case rest =>
    obtain ⟨rfl, ec⟩ := hcut
    rw [ec]
    clear ec
    go_upto_region 3 with fail
    have CW : ∀ W, Below w3.heap.size w3.drew W → CellsAt W s1 0 x.vals ∧ CellsAt W s2 0 y.vals := fun W hb => ⟨C31.out.later l31 (((Below.refl _ w3).drew).trans hb), C32.out.later l32 (((Below.refl _ w3).drew).trans hb)⟩
    refine region_grow (w := w3) (fun i v W => match i with | 0 => v = .bool true | 1 => v = .bool true | 2 => v = .agg (x.vals).toArray | 3 => v = .agg (y.vals).toArray | 4 => v = .int .i64 p | 5 => v = .int .i64 n | 6 => IsB W.heap.size W v (psB x y p n) | 7 => v = .string (strB (psB x y p n)) | 8 => v = .agg (x.vals).toArray | 9 => v = .agg (y.vals).toArray | 10 => v = .int .i64 p | 11 => v = .int .i64 n | 12 => IsB W.heap.size W v (psB x y p n) | 13 => v = .string (strB (psB x y p n)) | 14 => v = .bool true | 15 => v = .bool true | 16 => v = .bool true | 17 => v = .agg (x.vals).toArray | 18 => v = .bool F | 19 => v = .bool F | 20 => v = .bool true | 21 => v = .bool true | 22 => v = .bool true | _ => True) (by kernel_rfl) (by kernel_rfl) (by kernel_rfl) (some_guard [(1, true), (16, true)] (by kernel_rfl) (by intro p hp v W h; simp only [List.mem_cons, List.not_mem_nil, or_false] at hp; rcases hp with rfl | rfl <;> exact h)) (fun i v W W' h hb => match i, h with | 0, h => h | 1, h => h | 2, h => h | 3, h => h | 4, h => h | 5, h => h | 6, h => IsB.later h hb | 7, h => h | 8, h => h | 9, h => h | 10, h => h | 11, h => h | 12, h => IsB.later h hb | 13, h => h | 14, h => h | 15, h => h | 16, h => h | 17, h => h | 18, h => h | 19, h => h | 20, h => h | 21, h => h | 22, h => h | _ + 23, h => h) ?_ ?_
    · intro listed a W hM hn i o ho hr
      have B := hM.bel
      match i, ho, hr with
      | 0, ho, hr =>
        have u9 : a.eval (.tmp 9) = .bool true := hM.keep (t := 9) (by kernel_rfl)
        exact Step.of rfl (.inl ⟨.bool true, W, exec_move _ _ rfl u9, Below.refl _ _, rfl⟩) ho
      | 1, ho, hr =>
        have u25 := hM.use hr rfl (j := 0) (by kernel_rfl) rfl rfl
        have u25 : a.eval (.tmp 25) = .bool true := u25
        exact Step.of rfl (.inl ⟨.bool true, W, exec_move _ _ rfl u25, Below.refl _ _, rfl⟩) ho
      | 2, ho, hr =>
        have u4 : a.eval (.tmp 4) = .pointer (some ⟨s1, 0, none⟩) := hM.keep (t := 4) (by kernel_rfl)
        exact Step.of rfl (.inl ⟨.agg (x.vals).toArray, W, exec_loadA 23 4 aggI sizI _ rfl s1 0 u4 (x.vals) rfl ((CW W B).1), Below.refl _ _, rfl⟩) ho
      | 3, ho, hr =>
        have u5 : a.eval (.tmp 5) = .pointer (some ⟨s2, 0, none⟩) := hM.keep (t := 5) (by kernel_rfl)
        exact Step.of rfl (.inl ⟨.agg (y.vals).toArray, W, exec_loadA 23 4 aggI sizI _ rfl s2 0 u5 (y.vals) rfl ((CW W B).2), Below.refl _ _, rfl⟩) ho
      | 4, ho, hr =>
        have u2 : a.eval (.tmp 2) = .int .i64 p := hM.keep (t := 2) (by kernel_rfl)
        exact Step.of rfl (.inl ⟨.int .i64 p, W, exec_move _ _ rfl u2, Below.refl _ _, rfl⟩) ho
      | 5, ho, hr =>
        have u3 : a.eval (.tmp 3) = .int .i64 n := hM.keep (t := 3) (by kernel_rfl)
        exact Step.of rfl (.inl ⟨.int .i64 n, W, exec_move _ _ rfl u3, Below.refl _ _, rfl⟩) ho
      | 6, ho, hr =>
        have u27 := hM.use hr rfl (j := 2) (by kernel_rfl) rfl rfl
        have u27 : a.eval (.tmp 27) = .agg (x.vals).toArray := u27
        have u28 := hM.use hr rfl (j := 3) (by kernel_rfl) rfl rfl
        have u28 : a.eval (.tmp 28) = .agg (y.vals).toArray := u28
        have u29 := hM.use hr rfl (j := 4) (by kernel_rfl) rfl rfl
        have u29 : a.eval (.tmp 29) = .int .i64 p := u29
        have u30 := hM.use hr rfl (j := 5) (by kernel_rfl) rfl rfl
        have u30 : a.eval (.tmp 30) = .int .i64 n := u30
        refine Step.of rfl (.inr ⟨15, #[.agg x.vals.toArray, .agg y.vals.toArray, .int .i64 p, .int .i64 n], exec_callF _ _ _ _ rfl (map4 u27 u28 u29 u30) (enters_of Try.func15 (by kernel_rfl) rfl), ?_⟩) ho
        exact Pseudo_any x y p n W
      | 7, ho, hr =>
        have u31 := hM.use hr rfl (j := 6) (by kernel_rfl) rfl rfl
        have u31 : (fun v W => IsB W.heap.size W v (psB x y p n)) (a.eval (.tmp 31)) W := u31
        exact Step.of rfl (.inl ⟨.string (strB (psB x y p n)), W, exec_str _ _ _ rfl rfl u31, Below.refl _ _, rfl⟩) ho
      | 8, ho, hr =>
        have u4 : a.eval (.tmp 4) = .pointer (some ⟨s1, 0, none⟩) := hM.keep (t := 4) (by kernel_rfl)
        exact Step.of rfl (.inl ⟨.agg (x.vals).toArray, W, exec_loadA 23 4 aggI sizI _ rfl s1 0 u4 (x.vals) rfl ((CW W B).1), Below.refl _ _, rfl⟩) ho
      | 9, ho, hr =>
        have u5 : a.eval (.tmp 5) = .pointer (some ⟨s2, 0, none⟩) := hM.keep (t := 5) (by kernel_rfl)
        exact Step.of rfl (.inl ⟨.agg (y.vals).toArray, W, exec_loadA 23 4 aggI sizI _ rfl s2 0 u5 (y.vals) rfl ((CW W B).2), Below.refl _ _, rfl⟩) ho
      | 10, ho, hr =>
        have u2 : a.eval (.tmp 2) = .int .i64 p := hM.keep (t := 2) (by kernel_rfl)
        exact Step.of rfl (.inl ⟨.int .i64 p, W, exec_move _ _ rfl u2, Below.refl _ _, rfl⟩) ho
      | 11, ho, hr =>
        have u3 : a.eval (.tmp 3) = .int .i64 n := hM.keep (t := 3) (by kernel_rfl)
        exact Step.of rfl (.inl ⟨.int .i64 n, W, exec_move _ _ rfl u3, Below.refl _ _, rfl⟩) ho
      | 12, ho, hr =>
        have u33 := hM.use hr rfl (j := 8) (by kernel_rfl) rfl rfl
        have u33 : a.eval (.tmp 33) = .agg (x.vals).toArray := u33
        have u34 := hM.use hr rfl (j := 9) (by kernel_rfl) rfl rfl
        have u34 : a.eval (.tmp 34) = .agg (y.vals).toArray := u34
        have u35 := hM.use hr rfl (j := 10) (by kernel_rfl) rfl rfl
        have u35 : a.eval (.tmp 35) = .int .i64 p := u35
        have u36 := hM.use hr rfl (j := 11) (by kernel_rfl) rfl rfl
        have u36 : a.eval (.tmp 36) = .int .i64 n := u36
        refine Step.of rfl (.inr ⟨16, #[.agg x.vals.toArray, .agg y.vals.toArray, .int .i64 p, .int .i64 n], exec_callF _ _ _ _ rfl (map4 u33 u34 u35 u36) (enters_of Try.func16 (by kernel_rfl) rfl), ?_⟩) ho
        exact rPseudo_any x y p n W
      | 13, ho, hr =>
        have u37 := hM.use hr rfl (j := 12) (by kernel_rfl) rfl rfl
        have u37 : (fun v W => IsB W.heap.size W v (psB x y p n)) (a.eval (.tmp 37)) W := u37
        exact Step.of rfl (.inl ⟨.string (strB (psB x y p n)), W, exec_str _ _ _ rfl rfl u37, Below.refl _ _, rfl⟩) ho
      | 14, ho, hr =>
        have u32 := hM.use hr rfl (j := 7) (by kernel_rfl) rfl rfl
        have u32 : a.eval (.tmp 32) = .string (strB (psB x y p n)) := u32
        have u38 := hM.use hr rfl (j := 13) (by kernel_rfl) rfl rfl
        have u38 : a.eval (.tmp 38) = .string (strB (psB x y p n)) := u38
        exact Step.of rfl (.inl ⟨.bool true, W, exec_eqs _ _ _ _ rfl u32 u38, Below.refl _ _, rfl⟩) ho
      | 15, ho, hr =>
        have u26 := hM.use hr rfl (j := 1) (by kernel_rfl) rfl rfl
        have u26 : a.eval (.tmp 26) = .bool true := u26
        have u39 := hM.use hr rfl (j := 14) (by kernel_rfl) rfl rfl
        have u39 : a.eval (.tmp 39) = .bool true := u39
        exact Step.of rfl (.inl ⟨.bool true, W, exec_pick _ _ _ true _ rfl u26 ((if_pos rfl).trans u39), Below.refl _ _, rfl⟩) ho
      | 16, ho, hr =>
        have u40 := hM.use hr rfl (j := 15) (by kernel_rfl) rfl rfl
        have u40 : a.eval (.tmp 40) = .bool true := u40
        exact Step.of rfl (.inl ⟨.bool true, W, exec_move _ _ rfl u40, Below.refl _ _, rfl⟩) ho
      | 17, ho, hr =>
        have u4 : a.eval (.tmp 4) = .pointer (some ⟨s1, 0, none⟩) := hM.keep (t := 4) (by kernel_rfl)
        exact Step.of rfl (.inl ⟨.agg (x.vals).toArray, W, exec_loadA 23 4 aggI sizI _ rfl s1 0 u4 (x.vals) rfl ((CW W B).1), Below.refl _ _, rfl⟩) ho
      | 18, ho, hr =>
        have u42 := hM.use hr rfl (j := 17) (by kernel_rfl) rfl rfl
        have u42 : a.eval (.tmp 42) = .agg (x.vals).toArray := u42
        refine Step.of rfl (.inr ⟨17, #[.agg x.vals.toArray], exec_callF _ _ _ _ rfl (map1 u42) (enters_of Try.func17 (by kernel_rfl) rfl), ?_⟩) ho
        exact (Fits_any x W HX.out).mono (by rintro _ W' ⟨rfl, hb⟩; exact ⟨_, rfl, congrArg Value.bool HF.out.symm, hb⟩)
      | 19, ho, hr =>
        have u10 : a.eval (.tmp 10) = .bool F := hM.keep (t := 10) (by kernel_rfl)
        exact Step.of rfl (.inl ⟨.bool F, W, exec_move _ _ rfl u10, Below.refl _ _, rfl⟩) ho
      | 20, ho, hr =>
        have u43 := hM.use hr rfl (j := 18) (by kernel_rfl) rfl rfl
        have u43 : (fun v W => v = .bool F) (a.eval (.tmp 43)) W := u43
        have u44 := hM.use hr rfl (j := 19) (by kernel_rfl) rfl rfl
        have u44 : a.eval (.tmp 44) = .bool F := u44
        exact Step.of rfl (.inl ⟨.bool true, W, exec_eqb _ _ _ _ rfl u43 u44, Below.refl _ _, rfl⟩) ho
      | 21, ho, hr =>
        have u41 := hM.use hr rfl (j := 16) (by kernel_rfl) rfl rfl
        have u41 : a.eval (.tmp 41) = .bool true := u41
        have u45 := hM.use hr rfl (j := 20) (by kernel_rfl) rfl rfl
        have u45 : a.eval (.tmp 45) = .bool true := u45
        exact Step.of rfl (.inl ⟨.bool true, W, exec_pick _ _ _ true _ rfl u41 ((if_pos rfl).trans u45), Below.refl _ _, rfl⟩) ho
      | 22, ho, hr =>
        have u46 := hM.use hr rfl (j := 21) (by kernel_rfl) rfl rfl
        have u46 : a.eval (.tmp 46) = .bool true := u46
        exact Step.of rfl (.inl ⟨.bool true, W, exec_assign _ _ rfl u46, Below.refl _ _, rfl⟩) ho
      | n + 23, ho, _ => exact absurd (Array.getElem?_eq_some_iff.1 ho).1 (by simp)
    intro listed a W hM hl
    have B := hM.bel
    have p25 : a.tmps.getD 25 undef = .bool true := hM.got 0 _ _ rfl (hl 0 (by decide)) rfl
    have p26 : a.tmps.getD 26 undef = .bool true := hM.got 1 _ _ rfl (hl 1 (by decide)) rfl
    have p27 : a.tmps.getD 27 undef = .agg (x.vals).toArray := hM.got 2 _ _ rfl (hl 2 (by decide)) rfl
    have p28 : a.tmps.getD 28 undef = .agg (y.vals).toArray := hM.got 3 _ _ rfl (hl 3 (by decide)) rfl
    have p29 : a.tmps.getD 29 undef = .int .i64 p := hM.got 4 _ _ rfl (hl 4 (by decide)) rfl
    have p30 : a.tmps.getD 30 undef = .int .i64 n := hM.got 5 _ _ rfl (hl 5 (by decide)) rfl
    have p31 : (fun v W => IsB W.heap.size W v (psB x y p n)) (a.tmps.getD 31 undef) W := hM.got 6 _ _ rfl (hl 6 (by decide)) rfl
    have p32 : a.tmps.getD 32 undef = .string (strB (psB x y p n)) := hM.got 7 _ _ rfl (hl 7 (by decide)) rfl
    have p33 : a.tmps.getD 33 undef = .agg (x.vals).toArray := hM.got 8 _ _ rfl (hl 8 (by decide)) rfl
    have p34 : a.tmps.getD 34 undef = .agg (y.vals).toArray := hM.got 9 _ _ rfl (hl 9 (by decide)) rfl
    have p35 : a.tmps.getD 35 undef = .int .i64 p := hM.got 10 _ _ rfl (hl 10 (by decide)) rfl
    have p36 : a.tmps.getD 36 undef = .int .i64 n := hM.got 11 _ _ rfl (hl 11 (by decide)) rfl
    have p37 : (fun v W => IsB W.heap.size W v (psB x y p n)) (a.tmps.getD 37 undef) W := hM.got 12 _ _ rfl (hl 12 (by decide)) rfl
    have p38 : a.tmps.getD 38 undef = .string (strB (psB x y p n)) := hM.got 13 _ _ rfl (hl 13 (by decide)) rfl
    have p39 : a.tmps.getD 39 undef = .bool true := hM.got 14 _ _ rfl (hl 14 (by decide)) rfl
    have p40 : a.tmps.getD 40 undef = .bool true := hM.got 15 _ _ rfl (hl 15 (by decide)) rfl
    have p41 : a.tmps.getD 41 undef = .bool true := hM.got 16 _ _ rfl (hl 16 (by decide)) rfl
    have p42 : a.tmps.getD 42 undef = .agg (x.vals).toArray := hM.got 17 _ _ rfl (hl 17 (by decide)) rfl
    have p43 : (fun v W => v = .bool F) (a.tmps.getD 43 undef) W := hM.got 18 _ _ rfl (hl 18 (by decide)) rfl
    have p44 : a.tmps.getD 44 undef = .bool F := hM.got 19 _ _ rfl (hl 19 (by decide)) rfl
    have p45 : a.tmps.getD 45 undef = .bool true := hM.got 20 _ _ rfl (hl 20 (by decide)) rfl
    have p46 : a.tmps.getD 46 undef = .bool true := hM.got 21 _ _ rfl (hl 21 (by decide)) rfl
    have p8 : a.tmps.getD 8 undef = .bool true := hM.got 22 _ _ rfl (hl 22 (by decide)) rfl
    rw [hM.lit [25, 26, 27, 28, 29, 30, 31, 32, 33, 34, 35, 36, 37, 38, 39, 40, 41, 42, 43, 44, 45, 46, 8] (by kernel_rfl)]
    clear hM hl
    simp only [fill, List.foldl_cons, List.foldl_nil, Act.put, List.setIfInBounds_toArray, List.set_cons_zero, List.set_cons_succ]
    clear p25
    generalize a.tmps.getD 25 undef = x25 at *
    clear p26
    generalize a.tmps.getD 26 undef = x26 at *
    clear p27
    generalize a.tmps.getD 27 undef = x27 at *
    clear p28
    generalize a.tmps.getD 28 undef = x28 at *
    clear p29
    generalize a.tmps.getD 29 undef = x29 at *
    clear p30
    generalize a.tmps.getD 30 undef = x30 at *
    generalize a.tmps.getD 31 undef = x31 at *
    clear p32
    generalize a.tmps.getD 32 undef = x32 at *
    clear p33
    generalize a.tmps.getD 33 undef = x33 at *
    clear p34
    generalize a.tmps.getD 34 undef = x34 at *
    clear p35
    generalize a.tmps.getD 35 undef = x35 at *
    clear p36
    generalize a.tmps.getD 36 undef = x36 at *
    generalize a.tmps.getD 37 undef = x37 at *
    clear p38
    generalize a.tmps.getD 38 undef = x38 at *
    clear p39
    generalize a.tmps.getD 39 undef = x39 at *
    clear p40
    generalize a.tmps.getD 40 undef = x40 at *
    clear p41
    generalize a.tmps.getD 41 undef = x41 at *
    clear p42
    generalize a.tmps.getD 42 undef = x42 at *
    generalize a.tmps.getD 43 undef = x43 at *
    clear p44
    generalize a.tmps.getD 44 undef = x44 at *
    clear p45
    generalize a.tmps.getD 45 undef = x45 at *
    clear p46
    generalize a.tmps.getD 46 undef = x46 at *
    rw [p8]
    clear p8
    have B4 : Hid (Below w.heap.size w W) := B3.out.trans ((((Below.refl _ w3).drew).trans B).mono B3.out.size)
    clear p31 p37 p43 B CW
    go_wp2
    go_ret
    exact ⟨rfl, B4.out⟩
end Go.Proofs.Ytkfgdaccoekbgaa
