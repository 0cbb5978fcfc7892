/-
  WordBack, walked: what was put is read as it was.
-/
import Derived.Test.YtneolboegjjfbabGrow
namespace Go.Proofs.Ytneolboegjjfbab
open Go.RowKit

theorem low_eq (n : Int) : (wrap64 (n.tmod 65536 + 65536)).tmod 65536 = n % 65536 := by
  have h : n.tmod 65536 = if 0 ≤ n then n % 65536 else -((-n) % 65536) := by
    split
    · exact Int.tmod_eq_emod_of_nonneg (by assumption)
    · have e : n = -(-n) := by omega
      rw [e, Int.neg_tmod, Int.tmod_eq_emod_of_nonneg (by omega)]
      simp
  have hb : 0 ≤ n.tmod 65536 + 65536 ∧ n.tmod 65536 + 65536 ≤ 131072 := by rw [h]; split <;> omega
  rw [wrap64_fit _ (by omega) (by omega), Int.tmod_eq_emod_of_nonneg hb.1, h]
  split <;> omega

theorem back_len (b t : List Int) (n m : Int) : (b ++ put16 n ++ put32 m ++ t).length = b.length + 6 + t.length := by simp [put16, put32]; omega
theorem back_get (b t : List Int) (n m : Int) (j : Nat) (hj : j < 6) : (b ++ put16 n ++ put32 m ++ t)[b.length + j]?.getD 0 = (put16 n ++ put32 m)[j]?.getD 0 := by
  have e : b ++ put16 n ++ put32 m ++ t = b ++ ((put16 n ++ put32 m) ++ t) := by simp
  rw [e, List.getElem?_append_right (by omega), show b.length + j - b.length = j from by omega, List.getElem?_append_left (by simpa [put16, put32] using hj)]
theorem rd16_back (b t : List Int) (n m : Int) : rd16 (b ++ put16 n ++ put32 m ++ t) (b.length : Int) = n % 65536 ∧ errOf (b ++ put16 n ++ put32 m ++ t) (b.length : Int) 2 = 0 := by
  have hs : stB (b ++ put16 n ++ put32 m ++ t).length (b.length : Int) 2 = true := by rw [back_len]; simp [stB]; omega
  have e0 := back_get b t n m 0 (by omega)
  have e1 := back_get b t n m 1 (by omega)
  rw [Nat.add_zero] at e0
  refine ⟨?_, by rw [errOf, if_pos hs]⟩
  rw [rd16, if_pos hs, Int.toNat_natCast, e0, e1]
  simp [put16]
  omega
theorem rd32_back (b t : List Int) (n m : Int) : rd32 (b ++ put16 n ++ put32 m ++ t) ((b.length : Int) + 2) = m ∧ errOf (b ++ put16 n ++ put32 m ++ t) ((b.length : Int) + 2) 4 = 0 := by
  have hs : stB (b ++ put16 n ++ put32 m ++ t).length ((b.length : Int) + 2) 4 = true := by rw [back_len]; simp [stB]; omega
  have e0 := back_get b t n m 2 (by omega)
  have e1 := back_get b t n m 3 (by omega)
  have e2 := back_get b t n m 4 (by omega)
  have e3 := back_get b t n m 5 (by omega)
  refine ⟨?_, by rw [errOf, if_pos hs]⟩
  rw [rd32, if_pos hs, show ((b.length : Int) + 2).toNat = b.length + 2 from by omega, e0, show b.length + 2 + 1 = b.length + 3 from rfl, e1, show b.length + 2 + 2 = b.length + 4 from rfl, e2, show b.length + 2 + 3 = b.length + 5 from rfl, e3]
  simp [put16, put32]
  omega
theorem err32_end (L : List Int) : errOf L ((L.length : Int) - 3) 4 = 3 := by
  have hs : stB L.length ((L.length : Int) - 3) 4 = false := by simp [stB]; omega
  simp [errOf, hs]
theorem put16_bytes (n : Int) : Bytes (put16 n) := by intro x hx; simp [put16] at hx; omega
theorem put32_bytes (n : Int) (n0 : 0 ≤ n) (n1 : n < 4294967296) : Bytes (put32 n) := by intro x hx; simp [put32] at hx; omega

set_option maxHeartbeats 1000000 in
theorem back_walk (vb : Value) (b : List Int) (n m : Int) (vt : Value) (t : List Int) (w : World) (hb : IsB w.heap.size w vb b) (Bb : Bytes b)
    (lb : b.length ≤ 1048576) (_ : -9223372036854775808 ≤ n) (_ : n ≤ 9223372036854775807) (m0 : 0 ≤ m) (m1 : m < 4294967296) (ht : IsB w.heap.size w vt t) (Bt : Bytes t) (lt : t.length ≤ 1048576) :
    Calls Try.prog 4 #[vb, .int .i64 n, .int .u32 m, vt] w fun e w' => e = .returned (.bool true) ∧ Below w.heap.size w w' := by
  obtain ⟨ab, cb, rfl, hcb⟩ := hb.shape
  go_enter Try.func4, Try.ntmps4
  go_wp2_with fail
  refine (awake_any _).mono ?_
  rintro e w1 ⟨rfl, b1⟩
  have hb1 := hb.later b1
  have ht1 := ht.later b1
  go_wp2_with fail
  refine (Put16_any _ b n w1 hb1 (by omega)).mono ?_
  rintro e w2 ⟨v2, rfl, o2, b2⟩
  replace ht1 := ht1.later b2
  replace b1 := later b1 b2
  clear hb1
  go_wp2_with fail
  refine (Put32_any v2 _ m m0 m1 w2 o2.isB (by simp [put16]; omega)).mono ?_
  rintro e w3 ⟨v3, rfl, o3, b3⟩
  replace ht1 := ht1.later b3
  have z1 := b1.size
  have z3 : w2.heap.size ≤ w3.heap.size := b3.size
  replace b1 := later b1 b3
  have g3 := o3.gro (by simp [put16, put32, maxLen]; omega)
  clear o3 o2 b2 b3
  have BL : Bytes (b ++ put16 n ++ put32 m ++ t) := ((Bb.append (put16_bytes n)).append (put32_bytes m m0 m1)).append Bt
  have hL : ((b ++ put16 n ++ put32 m ++ t).length : Int) ≤ 4611686018427387904 := by rw [back_len]; omega
  have E1 := hide (rd16_back b t n m)
  have E2 := hide (rd32_back b t n m)
  have l5 : (b ++ put16 n ++ put32 m ++ t).length ≤ 4194304 ∧ b.length ≤ (b ++ put16 n ++ put32 m ++ t).length := by rw [back_len]; omega
  have gl : (b ++ put16 n ++ put32 m).length + t.length ≤ 140737488355328 := by simp [put16, put32]; omega
  have GL := hide gl
  have G3 := hide g3
  clear gl g3
  have eb : (b ++ put16 n ++ put32 m ++ t).take b.length = b := by simp
  have EB := hide eb
  clear eb
  generalize b ++ put16 n ++ put32 m = L0 at *
  obtain ⟨L, eL⟩ : ∃ L, L0 ++ t = L := ⟨_, rfl⟩
  rw [eL] at BL hL E1 E2 l5 EB
  have EL := hide eL
  clear eL
  obtain ⟨l5, l6⟩ := l5
  go_wp2_with (at_builtin; refine wpList_grow rfl (.tmp 24) (.tmp 25) rfl rfl w2.heap.size v3 vt L0 t rfl rfl G3.out ht1 z3 GL.out L EL.out ?_)
  intro a4 c4 w4 hc4 g4 b4
  have i4 := g4.isB
  replace b1 := b1.trans (b4.mono z1)
  have E3 := hide (err32_end L)
  clear g4 b4 z1 z3 G3 GL EL ht1
  go_wp2_with fail
  refine (At16_any _ L _ w4 i4 BL hL (by omega)).mono ?_
  rintro e w5 ⟨rfl, b5⟩
  rw [E1.out.1, E1.out.2]
  replace i4 := i4.later b5
  replace b1 := later b1 b5
  go_wp2_with fail
  refine (At32_any _ L _ w5 i4 BL hL (by omega)).mono ?_
  rintro e w6 ⟨rfl, b6⟩
  rw [E2.out.1, E2.out.2]
  replace i4 := i4.later b6
  replace b1 := later b1 b6
  go_wp2_with fail
  refine (At32_any _ L _ w6 i4 BL hL (by omega)).mono ?_
  rintro e w7 ⟨rfl, b7⟩
  rw [E3.out]
  replace i4 := i4.later b7
  replace b1 := later b1 b7
  clear E1 E2 E3 b5 b6 b7
  generalize rd32 L (↑L.length - 3) = junk
  have HB := hide (hb.below b1)
  have HL := hide i4
  have T1 : Hid (IsB w7.heap.size w7 (.slice a4 b.length c4) b) := by
    have := i4.take b.length l6
    rw [EB.out] at this
    exact this
  have K1 := fun k => conv_str (W := w7.drewN k) (T1.out.below (below_drewN (Below.refl _ _) k))
  have K2 := fun k => conv_str (W := w7.drewN k) (HB.out.below (below_drewN (Below.refl _ _) k))
  have hlow := low_eq n
  clear HL HB T1 i4 hb ht EB
  go_wp2
  go_quiet (fail)
  go_wp2
  go_ret
  exact ⟨rfl, below_drewN b1 _⟩

end Go.Proofs.Ytneolboegjjfbab
