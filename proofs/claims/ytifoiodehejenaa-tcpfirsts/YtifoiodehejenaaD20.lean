
/-
  TcpOrder, TcpFirsts: the walks.
-/
import Derived.Test.YtifoiodehejenaaD17
namespace Go.Proofs.Ytifoiodehejenaa
open Go.RowKit Go.Shelf

theorem dif_up (a n c : Int) (n0 : 0 ≤ n) (n1 : n < 2147483648) : dif ((a + n + c) % 4294967296) ((a + c) % 4294967296) = n := by
  have : (((a + n + c) % 4294967296) - ((a + c) % 4294967296)) % 4294967296 = n := by omega
  unfold dif
  rw [this, if_pos n1]
theorem dif_down (a n : Int) (n0 : 0 ≤ n) (n1 : n < 2147483648) : dif a ((a + n) % 4294967296) = -n := by
  unfold dif
  split <;> omega
set_option maxHeartbeats 2000000 in
theorem order_walk (a n c : Int) (w : World) (a0 : 0 ≤ a) (a1 : a ≤ 4294967295) (n0 : 0 ≤ n) (n1 : n ≤ 4294967295) (_ : 0 ≤ c) (_ : c ≤ 4294967295) :
    Calls Try.prog 4 #[.int .u32 a, .int .u32 n, .int .u32 c] w fun e w' => e = .returned (.bool true) ∧ Below w.heap.size w w' := by
  obtain ⟨m, hm⟩ : ∃ m, m = n % 2147483648 := ⟨_, rfl⟩
  have m0 : 0 ≤ m ∧ m < 2147483648 := by omega
  have D1 : Hid (dif ((a + m) % 4294967296) a = m) := by
    have := dif_up a m 0 m0.1 m0.2
    rw [Int.add_zero, Int.add_zero, Int.emod_eq_of_lt a0 (by omega)] at this
    exact this
  have D2 : Hid (dif ((a + m + c) % 4294967296) ((a + c) % 4294967296) = m) := dif_up a m c m0.1 m0.2
  have D3 : Hid (dif a ((a + m) % 4294967296) = -m) := dif_down a m m0.1 m0.2
  have W1 : Hid (wit ((a + m) % 4294967296) a (m + 1) = true) := by unfold Hid wit; rw [decide_eq_true_eq]; omega
  have W2 : Hid (wit ((a + m) % 4294967296) a m = false) := by unfold Hid wit; rw [decide_eq_false_iff_not]; omega
  have HM := hide hm.symm
  have AW := hide (tAwake_any w)
  clear hm
  go_enter Try.func4, Try.ntmps4
  go_wp2_with fail
  refine AW.out.mono ?_
  rintro _ w1 ⟨rfl, b1⟩
  have B1 := hide b1
  clear b1 AW
  go_wp2_with fail
  rw [HM.out]
  refine (Diff_any _ _ _).mono ?_
  rintro _ wx ⟨rfl, hw⟩
  rw [hw, D1.out]
  clear hw wx D1
  clear HM
  go_wp2_with fail
  refine (Diff_any _ _ _).mono ?_
  rintro _ wx ⟨rfl, hw⟩
  rw [hw, D2.out]
  clear hw wx D2
  go_wp2_with fail
  refine (Diff_any _ _ _).mono ?_
  rintro _ wx ⟨rfl, hw⟩
  rw [hw, D3.out]
  clear hw wx D3
  go_wp2_with fail
  refine (Within_any _ _ _ (by unfold i64In; omega) _).mono ?_
  rintro _ wx ⟨rfl, hw⟩
  rw [hw, W1.out]
  clear hw wx W1
  go_wp2_with fail
  refine (Within_any _ _ _ (by unfold i64In; omega) _).mono ?_
  rintro _ wx ⟨rfl, hw⟩
  rw [hw, W2.out]
  clear hw wx W2
  go_wp2
  go_ret
  exact ⟨rfl, B1.out⟩
set_option maxHeartbeats 2000000 in
theorem firsts_walk (a n c : Int) (w : World) (_ : -9223372036854775808 ≤ a) (_ : a ≤ 9223372036854775807) (_ : -9223372036854775808 ≤ n) (_ : n ≤ 9223372036854775807) (_ : -9223372036854775808 ≤ c) (_ : c ≤ 9223372036854775807) :
    Calls Try.prog 8 #[.int .i64 a, .int .i64 n, .int .i64 c] w fun e w' => e = .returned (.bool true) ∧ Below w.heap.size w w' := by
  have AW := hide (tAwake_any w)
  go_enter Try.func8, Try.ntmps8
  go_wp2_with fail
  refine AW.out.mono ?_
  rintro _ w1 ⟨rfl, b1⟩
  have B1 := hide b1
  clear b1 AW
  by_cases h1 : a < 0
  · go_wp2
    go_ret
    exact ⟨rfl, B1.out⟩
  by_cases h2 : 1099511627776 < a
  · go_wp2
    go_ret
    exact ⟨rfl, B1.out⟩
  by_cases h3 : n ≤ 0
  · go_wp2
    go_ret
    exact ⟨rfl, B1.out⟩
  by_cases h4 : 524288 ≤ n
  · go_wp2
    go_ret
    exact ⟨rfl, B1.out⟩
  by_cases h5 : c < 0
  · go_wp2
    go_ret
    exact ⟨rfl, B1.out⟩
  by_cases h6 : 4096 * n ≤ c
  · go_wp2
    go_ret
    exact ⟨rfl, B1.out⟩
  go_wp2_with fail
  refine (First_any _ _).mono ?_
  rintro _ wx ⟨rfl, hw⟩
  rw [hw]
  clear hw wx
  go_wp2_with fail
  refine (First_any _ _).mono ?_
  rintro _ wx ⟨rfl, hw⟩
  rw [hw]
  clear hw wx
  go_wp2_with fail
  have D1 : Hid (dif (fst32 (a + n)) (fst32 a) = 4096 * n) := by unfold Hid dif fst32; split <;> omega
  have D2 : Hid (0 < dif (fst32 (a + n)) ((fst32 a + c) % 4294967296)) := by unfold Hid dif fst32; split <;> omega
  refine (Diff_any _ _ _).mono ?_
  rintro _ wx ⟨rfl, hw⟩
  rw [hw, D1.out]
  clear hw wx D1
  go_wp2_with fail
  refine (Diff_any _ _ _).mono ?_
  rintro _ wx ⟨rfl, hw⟩
  rw [hw]
  clear hw wx
  obtain ⟨d, hd⟩ : ∃ d, d = dif (fst32 (a + n)) ((fst32 a + c) % 4294967296) := ⟨_, rfl⟩
  have d0 : 0 < d := by rw [hd]; exact D2.out
  rw [← hd]
  clear hd D2
  go_wp2
  go_ret
  exact ⟨rfl, B1.out⟩
end Go.Proofs.Ytifoiodehejenaa
