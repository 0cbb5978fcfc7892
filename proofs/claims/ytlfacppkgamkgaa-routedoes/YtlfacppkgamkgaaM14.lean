
/-
  pdqsortCmpFunc of few rows, SortFunc.
-/
import Derived.Test.YtlfacppkgamkgaaM13
namespace Go.Proofs.Ytlfacppkgamkgaa
open Go.RowKit Go.Shelf

set_option maxRecDepth 100000 in
set_option maxHeartbeats 4000000 in
theorem Len64_any (n : Nat) (hn : n ≤ 8) (w : World) : Calls Try.prog 42 #[.int .u64 (n : Int)] w fun e w' => (∃ k, e = .returned (.int .i64 k)) ∧ w' = w := by
  have h9 : n = 0 ∨ n = 1 ∨ n = 2 ∨ n = 3 ∨ n = 4 ∨ n = 5 ∨ n = 6 ∨ n = 7 ∨ n = 8 := by omega
  clear hn
  rcases h9 with rfl | rfl | rfl | rfl | rfl | rfl | rfl | rfl | rfl
  all_goals
    go_enter Try.func42, Try.ntmps42
    go_wp2
    go_ret
    exact ⟨⟨_, rfl⟩, rfl⟩
set_option maxRecDepth 100000 in
theorem Len_any (n : Nat) (hn : n ≤ 8) (w : World) : Calls Try.prog 32 #[.int .u64 (n : Int)] w fun e w' => (∃ k, e = .returned (.int .i64 k)) ∧ w' = w := by
  have X := hide (Len64_any n hn w)
  go_enter Try.func32, Try.ntmps32
  go_wp2_with fail
  refine X.out.mono ?_
  rintro e w' ⟨⟨k, rfl⟩, hw⟩
  subst hw
  go_wp2
  go_ret
  exact ⟨⟨_, rfl⟩, rfl⟩
set_option maxRecDepth 100000 in
set_option maxHeartbeats 2000000 in
theorem pdq_any {w : World} {g cap : Nat} {X : List Rw} (a0 : Option Addr) (n : Nat) (k : Int) (hn : X.length = n) (h12 : n ≤ 12) (ha : 0 < n → a0 = some ⟨g, 0, none⟩) (hR : RowR w g X) :
    Calls Try.prog 31 #[.slice a0 n cap, .int .i64 0, .int .i64 (n : Int), .int .i64 k, .func (.func 15) #[] #[]] w fun e w' => e = .returned (.tuple #[]) ∧ ∃ Y, RowR w' g Y ∧ Y.Perm X ∧ Y.Pairwise (fun r s => r.pl ≤ s.pl) ∧ But (Only g) w w' := by
  have IN := hide (insertion_any (cap := cap) a0 n hn h12 ha hR)
  have zn : (n : Int) ≤ 12 := by omega
  clear hn ha hR
  go_enter Try.func31, Try.ntmps31
  go_wp2
  refine wp_loop_rounds 1 ?_
  rw [rounds_succ]
  go_wp2_with fail
  refine IN.out.mono ?_
  rintro e w' ⟨rfl, Y, h⟩
  go_wp2
  show bodyPost Try.prog Try.f31 _ Exit.ret _ _
  refine bodyPost_ret (v := .tuple #[]) (results_none rfl _ _ _) rfl ?_
  exact ⟨rfl, Y, h⟩
set_option maxRecDepth 100000 in
set_option maxHeartbeats 2000000 in
theorem SortFunc_any {w : World} {g cap : Nat} {X : List Rw} (a0 : Option Addr) (n : Nat) (hn : X.length = n) (h8 : n ≤ 8) (ha : 0 < n → a0 = some ⟨g, 0, none⟩) (hR : RowR w g X) :
    Calls Try.prog 27 #[.slice a0 n cap, .func (.func 15) #[] #[]] w fun e w' => e = .returned (.tuple #[]) ∧ ∃ Y, RowR w' g Y ∧ Y.Perm X ∧ Y.Pairwise (fun r s => r.pl ≤ s.pl) ∧ But (Only g) w w' := by
  have IN := hide (fun k => pdq_any (cap := cap) a0 n k hn (by omega) ha hR)
  have LE := hide (Len_any n h8 w)
  have wz : IntKind.u64.wrap (n : Int) = (n : Int) := by rw [IntKind.wrap_u64]; omega
  clear hn ha hR
  go_enter Try.func27, Try.ntmps27
  go_wp2_with fail
  refine LE.out.mono ?_
  rintro e w' ⟨⟨k, rfl⟩, hw⟩
  subst hw
  go_wp2_with fail
  refine (IN.out k).mono ?_
  rintro e w' ⟨rfl, Y, h⟩
  go_wp2
  go_end0
  exact ⟨rfl, Y, h⟩
end Go.Proofs.Ytlfacppkgamkgaa
