
/-
  The chapter's example (awake).
-/
import Derived.Test.YtglbobobifejmaaQO
namespace Go.Proofs.Ytglbobobifejmaa
open Go.RowKit

def l1 : List (Int × Int) := [(1, 12)]
def l2 : List (Int × Int) := [(1, 12), (2, 11)]
def l3 : List (Int × Int) := [(1, 12), (2, 11), (3, 12)]
def l4 : List (Int × Int) := [(2, 11), (3, 12), (1, 12)]
theorem out4 : OutOf l4 12 l4 := ⟨by decide, fun τ => by rw [show l4.filter (fun p => decide (p.2 ≤ 12)) = l4 by decide]⟩

set_option maxRecDepth 100000 in
set_option maxHeartbeats 4000000 in
theorem awake_any (w : World) : Calls Try.prog 7 #[] w fun e w' => e = .returned (.bool true) ∧ Below w.heap.size w w' := by
  go_enter Try.func7, Try.ntmps7
  go_wp2_with fail
  refine (On.new w 10 (by decide)).mono ?_
  rintro e w1 ⟨rfl, h1, b1⟩
  obtain ⟨n, hn⟩ : ∃ n, w.heap.size = n := ⟨_, rfl⟩
  rw [hn] at h1 b1
  have H1 := hide h1
  have B1 := hide b1
  rw [hn]
  have HN := hide hn
  clear h1 b1 hn
  have A1 : Hid (Calls Try.prog 11 #[.pointer (some ⟨n, 0, none⟩), .int .i64 1, .int .i64 12] w1 fun e w' => e = .returned (.int .i64 0) ∧ On n w' n 10 l1 ∧ Below n w1 w') := H1.out.arm (Nat.le_of_lt H1.out.blt) (by decide) 1 12
  go_wp2_with fail
  refine A1.out.mono ?_
  rintro e w2 ⟨rfl, h2, b2⟩
  have H2 := hide h2
  have B2 := hide (B1.out.trans b2)
  clear h2 b2 H1 A1 B1
  have A1 : Hid (Calls Try.prog 11 #[.pointer (some ⟨n, 0, none⟩), .int .i64 2, .int .i64 11] w2 fun e w' => e = .returned (.int .i64 0) ∧ On n w' n 10 l2 ∧ Below n w2 w') := H2.out.arm (Nat.le_of_lt H2.out.blt) (by decide) 2 11
  go_wp2_with fail
  refine A1.out.mono ?_
  rintro e w3 ⟨rfl, h3, b3⟩
  have H3 := hide h3
  have B3 := hide (B2.out.trans b3)
  clear h3 b3 H2 A1 B2
  have A1 : Hid (Calls Try.prog 11 #[.pointer (some ⟨n, 0, none⟩), .int .i64 3, .int .i64 12] w3 fun e w' => e = .returned (.int .i64 0) ∧ On n w' n 10 l3 ∧ Below n w3 w') := H3.out.arm (Nat.le_of_lt H3.out.blt) (by decide) 3 12
  go_wp2_with fail
  refine A1.out.mono ?_
  rintro e w4 ⟨rfl, h4, b4⟩
  have H4 := hide h4
  have B4 := hide (B3.out.trans b4)
  clear h4 b4 H3 A1 B3
  have A1 : Hid (Calls Try.prog 11 #[.pointer (some ⟨n, 0, none⟩), .int .i64 1, .int .i64 12] w4 fun e w' => e = .returned (.int .i64 0) ∧ On n w' n 10 l4 ∧ Below n w4 w') := H4.out.arm (Nat.le_of_lt H4.out.blt) (by decide) 1 12
  go_wp2_with fail
  refine A1.out.mono ?_
  rintro e w5 ⟨rfl, h5, b5⟩
  have H5 := hide h5
  have B5 := hide (B4.out.trans b5)
  clear h5 b5 H4 A1 B4
  have A1 := hide (H5.out.adv (Nat.le_of_lt H5.out.blt) 12 (by decide))
  go_wp2_with fail
  refine A1.out.mono ?_
  rintro e w6 ⟨O, v, rfl, ho, hr, h6, b6⟩
  obtain rfl : O = l4 := ho.same out4
  have h6 : On n w6 n 12 [] := h6
  have H6 := hide h6
  have B6 := hide (B5.out.trans b6)
  have hr : w6.ownsRow _ 49 2 v 3 [.int .i64 2, .int .i64 11, .int .i64 3, .int .i64 12, .int .i64 1, .int .i64 12] := hr
  rcases hr.2 with ⟨_, e⟩ | ⟨g, cap, cur, rfl, _, _, hc, _⟩
  · cases e
  have c0 : w6.cell? ⟨g, 0, none⟩ = some (.int .i64 2) := World.ownsRow.cellAt hr 0 (by omega)
  have c1 : w6.cell? ⟨g, 1, none⟩ = some (.int .i64 11) := World.ownsRow.cellAt hr 1 (by omega)
  have c2 : w6.cell? ⟨g, 2, none⟩ = some (.int .i64 3) := World.ownsRow.cellAt hr 2 (by omega)
  have c3 : w6.cell? ⟨g, 3, none⟩ = some (.int .i64 12) := World.ownsRow.cellAt hr 3 (by omega)
  have c4 : w6.cell? ⟨g, 4, none⟩ = some (.int .i64 1) := World.ownsRow.cellAt hr 4 (by omega)
  have c5 : w6.cell? ⟨g, 5, none⟩ = some (.int .i64 12) := World.ownsRow.cellAt hr 5 (by omega)
  have LN : Hid (Calls Try.prog 23 #[.pointer (some ⟨n, 0, none⟩)] w6 fun e w' => e = .returned (.int .i64 0) ∧ w' = w6) := H6.out.len
  have NW := hide H6.out.tells
  have CN : Hid (Calls Try.prog 13 #[.pointer (some ⟨n, 0, none⟩), .int .i64 1] w6 fun e w' => e = .returned (.int .i64 7) ∧ On n w' n 12 [] ∧ Below n w6 w') := H6.out.cancel (Nat.le_of_lt H6.out.blt) 1
  clear ho hr h6 b6 H5 A1 B5
  go_wp2_with fail
  refine LN.out.mono ?_
  rintro e w7 ⟨rfl, rfl⟩
  go_wp2_with fail
  refine NW.out.mono ?_
  rintro e w8 ⟨rfl, rfl⟩
  go_wp2_with fail
  refine CN.out.mono ?_
  rintro e w9 ⟨rfl, _, b9⟩
  have B9 := hide (B6.out.trans b9)
  clear b9 B6 LN NW CN
  go_wp2
  go_ret
  exact ⟨rfl, by rw [HN.out]; exact B9.out⟩
end Go.Proofs.Ytglbobobifejmaa
