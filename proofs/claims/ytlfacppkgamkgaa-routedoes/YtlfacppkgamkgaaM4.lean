
/-
  Package route: byPlace; beginning, keyOf, in numbers and walked.
-/
import Derived.Test.YtlfacppkgamkgaaM3
namespace Go.Proofs.Ytlfacppkgamkgaa
open Go.RowKit Go.Shelf

/-- an octet without its last s bits -/
def mk (a : Int) (s : Nat) : Int := a / 2 ^ s * 2 ^ s
/-- how many bits of the octet i go -/
def sh (k i : Nat) : Nat := 8 - min (k - 8 * i) 8
def beg (x : I4) (k : Nat) : I4 := ⟨mk x.a (sh k 0), mk x.b (sh k 1), mk x.c (sh k 2), mk x.d (sh k 3)⟩
theorem and_fin : ∀ (s : Fin 9) (a : Fin 256), bits .and .u8 (a.val : Int) ((255 * 2 ^ s.val) % 256) = (a.val : Int) / 2 ^ s.val * 2 ^ s.val := by decide +kernel
theorem and_mk (a : Int) (s : Nat) (h0 : 0 ≤ a) (h1 : a ≤ 255) (hs : s ≤ 8) : bits .and .u8 a ((255 * 2 ^ s) % 256) = mk a s := by
  obtain ⟨n, rfl⟩ := Int.eq_ofNat_of_zero_le h0
  exact and_fin ⟨s, by omega⟩ ⟨n, by omega⟩
theorem mk_bd {a : Int} (s : Nat) (h0 : 0 ≤ a) (h1 : a ≤ 255) : 0 ≤ mk a s ∧ mk a s ≤ 255 := by
  unfold mk
  have hp : (0 : Int) < 2 ^ s := Int.pow_pos (by decide)
  have h2 := Int.ediv_mul_le a (Int.ne_of_gt hp)
  have h3 : 0 ≤ a / 2 ^ s := Int.ediv_nonneg h0 (Int.le_of_lt hp)
  have h4 : 0 ≤ a / 2 ^ s * 2 ^ s := Int.mul_nonneg h3 (Int.le_of_lt hp)
  omega

def cm (x y : Int) : Int := if x < y then -1 else if y < x then 1 else 0
theorem cm_neg {x y : Int} : cm x y < 0 ↔ x < y := by
  unfold cm; split
  · omega
  · split <;> omega
set_option maxRecDepth 100000 in
theorem isNaN_any (x : Int) (w : World) : Calls Try.prog 29 #[.int .i64 x] w fun e w' => e = .returned (.bool false) ∧ w' = w := by
  go_enter Try.func29, Try.ntmps29
  go_wp2
  go_ret
  exact ⟨rfl, rfl⟩
set_option maxRecDepth 100000 in
theorem Compare_any (x y : Int) (w : World) : Calls Try.prog 24 #[.int .i64 x, .int .i64 y] w fun e w' => e = .returned (.int .i64 (cm x y)) ∧ w' = w := by
  have X := hide (isNaN_any x w)
  have Y := hide (isNaN_any y w)
  unfold cm
  by_cases h1 : x < y
  · rw [if_pos h1]
    go_enter Try.func24, Try.ntmps24
    go_wp2_with fail
    refine X.out.mono ?_
    rintro e w' ⟨rfl, hw⟩
    subst hw
    go_wp2_with fail
    refine Y.out.mono ?_
    rintro e w' ⟨rfl, hw⟩
    subst hw
    go_wp2
    go_ret
    exact ⟨rfl, rfl⟩
  · by_cases h2 : y < x
    · rw [if_neg h1, if_pos h2]
      go_enter Try.func24, Try.ntmps24
      go_wp2_with fail
      refine X.out.mono ?_
      rintro e w' ⟨rfl, hw⟩
      subst hw
      go_wp2_with fail
      refine Y.out.mono ?_
      rintro e w' ⟨rfl, hw⟩
      subst hw
      go_wp2
      go_ret
      exact ⟨rfl, rfl⟩
    · rw [if_neg h1, if_neg h2]
      have h3 : x = y := by omega
      subst h3
      clear h1 h2
      go_enter Try.func24, Try.ntmps24
      go_wp2_with fail
      refine X.out.mono ?_
      rintro e w' ⟨rfl, hw⟩
      subst hw
      go_wp2_with fail
      refine Y.out.mono ?_
      rintro e w' ⟨rfl, hw⟩
      subst hw
      go_wp2
      go_ret
      exact ⟨rfl, rfl⟩
set_option maxRecDepth 100000 in
set_option maxHeartbeats 1000000 in
theorem byPlace_any (r q : Rw) (w : World) : Calls Try.prog 15 #[.agg r.cells.toArray, .agg q.cells.toArray] w fun e w' => e = .returned (.int .i64 (cm r.pl q.pl)) ∧ Below w.heap.size w w' := by
  obtain ⟨s, hs⟩ : ∃ s, s = w.heap.size := ⟨_, rfl⟩
  obtain ⟨X, hX⟩ : ∃ X, X = r.cells := ⟨_, rfl⟩
  obtain ⟨Y, hY⟩ : ∃ Y, Y = q.cells := ⟨_, rfl⟩
  rw [← hX, ← hY]
  obtain ⟨w1, hw1⟩ : ∃ w1, w1 = (w.alloc (.cells X.toArray 57)).alloc (.cells Y.toArray 57) := ⟨_, rfl⟩
  have b1 : Hid (Below w.heap.size w w1) := by rw [hw1]; exact ((Below.refl _ w).alloc (Nat.le_refl _) _).alloc (by simp) _
  have cx : w1.cell? ⟨s, 10, none⟩ = some (.int .i64 r.pl) := by
    have h := (CellsAt.new w X 57).but (by simp) ((But.refl (fun _ => False) _).alloc (.cells Y.toArray 57)) id
    rw [hw1, hs]
    exact h 10 _ (by rw [hX]; rfl)
  have cy : w1.cell? ⟨s + 1, 10, none⟩ = some (.int .i64 q.pl) := by
    have h := CellsAt.new (w.alloc (.cells X.toArray 57)) Y 57
    rw [World.size_alloc, ← hs] at h
    rw [hw1]
    exact h 10 _ (by rw [hY]; rfl)
  have hw1' := hw1.symm
  have hs' := hs.symm
  generalize r.pl = a at *
  generalize q.pl = b at *
  clear hX hY hw1 hs
  go_enter Try.func15, Try.ntmps15
  go_wp2_with fail
  refine (Compare_any a b _).mono ?_
  rintro e w' ⟨rfl, hw⟩
  subst hw
  go_wp2
  go_ret
  exact ⟨rfl, b1.out⟩
end Go.Proofs.Ytlfacppkgamkgaa
