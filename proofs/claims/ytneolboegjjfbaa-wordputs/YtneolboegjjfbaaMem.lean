/-
  What a slice of bytes holds ('IsB'), and the contracts of stands, At16, At32.
-/
import Derived.Test.YtneolboegjjfbaaCalc
import Derived.Deep.QuietTactic
import Derived.BigQuiet
namespace Go.Proofs.Ytneolboegjjfbaa
open Go.RowKit

/-- THE SLICE VALUE v HOLDS THE BYTES bs, in a block below n₀ (where there is a byte at all). -/
def IsB (n₀ : Nat) (W : World) (v : Value) (bs : List Int) : Prop :=
  ∃ a cap, v = .slice a bs.length cap ∧ bs.length ≤ cap ∧ (a = none → cap = 0) ∧
    (0 < bs.length → ∃ b off, a = some ⟨b, off, none⟩ ∧ b < n₀ ∧ ∀ j, j < bs.length → W.cell? ⟨b, off + j, none⟩ = some (.int .u8 (bs[j]?.getD 0)))

theorem IsB.below {n₀ : Nat} {A B : World} (h : Below n₀ A B) {v : Value} {bs : List Int} (hb : IsB n₀ A v bs) : IsB n₀ B v bs := by
  obtain ⟨a, cap, e, hl, hn, hc⟩ := hb
  refine ⟨a, cap, e, hl, hn, fun h0 => ?_⟩
  obtain ⟨b, off, e1, hb, hcs⟩ := hc h0
  exact ⟨b, off, e1, hb, fun j hj => (h.cell (p := ⟨b, off + j, none⟩) hb).trans (hcs j hj)⟩
theorem IsB.mono {n₀ n₁ : Nat} (h : n₀ ≤ n₁) {W : World} {v : Value} {bs : List Int} (hb : IsB n₀ W v bs) : IsB n₁ W v bs := by
  obtain ⟨a, cap, e, hl, hn, hc⟩ := hb
  refine ⟨a, cap, e, hl, hn, fun h0 => ?_⟩
  obtain ⟨b, off, e1, hb, hcs⟩ := hc h0
  exact ⟨b, off, e1, by omega, hcs⟩
theorem IsB.nil (n₀ : Nat) (W : World) : IsB n₀ W (.slice none 0 0) [] := ⟨none, 0, rfl, by simp, fun _ => rfl, fun h => by simp at h⟩

theorem ret_two {k q : IntKind} {a b c : Int} (h : a = b) : Ending.returned (.tuple #[.int k a, .int q c]) = .returned (.tuple #[.int k b, .int q c]) := by rw [h]
theorem wrap64_fit (x : Int) (h0 : -4611686018427387904 ≤ x) (h1 : x ≤ 4611686018427387904) : wrap64 x = x := by unfold wrap64; omega
theorem wrap64_diff (len at_ : Int) (h0 : 0 ≤ len) (hl : len ≤ 4611686018427387904) (h1 : 0 ≤ at_) (h2 : at_ ≤ 9223372036854775807) : wrap64 (len - at_) = len - at_ := by unfold wrap64; omega

set_option maxHeartbeats 400000 in
theorem stands_pos (a : Option Addr) (len cap : Nat) (at_ size : Int) (hl : (len : Int) ≤ 4611686018427387904) (h0 : 0 ≤ at_) (h1 : at_ ≤ 9223372036854775807) (w : World) :
    Calls Try.prog 23 #[.slice a len cap, .int .i64 at_, .int .i64 size] w fun e w' => e = .returned (.bool (decide (size ≤ len - at_))) ∧ w' = w := by
  have hw := wrap64_diff len at_ (by omega) hl h0 h1
  clear hl h1
  go_enter Try.func23, Try.ntmps23
  go_wp2
  go_ret
  exact ⟨rfl, rfl⟩

set_option maxHeartbeats 400000 in
theorem stands_neg (a : Option Addr) (len cap : Nat) (at_ size : Int) (h0 : at_ < 0) (w : World) :
    Calls Try.prog 23 #[.slice a len cap, .int .i64 at_, .int .i64 size] w fun e w' => e = .returned (.bool false) ∧ w' = w := by
  go_enter Try.func23, Try.ntmps23
  go_wp2
  go_ret
  exact ⟨rfl, rfl⟩

/-- 'at' is a place from which on so many bytes stand -/
def stB (len : Nat) (at_ size : Int) : Bool := decide (0 ≤ at_ ∧ size ≤ len - at_)

theorem stands_any (a : Option Addr) (len cap : Nat) (at_ size : Int) (hl : (len : Int) ≤ 4611686018427387904) (h1 : at_ ≤ 9223372036854775807) (w : World) :
    Calls Try.prog 23 #[.slice a len cap, .int .i64 at_, .int .i64 size] w fun e w' => e = .returned (.bool (stB len at_ size)) ∧ w' = w := by
  by_cases h0 : 0 ≤ at_
  · refine (stands_pos a len cap at_ size hl h0 h1 w).mono ?_
    rintro e w' ⟨rfl, rfl⟩
    exact ⟨by simp [stB, h0], rfl⟩
  · refine (stands_neg a len cap at_ size (by omega) w).mono ?_
    rintro e w' ⟨rfl, rfl⟩
    exact ⟨by simp [stB, h0], rfl⟩

theorem At16_no (a : Option Addr) (len cap : Nat) (at_ : Int) (hl : (len : Int) ≤ 4611686018427387904) (h1 : at_ ≤ 9223372036854775807) (hs : stB len at_ 2 = false) (w : World) :
    Calls Try.prog 14 #[.slice a len cap, .int .i64 at_] w fun e w' => e = .returned (.tuple #[.int .i64 0, .int .i64 3]) ∧ w' = w := by
  have C := stands_any a len cap at_ 2 hl h1 w
  rw [hs] at C
  have HC := hide C
  clear C hl h1
  go_enter Try.func14, Try.ntmps14
  go_wp2_with fail
  refine (unhide HC).mono ?_
  rintro e w' ⟨rfl, rfl⟩
  clear HC
  go_wp2
  go_ret2
  exact ⟨rfl, rfl⟩

set_option maxHeartbeats 400000 in
theorem At16_yes (b off len cap : Nat) (k : Nat) (x y : Int) (hl : (len : Int) ≤ 4611686018427387904) (hk : k + 2 ≤ len) (w : World) (hx : w.cell? ⟨b, off + k, none⟩ = some (.int .u8 x)) (hy : w.cell? ⟨b, off + (k + 1), none⟩ = some (.int .u8 y))
    (x0 : 0 ≤ x) (x1 : x ≤ 255) (y0 : 0 ≤ y) (y1 : y ≤ 255) :
    Calls Try.prog 14 #[.slice (some ⟨b, off, none⟩) len cap, .int .i64 (k : Int)] w fun e w' => e = .returned (.tuple #[.int .i64 (256 * x + y), .int .i64 0]) ∧ ∃ n, w' = w.drewN n := by
  have C := stands_any (some ⟨b, off, none⟩) len cap k 2 hl (by omega) w
  have hs : stB len (k : Int) 2 = true := by simp [stB]; omega
  rw [hs] at C
  have HC := hide C
  clear C
  go_enter Try.func14, Try.ntmps14
  go_wp2_with fail
  refine (unhide HC).mono ?_
  rintro e w' ⟨rfl, rfl⟩
  clear HC
  go_wp2
  go_quiet (fail)
  go_wp2
  go_ret2
  exact ⟨ret_two (by rw [i64_join8 (x * 256) y (by omega) (by omega) (by omega) y0 y1]; omega), _, rfl⟩

theorem At32_no (a : Option Addr) (len cap : Nat) (at_ : Int) (hl : (len : Int) ≤ 4611686018427387904) (h1 : at_ ≤ 9223372036854775807) (hs : stB len at_ 4 = false) (w : World) :
    Calls Try.prog 15 #[.slice a len cap, .int .i64 at_] w fun e w' => e = .returned (.tuple #[.int .u32 0, .int .i64 3]) ∧ w' = w := by
  have C := stands_any a len cap at_ 4 hl h1 w
  rw [hs] at C
  have HC := hide C
  clear C hl h1
  go_enter Try.func15, Try.ntmps15
  go_wp2_with fail
  refine (unhide HC).mono ?_
  rintro e w' ⟨rfl, rfl⟩
  clear HC
  go_wp2
  go_ret2
  exact ⟨rfl, rfl⟩

set_option maxHeartbeats 1000000 in
theorem At32_yes (b off len cap : Nat) (k : Nat) (x y z u : Int) (hl : (len : Int) ≤ 4611686018427387904) (hk : k + 4 ≤ len) (w : World) (hx : w.cell? ⟨b, off + k, none⟩ = some (.int .u8 x)) (hy : w.cell? ⟨b, off + (k + 1), none⟩ = some (.int .u8 y))
    (hz : w.cell? ⟨b, off + (k + 2), none⟩ = some (.int .u8 z)) (hu : w.cell? ⟨b, off + (k + 3), none⟩ = some (.int .u8 u))
    (x0 : 0 ≤ x) (x1 : x ≤ 255) (y0 : 0 ≤ y) (y1 : y ≤ 255) (z0 : 0 ≤ z) (z1 : z ≤ 255) (u0 : 0 ≤ u) (u1 : u ≤ 255) :
    Calls Try.prog 15 #[.slice (some ⟨b, off, none⟩) len cap, .int .i64 (k : Int)] w fun e w' => e = .returned (.tuple #[.int .u32 (16777216 * x + 65536 * y + 256 * z + u), .int .i64 0]) ∧ ∃ n, w' = w.drewN n := by
  have C := stands_any (some ⟨b, off, none⟩) len cap k 4 hl (by omega) w
  have hs : stB len (k : Int) 4 = true := by simp [stB]; omega
  rw [hs] at C
  have HC := hide C
  clear C
  go_enter Try.func15, Try.ntmps15
  go_wp2_with fail
  refine (unhide HC).mono ?_
  rintro e w' ⟨rfl, rfl⟩
  clear HC
  go_wp2
  go_quiet (fail)
  go_wp2
  go_ret2
  exact ⟨ret_two (u32_join4 x y z u x0 x1 y0 y1 z0 z1 u0 u1), _, rfl⟩

/-- the number in two, four bytes from a place on; 0 where they do not stand there -/
def rd16 (bs : List Int) (at_ : Int) : Int := if stB bs.length at_ 2 = true then 256 * bs[at_.toNat]?.getD 0 + bs[at_.toNat + 1]?.getD 0 else 0
def rd32 (bs : List Int) (at_ : Int) : Int := if stB bs.length at_ 4 = true then 16777216 * bs[at_.toNat]?.getD 0 + 65536 * bs[at_.toNat + 1]?.getD 0 + 256 * bs[at_.toNat + 2]?.getD 0 + bs[at_.toNat + 3]?.getD 0 else 0
/-- OK, or ErrShort -/
def errOf (bs : List Int) (at_ size : Int) : Int := if stB bs.length at_ size = true then 0 else 3

theorem At16_any (v : Value) (bs : List Int) (at_ : Int) (w : World) (hb : IsB w.heap.size w v bs) (hB : Bytes bs) (hl : (bs.length : Int) ≤ 4611686018427387904) (h1 : at_ ≤ 9223372036854775807) :
    Calls Try.prog 14 #[v, .int .i64 at_] w fun e w' => e = .returned (.tuple #[.int .i64 (rd16 bs at_), .int .i64 (errOf bs at_ 2)]) ∧ Below w.heap.size w w' := by
  obtain ⟨a, cap, rfl, hlc, hn, hc⟩ := hb
  cases hs : stB bs.length at_ 2 with
  | false =>
    refine (At16_no a bs.length cap at_ hl h1 hs w).mono ?_
    rintro e w' ⟨rfl, rfl⟩
    exact ⟨by simp [rd16, errOf, hs], Below.refl _ _⟩
  | true =>
    have h2 : 0 ≤ at_ ∧ 2 ≤ (bs.length : Int) - at_ := by simpa [stB] using hs
    obtain ⟨k, rfl⟩ := Int.eq_ofNat_of_zero_le h2.1
    obtain ⟨b, off, rfl, hbb, hcs⟩ := hc (by omega)
    have g0 := hB.getD k
    have g1 := hB.getD (k + 1)
    refine (At16_yes b off bs.length cap k _ _ hl (by omega) w (hcs k (by omega)) (hcs (k + 1) (by omega)) g0.1 g0.2 g1.1 g1.2).mono ?_
    rintro e w' ⟨rfl, n, rfl⟩
    exact ⟨by simp [rd16, errOf, hs], below_drewN (Below.refl _ _) n⟩

theorem At32_any (v : Value) (bs : List Int) (at_ : Int) (w : World) (hb : IsB w.heap.size w v bs) (hB : Bytes bs) (hl : (bs.length : Int) ≤ 4611686018427387904) (h1 : at_ ≤ 9223372036854775807) :
    Calls Try.prog 15 #[v, .int .i64 at_] w fun e w' => e = .returned (.tuple #[.int .u32 (rd32 bs at_), .int .i64 (errOf bs at_ 4)]) ∧ Below w.heap.size w w' := by
  obtain ⟨a, cap, rfl, hlc, hn, hc⟩ := hb
  cases hs : stB bs.length at_ 4 with
  | false =>
    refine (At32_no a bs.length cap at_ hl h1 hs w).mono ?_
    rintro e w' ⟨rfl, rfl⟩
    exact ⟨by simp [rd32, errOf, hs], Below.refl _ _⟩
  | true =>
    have h2 : 0 ≤ at_ ∧ 4 ≤ (bs.length : Int) - at_ := by simpa [stB] using hs
    obtain ⟨k, rfl⟩ := Int.eq_ofNat_of_zero_le h2.1
    obtain ⟨b, off, rfl, hbb, hcs⟩ := hc (by omega)
    have g0 := hB.getD k
    have g1 := hB.getD (k + 1)
    have g2 := hB.getD (k + 2)
    have g3 := hB.getD (k + 3)
    refine (At32_yes b off bs.length cap k _ _ _ _ hl (by omega) w (hcs k (by omega)) (hcs (k + 1) (by omega)) (hcs (k + 2) (by omega)) (hcs (k + 3) (by omega)) g0.1 g0.2 g1.1 g1.2 g2.1 g2.2 g3.1 g3.2).mono ?_
    rintro e w' ⟨rfl, n, rfl⟩
    exact ⟨by simp [rd32, errOf, hs], below_drewN (Below.refl _ _) n⟩

end Go.Proofs.Ytneolboegjjfbaa
