
/-
  Package ip4: a packet's head as a value, its numbers; the contracts of within, mayBe, placeOf, number, at, sizes, Fits.
-/
import Derived.Test.YtgempelfamjabaaI3
import Derived.Laws.BitsAllLaws
namespace Go.Proofs.Ytgempelfamjabaa
open Go.RowKit Go.Shelf

/-- a packet's head -/
structure Pk where
  src : I4
  dst : I4
  proto : Int
  ttl : Int
  id : Int
  tos : Int
  whole : Bool
  more : Bool
  off : Int
  opts : List Int
  deriving DecidableEq
/-- its sixteen cells; ov is the slice of its options -/
def Pk.cells (p : Pk) (ov : Value) : List Value := p.src.vals ++ (p.dst.vals ++ [.int .i64 p.proto, .int .i64 p.ttl, .int .i64 p.id, .int .i64 p.tos, .bool p.whole, .bool p.more, .int .i64 p.off, ov])
theorem Pk.cells_len (p : Pk) (ov : Value) : (p.cells ov).length = 16 := rfl
theorem aggP (w : World) : (isAgg 26).run Try.prog w = .ok true w := by kernel_rfl
theorem sizP (w : World) : (Go.sizeOf 26).run Try.prog w = .ok 16 w := by kernel_rfl
theorem oneS (w : World) : (isAgg 24).run Try.prog w = .ok false w := by kernel_rfl
/-- may its numbers be? -/
def mb (p : Pk) : Bool := decide (0 ≤ p.proto ∧ p.proto ≤ 255) && (decide (0 ≤ p.tos ∧ p.tos ≤ 255) && (decide (0 ≤ p.id ∧ p.id ≤ 65535) && (decide (1 ≤ p.ttl ∧ p.ttl ≤ 255) && (decide (0 ≤ p.off ∧ p.off ≤ 65528) && decide (p.off % 8 = 0)))))
/-- its place among others -/
def pl (p : Pk) : Int := p.off / 8 + (if p.whole then 16384 else 0) + (if p.more then 8192 else 0)

theorem i64_bit (k : Nat) (hk : k ≤ 15) (n : Int) (h0 : 0 ≤ n) (h1 : n ≤ 65535) : bits .and .i64 n ((2 ^ k : Nat) : Int) = if n / ((2 ^ k : Nat) : Int) % 2 = 1 then ((2 ^ k : Nat) : Int) else 0 := by
  obtain ⟨a, rfl⟩ := Int.eq_ofNat_of_zero_le h0
  have hp : 2 ^ k < 2 ^ 62 := Nat.pow_lt_pow_right (by decide) (by omega)
  rw [(bits_nat .i64 62 (by decide) i64_wrap a (2 ^ k) (by omega) hp).1, nat_bit]
  have e : (a : Int) / ((2 ^ k : Nat) : Int) % 2 = ((a / 2 ^ k % 2 : Nat) : Int) := by simp
  rw [e]
  have : a / 2 ^ k % 2 < 2 := Nat.mod_lt _ (by decide)
  rcases (show a / 2 ^ k % 2 = 0 ∨ a / 2 ^ k % 2 = 1 by omega) with h | h <;> simp [h]
theorem and_32768 (n : Int) (h0 : 0 ≤ n) (h1 : n ≤ 65535) : bits .and .i64 n 32768 = if 32768 ≤ n then 32768 else 0 := by
  have := i64_bit 15 (by decide) n h0 h1
  simp only [show ((2 ^ 15 : Nat) : Int) = 32768 from rfl] at this
  rw [this]
  by_cases h : 32768 ≤ n
  · rw [if_pos h, if_pos (by omega)]
  · rw [if_neg h, if_neg (by omega)]
theorem and_16384 (n : Int) (h0 : 0 ≤ n) (h1 : n ≤ 65535) : bits .and .i64 n 16384 = if n / 16384 % 2 = 1 then 16384 else 0 := i64_bit 14 (by decide) n h0 h1
theorem and_8192 (n : Int) (h0 : 0 ≤ n) (h1 : n ≤ 65535) : bits .and .i64 n 8192 = if n / 8192 % 2 = 1 then 8192 else 0 := i64_bit 13 (by decide) n h0 h1
theorem and_8191 (n : Int) (h0 : 0 ≤ n) (h1 : n ≤ 65535) : bits .and .i64 n 8191 = n % 8192 := bits_mask .i64 62 (by decide) i64_wrap 13 (by decide) n h0 (by omega)
theorem u8_and15 (n : Int) (h0 : 0 ≤ n) (h1 : n ≤ 255) : bits .and .u8 n 15 = n % 16 := bits_mask .u8 8 (by decide) wraps_u8 4 (by decide) n h0 (by omega)
theorem or_comm64 (a b : Int) : bits .or .i64 a b = bits .or .i64 b a := by
  show IntKind.i64.wrap ((BitVec.ofInt 64 a ||| BitVec.ofInt 64 b).toNat : Nat) = IntKind.i64.wrap ((BitVec.ofInt 64 b ||| BitVec.ofInt 64 a).toNat : Nat)
  rw [BitVec.or_comm]
theorem or_16384 (n : Int) (h0 : 0 ≤ n) (h1 : n < 8192) : bits .or .i64 n 16384 = n + 16384 := by
  rw [or_comm64, bits_join .i64 62 (by decide) i64_wrap 14 16384 n (by decide) (by decide) (by decide) h0 (by omega) (by omega)]; omega
theorem or_8192 (n : Int) (h0 : 0 ≤ n) (h1 : n < 8192) : bits .or .i64 n 8192 = n + 8192 := by
  rw [or_comm64, bits_join .i64 62 (by decide) i64_wrap 13 8192 n (by decide) (by decide) (by decide) h0 (by omega) (by omega)]; omega
theorem or_8192w (n : Int) (h0 : 0 ≤ n) (h1 : n < 8192) : bits .or .i64 (n + 16384) 8192 = n + 16384 + 8192 := by
  have e : bits .or .i64 (n + 16384) 8192 = bits .or .i64 (bits .or .i64 n 16384) 8192 := by rw [or_16384 n h0 h1]
  obtain ⟨a, rfl⟩ := Int.eq_ofNat_of_zero_le h0
  have ha : a < 8192 := by omega
  have h3 : bits .or .i64 (((a + 16384 : Nat) : Nat) : Int) ((8192 : Nat) : Int) = (((a + 16384) ||| 8192 : Nat) : Int) := (bits_nat .i64 62 (by decide) i64_wrap (a + 16384) 8192 (by omega) (by decide)).2
  have h4 : (a + 16384) ||| 8192 = a + 16384 + 8192 := by
    have h5 : (16384 ||| a : Nat) = 16384 + a := nat_join 14 16384 a (by decide) (by omega)
    have h6 : (8192 ||| a : Nat) = 8192 + a := nat_join 13 8192 a (by decide) (by omega)
    have h7 : (16384 ||| (8192 + a) : Nat) = 16384 + (8192 + a) := nat_join 14 16384 (8192 + a) (by decide) (by omega)
    rw [Nat.add_comm a 16384, ← h5, Nat.or_assoc, Nat.or_comm a 8192, h6, h7]
    omega
  rw [h4] at h3
  clear e
  have e1 : ((a + 16384 : Nat) : Int) = (a : Int) + 16384 := by omega
  have e2 : ((a + 16384 + 8192 : Nat) : Int) = (a : Int) + 16384 + 8192 := by omega
  rw [e1, e2] at h3
  exact h3

end Go.Proofs.Ytgempelfamjabaa
