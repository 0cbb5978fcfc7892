
/-
  Package ip4: a packet's head as a value, its numbers; the contracts of within, mayBe, placeOf, number, at, sizes, Fits.
-/
import Derived.Test.YtiglejmmdghmgaaI3
import Derived.Laws.BitsAllLaws
namespace Go.Proofs.Ytiglejmmdghmgaa
open Go.RowKit Go.Shelf

/-- a packet's head -/
structure Pk where
  src : I4
  dst : I4
  proto : Int
  ttl : Int
  id : Int
  tos : Int
  whole : Bool
  more : Bool
  off : Int
  opts : List Int
  deriving DecidableEq
/-- its sixteen cells; ov is the slice of its options -/
def Pk.cells (p : Pk) (ov : Value) : List Value := p.src.vals ++ (p.dst.vals ++ [.int .i64 p.proto, .int .i64 p.ttl, .int .i64 p.id, .int .i64 p.tos, .bool p.whole, .bool p.more, .int .i64 p.off, ov])
theorem Pk.cells_len (p : Pk) (ov : Value) : (p.cells ov).length = 16 := rfl
theorem aggP (w : World) : (isAgg 26).run Try.prog w = .ok true w := by kernel_rfl
theorem sizP (w : World) : (Go.sizeOf 26).run Try.prog w = .ok 16 w := by kernel_rfl
theorem oneS (w : World) : (isAgg 24).run Try.prog w = .ok false w := by kernel_rfl
/-- may its numbers be? -/
def mb (p : Pk) : Bool := decide (0 ≤ p.proto ∧ p.proto ≤ 255) && (decide (0 ≤ p.tos ∧ p.tos ≤ 255) && (decide (0 ≤ p.id ∧ p.id ≤ 65535) && (decide (1 ≤ p.ttl ∧ p.ttl ≤ 255) && (decide (0 ≤ p.off ∧ p.off ≤ 65528) && decide (p.off % 8 = 0)))))
/-- its place among others -/
def pl (p : Pk) : Int := p.off / 8 + (if p.whole then 16384 else 0) + (if p.more then 8192 else 0)

theorem i64_bit (k : Nat) (hk : k ≤ 15) (n : Int) (h0 : 0 ≤ n) (h1 : n ≤ 65535) : bits .and .i64 n ((2 ^ k : Nat) : Int) = if n / ((2 ^ k : Nat) : Int) % 2 = 1 then ((2 ^ k : Nat) : Int) else 0 := by
  obtain ⟨a, rfl⟩ := Int.eq_ofNat_of_zero_le h0
  have hp : 2 ^ k < 2 ^ 62 := Nat.pow_lt_pow_right (by decide) (by omega)
  rw [(bits_nat .i64 62 (by decide) i64_wrap a (2 ^ k) (by omega) hp).1, nat_bit]
  have e : (a : Int) / ((2 ^ k : Nat) : Int) % 2 = ((a / 2 ^ k % 2 : Nat) : Int) := by simp
  rw [e]
  have : a / 2 ^ k % 2 < 2 := Nat.mod_lt _ (by decide)
  rcases (show a / 2 ^ k % 2 = 0 ∨ a / 2 ^ k % 2 = 1 by omega) with h | h <;> simp [h]
theorem and_32768 (n : Int) (h0 : 0 ≤ n) (h1 : n ≤ 65535) : bits .and .i64 n 32768 = if 32768 ≤ n then 32768 else 0 := by
  have := i64_bit 15 (by decide) n h0 h1
  simp only [show ((2 ^ 15 : Nat) : Int) = 32768 from rfl] at this
  rw [this]
  by_cases h : 32768 ≤ n
  · rw [if_pos h, if_pos (by omega)]
  · rw [if_neg h, if_neg (by omega)]
theorem and_16384 (n : Int) (h0 : 0 ≤ n) (h1 : n ≤ 65535) : bits .and .i64 n 16384 = if n / 16384 % 2 = 1 then 16384 else 0 := i64_bit 14 (by decide) n h0 h1
theorem and_8192 (n : Int) (h0 : 0 ≤ n) (h1 : n ≤ 65535) : bits .and .i64 n 8192 = if n / 8192 % 2 = 1 then 8192 else 0 := i64_bit 13 (by decide) n h0 h1
theorem and_8191 (n : Int) (h0 : 0 ≤ n) (h1 : n ≤ 65535) : bits .and .i64 n 8191 = n % 8192 := bits_mask .i64 62 (by decide) i64_wrap 13 (by decide) n h0 (by omega)
theorem u8_and15 (n : Int) (h0 : 0 ≤ n) (h1 : n ≤ 255) : bits .and .u8 n 15 = n % 16 := bits_mask .u8 8 (by decide) wraps_u8 4 (by decide) n h0 (by omega)
theorem or_comm64 (a b : Int) : bits .or .i64 a b = bits .or .i64 b a := by
  show IntKind.i64.wrap ((BitVec.ofInt 64 a ||| BitVec.ofInt 64 b).toNat : Nat) = IntKind.i64.wrap ((BitVec.ofInt 64 b ||| BitVec.ofInt 64 a).toNat : Nat)
  rw [BitVec.or_comm]
theorem or_16384 (n : Int) (h0 : 0 ≤ n) (h1 : n < 8192) : bits .or .i64 n 16384 = n + 16384 := by
  rw [or_comm64, bits_join .i64 62 (by decide) i64_wrap 14 16384 n (by decide) (by decide) (by decide) h0 (by omega) (by omega)]; omega
theorem or_8192 (n : Int) (h0 : 0 ≤ n) (h1 : n < 8192) : bits .or .i64 n 8192 = n + 8192 := by
  rw [or_comm64, bits_join .i64 62 (by decide) i64_wrap 13 8192 n (by decide) (by decide) (by decide) h0 (by omega) (by omega)]; omega
theorem or_8192w (n : Int) (h0 : 0 ≤ n) (h1 : n < 8192) : bits .or .i64 (n + 16384) 8192 = n + 16384 + 8192 := by
  have e : bits .or .i64 (n + 16384) 8192 = bits .or .i64 (bits .or .i64 n 16384) 8192 := by rw [or_16384 n h0 h1]
  obtain ⟨a, rfl⟩ := Int.eq_ofNat_of_zero_le h0
  have ha : a < 8192 := by omega
  have h3 : bits .or .i64 (((a + 16384 : Nat) : Nat) : Int) ((8192 : Nat) : Int) = (((a + 16384) ||| 8192 : Nat) : Int) := (bits_nat .i64 62 (by decide) i64_wrap (a + 16384) 8192 (by omega) (by decide)).2
  have h4 : (a + 16384) ||| 8192 = a + 16384 + 8192 := by
    have h5 : (16384 ||| a : Nat) = 16384 + a := nat_join 14 16384 a (by decide) (by omega)
    have h6 : (8192 ||| a : Nat) = 8192 + a := nat_join 13 8192 a (by decide) (by omega)
    have h7 : (16384 ||| (8192 + a) : Nat) = 16384 + (8192 + a) := nat_join 14 16384 (8192 + a) (by decide) (by omega)
    rw [Nat.add_comm a 16384, ← h5, Nat.or_assoc, Nat.or_comm a 8192, h6, h7]
    omega
  rw [h4] at h3
  clear e
  have e1 : ((a + 16384 : Nat) : Int) = (a : Int) + 16384 := by omega
  have e2 : ((a + 16384 + 8192 : Nat) : Int) = (a : Int) + 16384 + 8192 := by omega
  rw [e1, e2] at h3
  exact h3

set_option maxHeartbeats 400000 in
theorem within_any (n a b : Int) (w : World) : Calls Try.prog 35 #[.int .i64 n, .int .i64 a, .int .i64 b] w fun e w' => e = .returned (.bool (decide (a ≤ n ∧ n ≤ b))) ∧ w' = w := by
  go_enter Try.func35, Try.ntmps35
  by_cases h : a ≤ n
  · go_wp2
    go_ret
    refine ⟨?_, rfl⟩
    simp [h]
  · go_wp2
    go_ret
    refine ⟨?_, rfl⟩
    simp
    omega
set_option maxRecDepth 100000 in
set_option maxHeartbeats 2000000 in
theorem mayBe_any (p : Pk) (ov : Value) (w : World) : Calls Try.prog 19 #[.agg (p.cells ov).toArray] w fun e w' => e = .returned (.bool (mb p)) ∧ Below w.heap.size w w' := by
  obtain ⟨s, hs⟩ : ∃ s, s = w.heap.size := ⟨_, rfl⟩
  obtain ⟨X, hX⟩ : ∃ X, X = p.cells ov := ⟨_, rfl⟩
  have lX : X.length = 16 := by rw [hX]; rfl
  rw [← hX]
  obtain ⟨w1, hw1⟩ : ∃ w1, w1 = w.alloc (.cells X.toArray 26) := ⟨_, rfl⟩
  have b1 : Below w.heap.size w w1 := by rw [hw1]; exact (Below.refl _ w).alloc (Nat.le_refl _) _
  have c1 : CellsAt w1 s 0 (p.cells ov) := by rw [hw1, hs, ← hX]; exact CellsAt.new w X 26
  have x8 : w1.cell? ⟨s, 8, none⟩ = some (.int .i64 p.proto) := c1 8 _ rfl
  have x10 : w1.cell? ⟨s, 10, none⟩ = some (.int .i64 p.id) := c1 10 _ rfl
  have x9 : w1.cell? ⟨s, 9, none⟩ = some (.int .i64 p.ttl) := c1 9 _ rfl
  have x11 : w1.cell? ⟨s, 11, none⟩ = some (.int .i64 p.tos) := c1 11 _ rfl
  have x14 : w1.cell? ⟨s, 14, none⟩ = some (.int .i64 p.off) := c1 14 _ rfl
  have HB := hide b1
  have MB : Hid (mb p = (decide (0 ≤ p.proto ∧ p.proto ≤ 255) && (decide (0 ≤ p.tos ∧ p.tos ≤ 255) && (decide (0 ≤ p.id ∧ p.id ≤ 65535) && (decide (1 ≤ p.ttl ∧ p.ttl ≤ 255) && (decide (0 ≤ p.off ∧ p.off ≤ 65528) && decide (p.off % 8 = 0))))))) := rfl
  obtain ⟨m, hm⟩ : ∃ m, m = mb p := ⟨_, rfl⟩
  rw [← hm] at MB ⊢
  clear hm
  clear c1 b1 hX
  go_enter Try.func19, Try.ntmps19
  have hw1' := hw1.symm
  have hs' := hs.symm
  clear hw1 hs
  go_wp2_with fail
  clear hw1' hs'
  refine (within_any _ _ _ _).mono ?_
  rintro _ _ ⟨rfl, rfl⟩
  obtain ⟨d1, h1⟩ : ∃ d1, d1 = decide (0 ≤ p.proto ∧ p.proto ≤ 255) := ⟨_, rfl⟩
  rw [← h1] at MB ⊢
  clear h1
  cases d1 with
  | false =>
    go_wp2
    go_ret
    exact ⟨by rw [MB.out]; rfl, HB.out⟩
  | true =>
  go_wp2_with fail
  refine (within_any _ _ _ _).mono ?_
  rintro _ _ ⟨rfl, rfl⟩
  obtain ⟨d1, h1⟩ : ∃ d1, d1 = decide (0 ≤ p.tos ∧ p.tos ≤ 255) := ⟨_, rfl⟩
  rw [← h1] at MB ⊢
  clear h1
  cases d1 with
  | false =>
    go_wp2
    go_ret
    exact ⟨by rw [MB.out]; rfl, HB.out⟩
  | true =>
  go_wp2_with fail
  refine (within_any _ _ _ _).mono ?_
  rintro _ _ ⟨rfl, rfl⟩
  obtain ⟨d1, h1⟩ : ∃ d1, d1 = decide (0 ≤ p.id ∧ p.id ≤ 65535) := ⟨_, rfl⟩
  rw [← h1] at MB ⊢
  clear h1
  cases d1 with
  | false =>
    go_wp2
    go_ret
    exact ⟨by rw [MB.out]; rfl, HB.out⟩
  | true =>
  go_wp2_with fail
  refine (within_any _ _ _ _).mono ?_
  rintro _ _ ⟨rfl, rfl⟩
  obtain ⟨d1, h1⟩ : ∃ d1, d1 = decide (1 ≤ p.ttl ∧ p.ttl ≤ 255) := ⟨_, rfl⟩
  rw [← h1] at MB ⊢
  clear h1
  cases d1 with
  | false =>
    go_wp2
    go_ret
    exact ⟨by rw [MB.out]; rfl, HB.out⟩
  | true =>
  go_wp2_with fail
  refine (within_any _ _ _ _).mono ?_
  rintro _ _ ⟨rfl, rfl⟩
  obtain ⟨d1, h1⟩ : ∃ d1, d1 = decide (0 ≤ p.off ∧ p.off ≤ 65528) := ⟨_, rfl⟩
  rw [← h1] at MB ⊢
  cases d1 with
  | false =>
    clear h1
    go_wp2
    go_ret
    exact ⟨by rw [MB.out]; rfl, HB.out⟩
  | true =>
    have h2 : 0 ≤ p.off ∧ p.off ≤ 65528 := of_decide_eq_true h1.symm
    obtain ⟨h20, h21⟩ := h2
    clear h1
    have hq : (p.off.tmod 8 == 0) = m := by
      rw [MB.out, Int.tmod_eq_emod_of_nonneg h20]
      simp only [Bool.true_and]
      rw [Bool.eq_iff_iff]
      simp
    have HQ := hide hq
    clear hq
    go_wp2
    go_ret
    refine ⟨?_, HB.out⟩
    rw [← HQ.out]
    try rw [Int.tmod_eq_emod_of_nonneg h20]
    try rfl
set_option maxRecDepth 100000 in
set_option maxHeartbeats 2000000 in
theorem placeOf_any (p : Pk) (ov : Value) (h0 : 0 ≤ p.off) (h1 : p.off ≤ 65528) (w : World) : Calls Try.prog 23 #[.agg (p.cells ov).toArray] w fun e w' => e = .returned (.int .i64 (pl p)) ∧ Below w.heap.size w w' := by
  obtain ⟨s, hs⟩ : ∃ s, s = w.heap.size := ⟨_, rfl⟩
  obtain ⟨X, hX⟩ : ∃ X, X = p.cells ov := ⟨_, rfl⟩
  have lX : X.length = 16 := by rw [hX]; rfl
  rw [← hX]
  obtain ⟨w1, hw1⟩ : ∃ w1, w1 = w.alloc (.cells X.toArray 26) := ⟨_, rfl⟩
  have b1 : Below w.heap.size w w1 := by rw [hw1]; exact (Below.refl _ w).alloc (Nat.le_refl _) _
  have c1 : CellsAt w1 s 0 (p.cells ov) := by rw [hw1, hs, ← hX]; exact CellsAt.new w X 26
  have x12 : w1.cell? ⟨s, 12, none⟩ = some (.bool p.whole) := c1 12 _ rfl
  have x13 : w1.cell? ⟨s, 13, none⟩ = some (.bool p.more) := c1 13 _ rfl
  have x14 : w1.cell? ⟨s, 14, none⟩ = some (.int .i64 p.off) := c1 14 _ rfl
  have HB := hide b1
  have HS : Hid (Below s w w1) := by rw [hs]; exact b1
  have PL : Hid (pl p = p.off / 8 + (if p.whole then 16384 else 0) + (if p.more then 8192 else 0)) := rfl
  obtain ⟨n, hn⟩ : ∃ n, n = pl p := ⟨_, rfl⟩
  rw [← hn] at PL ⊢
  obtain ⟨q, hq⟩ : ∃ q, q = p.off / 8 := ⟨_, rfl⟩
  have q0 : 0 ≤ q := by omega
  have q1 : q < 8192 := by omega
  rw [← hq] at PL
  have HQ := hide hq
  have o1 := or_16384 q q0 q1
  have o2 := or_8192 q q0 q1
  have o3 := or_8192w q q0 q1
  have hq' : p.off / 8 = q := hq.symm
  clear hn hq c1 b1 hX
  obtain ⟨wh, hwh⟩ : ∃ wh, wh = p.whole := ⟨_, rfl⟩
  obtain ⟨mo, hmo⟩ : ∃ mo, mo = p.more := ⟨_, rfl⟩
  rw [← hwh] at x12 PL
  rw [← hmo] at x13 PL
  clear hwh hmo
  go_enter Try.func23, Try.ntmps23
  have hw1' := hw1.symm
  have hs' := hs.symm
  clear hw1 hs
  cases wh <;> cases mo
  all_goals
    go_wp2
    go_ret
    refine ⟨ret_int ?_, by first | exact HB.out | exact HS.out⟩
    rw [PL.out]
    simp <;> omega
set_option maxHeartbeats 1000000 in
theorem number_any (n : Int) (w : World) : Calls Try.prog 22 #[.int .i64 n] w fun e w' => ∃ v', e = .returned v' ∧ OwnB w.heap.size w' v' (put16 n) ∧ Below w.heap.size w w' := by
  have P := hide (Put16_any (.slice none 0 0) [] n w (IsB.nil _ _) (by simp))
  go_enter Try.func22, Try.ntmps22
  go_wp2_with fail
  refine P.out.mono ?_
  rintro _ w' ⟨v', rfl, ho, hb⟩
  have HO := hide ho
  have HB := hide hb
  clear ho hb P
  go_wp2
  go_ret
  exact ⟨v', rfl, HO.out, HB.out⟩
set_option maxHeartbeats 1000000 in
theorem at_any (v : Value) (bs : List Int) (at_ : Int) (w : World) (hb : IsB w.heap.size w v bs) (hB : Bytes bs) (hl : (bs.length : Int) ≤ 4611686018427387904) (h1 : at_ ≤ 9223372036854775807) :
    Calls Try.prog 42 #[v, .int .i64 at_] w fun e w' => e = .returned (.int .i64 (rd16 bs at_)) ∧ Below w.heap.size w w' := by
  have A := hide (At16_any v bs at_ w hb hB hl h1)
  go_enter Try.func42, Try.ntmps42
  go_wp2_with fail
  refine A.out.mono ?_
  rintro _ w' ⟨rfl, hb'⟩
  have HB := hide hb'
  clear hb' A
  go_wp2
  go_ret
  exact ⟨rfl, HB.out⟩
end Go.Proofs.Ytiglejmmdghmgaa
