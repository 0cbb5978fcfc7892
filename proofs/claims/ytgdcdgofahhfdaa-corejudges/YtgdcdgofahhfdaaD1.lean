
/-
  Package tcp: a segment as a value; its smallest functions.
-/
import Derived.Test.YtgdcdgofahhfdaaU18
namespace Go.Proofs.Ytgdcdgofahhfdaa
open Go.RowKit Go.Shelf

/-- a span; a segment -/
structure Sp where
  f : Int
  t : Int
  deriving DecidableEq
structure Sg where
  src : Int
  dst : Int
  seq : Int
  ack : Int
  flg : Int
  wnd : Int
  mss : Int
  sak : Bool
  got : List Sp
  dat : List Int
  deriving DecidableEq
/-- its ten cells; gv and dv are the slices of its spans and of its data -/
def Sg.cells (s : Sg) (gv dv : Value) : List Value := [.int .i64 s.src, .int .i64 s.dst, .int .u32 s.seq, .int .u32 s.ack, .int .i64 s.flg, .int .i64 s.wnd, .int .i64 s.mss, .bool s.sak, gv, dv]
theorem Sg.cells_len (s : Sg) (gv dv : Value) : (s.cells gv dv).length = 10 := rfl
def Sp.cells (x : Sp) : List Value := [.int .u32 x.f, .int .u32 x.t]
def i64In (n : Int) : Prop := -9223372036854775808 ≤ n ∧ n ≤ 9223372036854775807
/-- its numbers are of their kinds -/
structure Sg.Ok (s : Sg) : Prop where
  src : i64In s.src
  dst : i64In s.dst
  seq : 0 ≤ s.seq ∧ s.seq < 4294967296
  ack : 0 ≤ s.ack ∧ s.ack < 4294967296
  flg : i64In s.flg
  wnd : i64In s.wnd
  mss : i64In s.mss
  got : ∀ x ∈ s.got, 0 ≤ x.f ∧ x.f < 4294967296 ∧ 0 ≤ x.t ∧ x.t < 4294967296
  dat : Bytes s.dat
theorem aggSg (w : World) : (isAgg 28).run Try.prog w = .ok true w := by kernel_rfl
theorem sizSg (w : World) : (Go.sizeOf 28).run Try.prog w = .ok 10 w := by kernel_rfl
theorem aggSp (w : World) : (isAgg 82).run Try.prog w = .ok true w := by kernel_rfl
theorem sizSp (w : World) : (Go.sizeOf 82).run Try.prog w = .ok 2 w := by kernel_rfl
theorem one32 (w : World) : (isAgg 22).run Try.prog w = .ok false w := by kernel_rfl
theorem oneSps (w : World) : (isAgg 25).run Try.prog w = .ok false w := by kernel_rfl
theorem boxS (w : World) (s : Sg) (gv dv : Value) : ∃ w1 b, b = w.heap.size ∧ w1 = w.alloc (.cells #[.int .i64 s.src, .int .i64 s.dst, .int .u32 s.seq, .int .u32 s.ack, .int .i64 s.flg, .int .i64 s.wnd, .int .i64 s.mss, .bool s.sak, gv, dv] 28) ∧ CellsAt w1 b 0 (s.cells gv dv) ∧ (∀ y, w1.frozen? ⟨b, y, none⟩ = false) ∧ Below w.heap.size w w1 ∧ b < w1.heap.size :=
  ⟨_, _, rfl, rfl, CellsAt.new w (s.cells gv dv) _, fun _ => frozen_new w _ _ _, later_alloc _ _, (CellsAt.new w (s.cells gv dv) _).lt (by rw [Sg.cells_len]; decide)⟩
/-- has a number a bit? -/
def hasB (n f : Int) : Bool := decide (n / f % 2 = 1)
theorem and_bit (k : Nat) (hk : k ≤ 4) (n : Int) : bits .and .i64 n ((2 ^ k : Nat) : Int) = if n / ((2 ^ k : Nat) : Int) % 2 = 1 then ((2 ^ k : Nat) : Int) else 0 := by
  have h1 : bits .and .i64 n ((2 ^ k : Nat) : Int) = IntKind.i64.wrap (((BitVec.ofInt 64 n) &&& (BitVec.ofInt 64 ((2 ^ k : Nat) : Int))).toNat : Nat) := rfl
  have hp : 2 ^ k < 2 ^ 62 := Nat.pow_lt_pow_right (by decide) (by omega)
  have h2 : (BitVec.ofInt 64 ((2 ^ k : Nat) : Int)).toNat = 2 ^ k := by
    rw [BitVec.toNat_ofInt]
    generalize 2 ^ k = p at *
    show ((p : Int) % 18446744073709551616).toNat = p
    omega
  have h4 : (BitVec.ofInt 64 n).toNat = (n % 18446744073709551616).toNat := by
    rw [BitVec.toNat_ofInt]; rfl
  rw [h1, BitVec.toNat_and, h2, h4, nat_bit]
  have hm : (((n % 18446744073709551616).toNat / 2 ^ k % 2 : Nat) : Int) = n / ((2 ^ k : Nat) : Int) % 2 := by
    rcases (show k = 0 ∨ k = 1 ∨ k = 2 ∨ k = 3 ∨ k = 4 by omega) with rfl | rfl | rfl | rfl | rfl <;> simp <;> omega
  have hlt : (n % 18446744073709551616).toNat / 2 ^ k % 2 < 2 := Nat.mod_lt _ (by decide)
  rcases (show (n % 18446744073709551616).toNat / 2 ^ k % 2 = 0 ∨ (n % 18446744073709551616).toNat / 2 ^ k % 2 = 1 by omega) with h | h
  · rw [h] at hm ⊢
    rw [if_neg (by omega), Nat.zero_mul]
    decide
  · rw [h] at hm ⊢
    rw [if_pos (by omega), Nat.one_mul]
    exact i64_wrap _ (by omega) (by exact_mod_cast hp)
theorem has_any (s : Sg) (gv dv : Value) (k : Nat) (hk : k ≤ 4) (w : World) : Calls Try.prog 60 #[.agg (s.cells gv dv).toArray, .int .i64 ((2 ^ k : Nat) : Int)] w fun e w' => e = .returned (.bool (hasB s.flg ((2 ^ k : Nat) : Int))) ∧ Below w.heap.size w w' := by
  have AB := and_bit k hk s.flg
  have HB : Hid (hasB s.flg ((2 ^ k : Nat) : Int) = decide (s.flg / ((2 ^ k : Nat) : Int) % 2 = 1)) := rfl
  have p0 : ((2 ^ k : Nat) : Int) ≠ 0 := by have := Nat.pow_pos (n := k) (show 0 < 2 by decide); omega
  rw [show (Value.agg (s.cells gv dv).toArray) = .agg #[.int .i64 s.src, .int .i64 s.dst, .int .u32 s.seq, .int .u32 s.ack, .int .i64 s.flg, .int .i64 s.wnd, .int .i64 s.mss, .bool s.sak, gv, dv] from rfl]
  obtain ⟨w1, b, hs, hw, c1, f1, b1, l1⟩ := boxS w s gv dv
  have k4 : w1.cell? ⟨b, 4, none⟩ = some (.int .i64 s.flg) := c1 4 _ rfl
  obtain ⟨r, hr⟩ : ∃ r, r = hasB s.flg ((2 ^ k : Nat) : Int) := ⟨_, rfl⟩
  rw [← hr] at HB ⊢
  generalize ((2 ^ k : Nat) : Int) = f at *
  obtain ⟨fl, hfl⟩ : ∃ fl, fl = s.flg := ⟨_, rfl⟩
  rw [← hfl] at AB HB k4 hw ⊢
  obtain ⟨m, hm⟩ : ∃ m, m = bits .and .i64 fl f := ⟨_, rfl⟩
  have q0 : (m != 0) = r := by
    rw [HB.out, hm, AB]
    by_cases e : fl / f % 2 = 1
    · rw [if_pos e, decide_eq_true e]; simpa using p0
    · rw [if_neg e, decide_eq_false e]; rfl
  have hm' := hm.symm
  have hs' := hs.symm
  have hw' := hw.symm
  have B1 := hide b1
  clear hs hw c1 f1 b1 HB hr AB hm hfl p0
  go_enter Try.func60, Try.ntmps60
  go_wp2
  go_ret
  exact ⟨rfl, B1.out⟩
/-- how many numbers a segment takes -/
def Sg.size (s : Sg) : Int := (s.dat.length : Int) + (if hasB s.flg 2 then 1 else 0) + (if hasB s.flg 1 then 1 else 0)
set_option maxHeartbeats 4000000 in
theorem Size_any (s : Sg) (gv : Value) (da : Option Addr) (dc : Nat) (w : World) (hl : s.dat.length ≤ 1125899906842624) : Calls Try.prog 55 #[.agg (s.cells gv (.slice da s.dat.length dc)).toArray] w fun e w' => e = .returned (.int .i64 s.size) ∧ Below w.heap.size w w' := by
  obtain ⟨X, hX⟩ : ∃ X, X = s.cells gv (.slice da s.dat.length dc) := ⟨_, rfl⟩
  have H2 : Hid (∀ W, Calls Try.prog 60 #[.agg X.toArray, .int .i64 2] W fun e w' => e = .returned (.bool (hasB s.flg 2)) ∧ Below W.heap.size W w') := fun W => by rw [hX]; exact has_any s gv _ 1 (by decide) W
  have H1 : Hid (∀ W, Calls Try.prog 60 #[.agg X.toArray, .int .i64 1] W fun e w' => e = .returned (.bool (hasB s.flg 1)) ∧ Below W.heap.size W w') := fun W => by rw [hX]; exact has_any s gv _ 0 (by decide) W
  have LX : Hid (X.length = 10) := by rw [hX]; exact rfl
  obtain ⟨w1, b, hs, hw, c1, f1, b1, l1⟩ := boxS w s gv (.slice da s.dat.length dc)
  have k9 : w1.cell? ⟨b, 9, none⟩ = some (.slice da s.dat.length dc) := c1 9 _ rfl
  have C1 : Hid (CellsAt w1 b 0 X) := by rw [hX]; exact c1
  rw [show (Value.agg (s.cells gv (.slice da s.dat.length dc)).toArray) = .agg #[.int .i64 s.src, .int .i64 s.dst, .int .u32 s.seq, .int .u32 s.ack, .int .i64 s.flg, .int .i64 s.wnd, .int .i64 s.mss, .bool s.sak, gv, .slice da s.dat.length dc] from rfl]
  obtain ⟨h2, hh2⟩ : ∃ h2, h2 = hasB s.flg 2 := ⟨_, rfl⟩
  obtain ⟨h1, hh1⟩ : ∃ h1, h1 = hasB s.flg 1 := ⟨_, rfl⟩
  obtain ⟨n, hn⟩ : ∃ n, n = s.dat.length := ⟨_, rfl⟩
  have SZ : Hid (s.size = (n : Int) + (if h2 then 1 else 0) + (if h1 then 1 else 0)) := by rw [hn, hh2, hh1]; exact rfl
  rw [SZ.out]
  rw [← hn] at k9 hl hw ⊢
  rw [← hh2] at H2
  rw [← hh1] at H1
  have z : (n : Int) ≤ 1125899906842624 := by omega
  have hs' := hs.symm
  have hw' := hw.symm
  have B1 := hide b1
  clear hs hw c1 f1 b1 hX hh2 hh1 hn SZ
  go_enter Try.func55, Try.ntmps55
  go_upto_region 2 with fail
  clear hs' hw' k9
  go_wp2_with (refine wpList_loadA rfl 28 10 aggSg sizSg _ rfl b 0 rfl X LX.out C1.out ?_)
  refine (H2.out w1).mono ?_
  rintro _ w2 ⟨rfl, b2⟩
  have C2 := hide (C1.out.later l1 b2)
  have B2 := hide (later B1.out b2)
  have G1 := hide (H1.out w2)
  clear b2 C1 H1 H2
  cases h2 with
  | false =>
    go_wp2_with (refine wpList_loadA rfl 28 10 aggSg sizSg _ rfl b 0 rfl X LX.out C2.out ?_)
    refine G1.out.mono ?_
    rintro _ w3 ⟨rfl, b3⟩
    have B3 := hide (later B2.out b3)
    clear b3
    cases h1 with
    | false =>
      go_wp2
      go_ret
      exact ⟨ret_int (by simp), B3.out⟩
    | true =>
      go_wp2
      go_ret
      exact ⟨ret_int (by simp), B3.out⟩
  | true =>
    go_wp2_with (refine wpList_loadA rfl 28 10 aggSg sizSg _ rfl b 0 rfl X LX.out C2.out ?_)
    refine G1.out.mono ?_
    rintro _ w3 ⟨rfl, b3⟩
    have B3 := hide (later B2.out b3)
    clear b3
    cases h1 with
    | false =>
      go_wp2
      go_ret
      exact ⟨ret_int (by simp), B3.out⟩
    | true =>
      go_wp2
      go_ret
      exact ⟨ret_int (by simp), B3.out⟩
/-- by how much one number lies behind another one -/
def dif (a b : Int) : Int := if (a - b) % 4294967296 < 2147483648 then (a - b) % 4294967296 else (a - b) % 4294967296 - 4294967296
theorem dif_wrap (a b : Int) : wrap64 (wrap32 ((a - b) % 4294967296)) = dif a b := by
  unfold dif wrap64 wrap32
  split <;> omega
theorem Diff_any (a b : Int) (w : World) : Calls Try.prog 47 #[.int .u32 a, .int .u32 b] w fun e w' => e = .returned (.int .i64 (dif a b)) ∧ w' = w := by
  have E := dif_wrap a b
  obtain ⟨d, hd⟩ : ∃ d, d = dif a b := ⟨_, rfl⟩
  rw [← hd] at E ⊢
  have HE := hide E
  clear E hd
  go_enter Try.func47, Try.ntmps47
  go_wp2
  go_ret
  exact ⟨ret_int HE.out, rfl⟩
def wit (n f m : Int) : Bool := decide ((n - f) % 4294967296 < m)
theorem Within_any (n f m : Int) (hm : i64In m) (w : World) : Calls Try.prog 61 #[.int .u32 n, .int .u32 f, .int .i64 m] w fun e w' => e = .returned (.bool (wit n f m)) ∧ w' = w := by
  obtain ⟨m0, m1⟩ := hm
  obtain ⟨d, hd⟩ : ∃ d, d = (n - f) % 4294967296 := ⟨_, rfl⟩
  have d0 : 0 ≤ d ∧ d < 4294967296 := by omega
  have WE : Hid (wit n f m = decide (d < m)) := by rw [hd]; exact rfl
  rw [WE.out]
  have HE := hide hd
  clear hd WE
  go_enter Try.func61, Try.ntmps61
  by_cases h : 0 < m
  · go_wp2
    go_ret
    refine ⟨?_, rfl⟩
    rw [HE.out]
    rfl
  · go_wp2
    go_ret
    refine ⟨?_, rfl⟩
    rw [decide_eq_false (by omega)]
    rfl
def fst32 (n : Int) : Int := n * 4096 % 4294967296
theorem First_any (n : Int) (w : World) : Calls Try.prog 46 #[.int .i64 n] w fun e w' => e = .returned (.int .u32 (fst32 n)) ∧ w' = w := by
  have E : IntKind.u32.wrap (IntKind.u32.wrap n * 4096) = fst32 n := by rw [IntKind.wrap_u32, IntKind.wrap_u32]; unfold fst32; omega
  have HE := hide E
  clear E
  go_enter Try.func46, Try.ntmps46
  go_wp2
  go_ret
  exact ⟨ret_int HE.out, rfl⟩
def upT (m n : Int) : Bool := decide (0 ≤ n) && decide (n ≤ m)
theorem upT_true {m n : Int} (h : upT m n = true) : 0 ≤ n ∧ n ≤ m := by
  unfold upT at h
  simpa using h
def areS (n : Nat) : Bool := decide (n = 10 ∨ n = 18 ∨ n = 26)
end Go.Proofs.Ytgdcdgofahhfdaa
