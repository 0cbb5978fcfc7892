
/-
  Package frag: the contracts of its smallest functions.
-/
import Derived.Test.YtgempelfamjabaaU18
namespace Go.Proofs.Ytgempelfamjabaa
open Go.RowKit Go.Shelf

/-- a head's cells as they stand in a box -/
def Pk.arr (p : Pk) (ov : Value) : Array Value := #[.int .u8 p.src.a, .int .u8 p.src.b, .int .u8 p.src.c, .int .u8 p.src.d, .int .u8 p.dst.a, .int .u8 p.dst.b, .int .u8 p.dst.c, .int .u8 p.dst.d, .int .i64 p.proto, .int .i64 p.ttl, .int .i64 p.id, .int .i64 p.tos, .bool p.whole, .bool p.more, .int .i64 p.off, ov]
theorem Pk.arr_eq (p : Pk) (ov : Value) : (p.cells ov).toArray = p.arr ov := rfl
theorem boxP (w : World) (p : Pk) (ov : Value) : ∃ w1 s, s = w.heap.size ∧ w1 = w.alloc (.cells #[.int .u8 p.src.a, .int .u8 p.src.b, .int .u8 p.src.c, .int .u8 p.src.d, .int .u8 p.dst.a, .int .u8 p.dst.b, .int .u8 p.dst.c, .int .u8 p.dst.d, .int .i64 p.proto, .int .i64 p.ttl, .int .i64 p.id, .int .i64 p.tos, .bool p.whole, .bool p.more, .int .i64 p.off, ov] 26) ∧ CellsAt w1 s 0 (p.cells ov) ∧ (∀ y, w1.frozen? ⟨s, y, none⟩ = false) ∧ Below w.heap.size w w1 ∧ s < w1.heap.size :=
  ⟨_, _, rfl, rfl, CellsAt.new w (p.cells ov) _, fun _ => frozen_new w _ _ _, later_alloc _ _, (CellsAt.new w (p.cells ov) _).lt (by rw [Pk.cells_len]; decide)⟩
/-- is it a piece? -/
def frg (p : Pk) : Bool := p.more || decide (0 < p.off)
theorem isFragment_any (p : Pk) (ov : Value) (w : World) : Calls Try.prog 30 #[.agg (p.cells ov).toArray] w fun e w' => e = .returned (.bool (frg p)) ∧ Below w.heap.size w w' := by
  rw [show (Value.agg (p.cells ov).toArray) = .agg #[.int .u8 p.src.a, .int .u8 p.src.b, .int .u8 p.src.c, .int .u8 p.src.d, .int .u8 p.dst.a, .int .u8 p.dst.b, .int .u8 p.dst.c, .int .u8 p.dst.d, .int .i64 p.proto, .int .i64 p.ttl, .int .i64 p.id, .int .i64 p.tos, .bool p.whole, .bool p.more, .int .i64 p.off, ov] from rfl]
  obtain ⟨w1, s, hs, hw, c1, f1, b1, l1⟩ := boxP w p ov
  have k13 : w1.cell? ⟨s, 13, none⟩ = some (.bool p.more) := c1 13 _ rfl
  have k14 : w1.cell? ⟨s, 14, none⟩ = some (.int .i64 p.off) := c1 14 _ rfl
  obtain ⟨mo, hmo⟩ : ∃ mo, mo = p.more := ⟨_, rfl⟩
  obtain ⟨po, hpo⟩ : ∃ po, po = p.off := ⟨_, rfl⟩
  have FE : Hid (frg p = (mo || decide (0 < po))) := by rw [hmo, hpo]; exact rfl
  rw [FE.out]
  rw [← hmo] at k13 hw ⊢
  rw [← hpo] at k14 hw ⊢
  have hs' := hs.symm
  have hw' := hw.symm
  have B1 := hide b1
  clear hs hw c1 f1 b1 FE hmo hpo
  go_enter Try.func30, Try.ntmps30
  cases mo with
  | true =>
    go_wp2
    go_ret
    exact ⟨rfl, B1.out⟩
  | false =>
    go_wp2
    go_ret
    exact ⟨rfl, B1.out⟩
theorem roomFor_any (oa : Option Addr) (n c : Nat) (mtu : Int) (w : World) (hn : n ≤ 40) (h0 : 68 ≤ mtu) (h1 : mtu ≤ 9223372036854775807) : Calls Try.prog 24 #[.slice oa n c, .int .i64 mtu] w fun e w' => e = .returned (.int .i64 (mtu - 20 - n)) ∧ w' = w := by
  have zn : (n : Int) ≤ 40 := by omega
  have z2 : 0 ≤ (n : Int) := by omega
  go_enter Try.func24, Try.ntmps24
  go_wp2
  go_ret
  exact ⟨rfl, rfl⟩
theorem fLen_any (w : World) (b : Nat) (a : Option Addr) (n c : Nat) (h : w.cell? ⟨b, 0, none⟩ = some (.slice a n c)) : Calls Try.prog 23 #[.pointer (some ⟨b, 0, none⟩)] w fun e w' => e = .returned (.int .i64 (n : Int)) ∧ w' = w := by
  go_enter Try.func23, Try.ntmps23
  go_wp2
  go_ret
  exact ⟨rfl, rfl⟩
theorem fNew_any (w : World) : Calls Try.prog 13 #[] w fun e w' => e = .returned (.pointer (some ⟨w.heap.size, 0, none⟩)) ∧ w'.cell? ⟨w.heap.size, 0, none⟩ = some (.slice none 0 0) ∧ w'.frozen? ⟨w.heap.size, 0, none⟩ = false ∧ Below w.heap.size w w' := by
  obtain ⟨w2, hw2⟩ : ∃ w2, w2 = w.alloc (.cells #[.slice none 0 0] 64) := ⟨_, rfl⟩
  have b2 : Below w.heap.size w w2 := by rw [hw2]; exact later_alloc _ _
  have c2 : CellsAt w2 w.heap.size 0 [.slice none 0 0] := by rw [hw2]; exact CellsAt.new w _ _
  have f2 : w2.frozen? ⟨w.heap.size, 0, none⟩ = false := by rw [hw2]; exact frozen_new w _ _ _
  have C2 := hide c2
  have B2 := hide b2
  have F2 := hide f2
  have hw2' := hw2.symm
  clear hw2 b2 c2 f2
  go_enter Try.func13, Try.ntmps13
  go_wp2
  go_ret
  exact ⟨rfl, C2.out 0 _ rfl, F2.out, B2.out⟩
/-- have so many ticks gone by? -/
def hpB (f n t : Int) : Bool := decide (f ≤ n) && decide (t ≤ n - f)
theorem havePassed_any (f n t : Int) (w : World) (hf : -9223372036854775808 ≤ f ∧ f ≤ 9223372036854775807) (hn : -9223372036854775808 ≤ n ∧ n ≤ 9223372036854775807) (ht : 0 ≤ t ∧ t ≤ 1000) :
    Calls Try.prog 27 #[.int .i64 f, .int .i64 n, .int .i64 t] w fun e w' => e = .returned (.bool (hpB f n t)) ∧ w' = w := by
  go_enter Try.func27, Try.ntmps27
  by_cases h : f ≤ n
  · have e : IntKind.u64.wrap (IntKind.u64.wrap n - IntKind.u64.wrap f) = n - f := by
      show ((n % 18446744073709551616) - (f % 18446744073709551616)) % 18446744073709551616 = n - f
      omega
    have HE := hide e
    clear e
    go_wp2_with fail
    go_ret
    refine ⟨?_, rfl⟩
    rw [HE.out]
    simp [hpB, h]
  · go_wp2_with fail
    go_ret
    refine ⟨?_, rfl⟩
    unfold hpB
    rw [decide_eq_false (show ¬ f ≤ n by omega)]
    rfl
/-- a piece: where it begins, its bytes, whether it is the last one, its buffer -/
structure Pc where
  at_ : Int
  dv : Value
  D : List Int
  last : Bool
  buf : Int
def Pc.cells (c : Pc) : List Value := [.int .i64 c.at_, c.dv, .bool c.last, .int .i64 c.buf]
def Pc.end_ (c : Pc) : Int := c.at_ + c.D.length
structure Pc.Ok (P : Nat → Prop) (W : World) (c : Pc) : Prop where
  d : CB P W c.dv c.D
  lo : 0 ≤ c.at_
  hi : c.at_ + c.D.length ≤ 1024
theorem aggPc (w : World) : (isAgg 80).run Try.prog w = .ok true w := by kernel_rfl
theorem sizPc (w : World) : (Go.sizeOf 80).run Try.prog w = .ok 4 w := by kernel_rfl
theorem end_any {P : Nat → Prop} (c : Pc) (w : World) (h : c.Ok P w) : Calls Try.prog 50 #[.agg c.cells.toArray] w fun e w' => e = .returned (.int .i64 c.end_) ∧ Below w.heap.size w w' := by
  obtain ⟨a, cap, edv⟩ := h.d.shape
  obtain ⟨n, hn⟩ : ∃ n, n = c.D.length := ⟨_, rfl⟩
  have h1 := h.lo
  have h2 := h.hi
  obtain ⟨at0, h0⟩ : ∃ at0, at0 = c.at_ := ⟨_, rfl⟩
  rw [← hn] at edv h2
  rw [← h0] at h1 h2
  have EE : Hid (c.end_ = at0 + n) := by rw [h0, hn]; exact rfl
  rw [show (Value.agg c.cells.toArray) = .agg #[.int .i64 c.at_, c.dv, .bool c.last, .int .i64 c.buf] from rfl, ← h0, edv]
  obtain ⟨w1, hw1⟩ : ∃ w1, w1 = w.alloc (.cells #[.int .i64 at0, .slice a n cap, .bool c.last, .int .i64 c.buf] 80) := ⟨_, rfl⟩
  have b1 : Below w.heap.size w w1 := by rw [hw1]; exact later_alloc _ _
  have c1 : CellsAt w1 w.heap.size 0 [.int .i64 at0, .slice a n cap, .bool c.last, .int .i64 c.buf] := by rw [hw1]; exact CellsAt.new w _ _
  obtain ⟨s, hs⟩ : ∃ s, s = w.heap.size := ⟨_, rfl⟩
  rw [← hs] at c1
  have k0 : w1.cell? ⟨s, 0, none⟩ = some (.int .i64 at0) := c1 0 _ rfl
  have k1 : w1.cell? ⟨s, 1, none⟩ = some (.slice a n cap) := c1 1 _ rfl
  have hs' := hs.symm
  have hw1' := hw1.symm
  have B1 := hide b1
  have nz : (0 : Int) ≤ n := by omega
  clear h hw1 b1 c1 hs edv hn h0
  go_enter Try.func50, Try.ntmps50
  go_wp2
  go_ret
  exact ⟨by rw [EE.out]; rfl, B1.out⟩
end Go.Proofs.Ytgempelfamjabaa
