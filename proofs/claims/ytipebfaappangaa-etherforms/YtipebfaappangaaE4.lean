
/-
  Package ether: the contracts of put, at and bytes.Clone.
-/
import Derived.Test.YtipebfaappangaaE1
import Derived.Test.YtipebfaappangaaMath
import Derived.Laws.CopyOwn
import Derived.Lib.SmallJoins
namespace Go.Proofs.Ytipebfaappangaa
open Go.RowKit

def Only (b : Nat) : Nat → Prop := fun g => g = b
theorem But.cellb {b : Nat} {w W : World} (hb : But (Only b) w W) (k : Nat) (v : Value) : But (Only b) w (W.setCell ⟨b, k, none⟩ v) := hb.setCell (p := ⟨b, k, none⟩) (.inr rfl) v
theorem But.drewN {K : Nat → Prop} {a w : World} (h : But K a w) (n : Nat) : But K a (w.drewN n) := ⟨h.os, h.tape, h.output, h.size, h.block⟩
theorem But.cells (b : Nat) : ∀ (vs : List Value) (o : Nat) (w : World), But (Only b) w (w.setCells b o vs)
  | [], _, _ => But.refl _ _
  | v :: r, o, _ => ((But.refl _ _).cellb o v).trans (But.cells b r (o + 1) _)

theorem Gro.shape {B : Nat} {W : World} {v : Value} {bs : List Int} (h : Gro B W v bs) : ∃ a cap, v = .slice a bs.length cap ∧ bs.length ≤ cap := by
  obtain ⟨a, cap, e, hl, _⟩ := (h.isF (A := fun _ => False) (fun _ _ => id)).shape
  exact ⟨a, cap, e, hl⟩
theorem IsF.later {A : Nat → Prop} {w w' : World} {v : Value} {bs : List Int} (h : IsF A w v bs) (hb : Below w.heap.size w w') : IsF A w' v bs := h.but (K := fun _ => False) (But.of_below hb) (fun _ e => e.elim)
theorem Gro.later {B : Nat} {w w' : World} {v : Value} {bs : List Int} (h : Gro B w v bs) (hb : Below w.heap.size w w') : Gro B w' v bs := h.but (K := fun _ => False) (But.of_below hb) (fun _ e => e.elim)

/-- bytes.Clone: the same bytes, in new memory -/
theorem Clone_any {A : Nat → Prop} {v : Value} {bs : List Int} {w : World} (h : IsF A w v bs) (hl : bs.length ≤ 140737488355328) :
    Calls Try.prog 20 #[v] w fun e w' => ∃ v', e = .returned v' ∧ Gro w.heap.size w' v' bs ∧ Below w.heap.size w w' := by
  obtain ⟨a, cap, rfl, hlc, hn⟩ := h.shape
  have H := hide h
  have q22 : ∀ (w : World) (a : Option Addr) (n c n' c' : Nat), (binOp .eql 26 (.slice a n c) (.slice none n' c')).run Try.prog w = .ok (.bool a.isNone) w := fun w a n c n' c' => Lib.run_eql_slice_nil w _ _ a n c n' c' Try.underlying26
  clear h
  cases a with
  | none =>
    have h0 := hn rfl
    have : bs = [] := List.eq_nil_of_length_eq_zero (by omega)
    subst this
    clear hn H
    go_enter Try.func20, Try.ntmps20
    go_wp2
    go_ret
    exact ⟨_, rfl, Gro.nil _ _, Below.refl _ _⟩
  | some ad =>
    clear hn
    go_enter Try.func20, Try.ntmps20
    go_wp2_with (at_builtin; refine wpList_grow rfl _ _ rfl rfl w.heap.size A _ _ [] bs rfl rfl ?g1 ?g2 ?g3 ?g4 bs ?g5 ?_)
    · exact World.ownsRow_made w #[] 0 (Nat.le_refl _) (Nat.zero_le _) rfl
    · exact H.out.but (K := fun _ => False) ((But.refl _ _).alloc _) (fun _ e => e.elim)
    · simp
    · simpa using hl
    · simp
    intro a' cap' w' _ hG hB
    go_wp2
    go_ret
    exact ⟨_, rfl, hG, ((Below.refl _ w).alloc (Nat.le_refl _) _).trans hB⟩

/-- bytes that were written out lie in a new block -/
theorem lit_F (w : World) (bs : List Int) (A : Nat → Prop) (hA : ¬ A w.heap.size) (fr : Nat × Nat) : IsF A (w.alloc (.cells (bs.map (Value.int .u8)).toArray 5 fr)) (.slice (some ⟨w.heap.size, 0, none⟩) bs.length bs.length) bs := by
  refine ⟨_, _, rfl, Nat.le_refl _, (fun e => by cases e), fun _ => ⟨w.heap.size, 0, rfl, by simp, hA, fun j hj => ?_⟩⟩
  rw [Nat.zero_add, cell_of_row _ w.heap.size j _ 5 fr (heap_alloc_new w _)]
  simp [hj]

/-- the lowest 16 bits of n in two bytes, the higher one first -/
def put16 (n : Int) : List Int := [n / 256 % 256, n % 256]

theorem put_any {B : Nat} {w : World} {v : Value} {xs : List Int} (n : Int) (hx : Gro B w v xs) (hB : B ≤ w.heap.size) (hl : xs.length ≤ 1000000) (L : List Int) (hL : xs ++ put16 n = L) :
    Calls Try.prog 17 #[v, .int .i64 n] w fun e w' => ∃ a c, e = .returned (.slice a L.length c) ∧ L.length ≤ c ∧ Gro B w' (.slice a L.length c) L ∧ Below B w w' := by
  obtain ⟨va, vc, rfl, _⟩ := hx.shape
  have HX := hide (hx.but (K := fun _ => False) ((But.refl _ _).alloc (.cells #[.int .u8 (n / 256 % 256), .int .u8 (n % 256)] 5)) (fun _ e => e.elim))
  have IY : Hid (IsF (fun _ => False) (w.alloc (.cells #[.int .u8 (n / 256 % 256), .int .u8 (n % 256)] 5)) (.slice (some ⟨w.heap.size, 0, none⟩) 2 2) (put16 n)) := lit_F w (put16 n) _ id (0, 0)
  have EL := hide hL
  clear hx hL
  go_enter Try.func17, Try.ntmps17
  go_wp2_with (at_builtin; refine wpList_grow rfl _ _ rfl rfl B (fun _ => False) _ _ xs (put16 n) rfl rfl HX.out IY.out ?g3 ?g4 L EL.out ?_)
  · simp; omega
  · simp [put16]; omega
  intro a' c' w' hc hG hb
  go_wp2
  go_ret
  exact ⟨_, _, rfl, hc, hG, ((Below.refl _ w).alloc hB _).trans hb⟩

/-- byte j of a text -/
def nb (bs : List Int) (j : Nat) : Int := bs[j]?.getD 0
/-- a number in two bytes -/
def w16 (bs : List Int) (k : Nat) : Int := 256 * nb bs k + nb bs (k + 1)
theorem nb_bd {bs : List Int} (h : Bytes bs) (j : Nat) : 0 ≤ nb bs j ∧ nb bs j ≤ 255 := h.getD j

theorem at_cells (b off len cap : Nat) (k : Nat) (x y : Int) (hl : (len : Int) ≤ 4611686018427387904) (hk : k + 2 ≤ len) (w : World) (hx : w.cell? ⟨b, off + k, none⟩ = some (.int .u8 x)) (hy : w.cell? ⟨b, off + (k + 1), none⟩ = some (.int .u8 y))
    (x0 : 0 ≤ x) (x1 : x ≤ 255) (y0 : 0 ≤ y) (y1 : y ≤ 255) :
    Calls Try.prog 24 #[.slice (some ⟨b, off, none⟩) len cap, .int .i64 (k : Int)] w fun e w' => e = .returned (.int .i64 (256 * x + y)) ∧ ∃ n, w' = w.drewN n := by
  go_enter Try.func24, Try.ntmps24
  go_wp2
  go_quiet (fail)
  go_wp2
  go_ret
  exact ⟨ret_int (by rw [i64_join8 (x * 256) y (by omega) (by omega) (by omega) y0 y1]; omega), _, rfl⟩

theorem at_any {A : Nat → Prop} {w : World} {a : Option Addr} {n cap : Nat} {bs : List Int} (h : IsF A w (.slice a n cap) bs) (hB : Bytes bs) (hl : (bs.length : Int) ≤ 4611686018427387904) (k : Nat) (hk : k + 2 ≤ bs.length) :
    Calls Try.prog 24 #[.slice a n cap, .int .i64 (k : Int)] w fun e w' => e = .returned (.int .i64 (w16 bs k)) ∧ Below w.heap.size w w' := by
  obtain ⟨a', cap', e, hlc, hn, hc⟩ := h
  simp only [Value.slice.injEq] at e
  obtain ⟨rfl, rfl, rfl⟩ := e
  obtain ⟨b, off, rfl, hb, _, hcs⟩ := hc (by omega)
  refine (at_cells b off bs.length cap k _ _ hl hk w (hcs k (by omega)) (hcs (k + 1) (by omega)) (hB.getD k).1 (hB.getD k).2 (hB.getD (k + 1)).1 (hB.getD (k + 1)).2).mono ?_
  rintro e w' ⟨rfl, n, rfl⟩
  exact ⟨rfl, later_drewN _ _⟩

theorem i64_and4095 (n : Int) : bits .and .i64 n 4095 = n % 4096 := by
  have h127 : (BitVec.ofInt 64 4095).toNat = 2 ^ 12 - 1 := by decide
  have key : (BitVec.ofInt 64 n &&& BitVec.ofInt 64 4095).toNat = (n % ((2 ^ 64 : Nat) : Int)).toNat % 2 ^ 12 := by
    rw [BitVec.toNat_and, BitVec.toNat_ofInt, h127, Nat.and_two_pow_sub_one_eq_mod]
  show IntKind.i64.wrap ((BitVec.ofInt 64 n &&& BitVec.ofInt 64 4095).toNat : Nat) = n % 4096
  rw [key, IntKind.wrap_i64]
  omega
theorem i64_and4096 (n : Int) : bits .and .i64 n 4096 = n / 4096 % 2 * 4096 := by
  have h127 : (BitVec.ofInt 64 4096).toNat = 4096 := by decide
  have key : (BitVec.ofInt 64 n &&& BitVec.ofInt 64 4096).toNat = (n % ((2 ^ 64 : Nat) : Int)).toNat / 4096 % 2 * 4096 := by
    rw [BitVec.toNat_and, BitVec.toNat_ofInt, h127]
    have h := Nat.and_two_pow_sub_one_eq_mod ((n % ((2 ^ 64 : Nat) : Int)).toNat / 4096) 1
    generalize (n % ((2 ^ 64 : Nat) : Int)).toNat = x at *
    apply Nat.eq_of_testBit_eq
    intro i
    rw [show (4096 : Nat) = 2 ^ 12 from rfl, Nat.testBit_and, Nat.testBit_two_pow, Nat.testBit_mul_two_pow]
    by_cases hi : 12 = i
    · subst hi
      simp [Nat.testBit, Nat.shiftRight_eq_div_pow]
    · by_cases h2 : 12 ≤ i
      · have : i - 12 ≠ 0 := by omega
        simp [hi, Nat.testBit_lt_two_pow (show x / 4096 % 2 < 2 ^ (i - 12) from by
          have : 2 ^ 1 ≤ 2 ^ (i - 12) := Nat.pow_le_pow_right (by omega) (by omega)
          omega)]
      · simp [hi, h2]
  show IntKind.i64.wrap ((BitVec.ofInt 64 n &&& BitVec.ofInt 64 4096).toNat : Nat) = n / 4096 % 2 * 4096
  rw [key, IntKind.wrap_i64]
  omega
theorem i64_join13 (p v : Int) (p0 : 0 ≤ p) (p1 : p ≤ 7) (v0 : 0 ≤ v) (v1 : v ≤ 4095) : bits .or .i64 (p * 8192) v = p * 8192 + v :=
  bits_join .i64 62 (by decide) i64_wrap 13 (p * 8192) v (by omega) (by omega) (by omega) v0 (by omega) (by omega)

end Go.Proofs.Ytipebfaappangaa
