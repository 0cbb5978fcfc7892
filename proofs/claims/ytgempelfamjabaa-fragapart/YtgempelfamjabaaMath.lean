
/-
  Plain mathematics of the Internet checksum: the words of a list of bytes, their sum, and the closed form of 'what is above 16 bits is added to the lowest 16'. No program is named here.
-/
import Derived.WalkKit
namespace Go.Proofs.Ytgempelfamjabaa

/-- What is left of s when, as long as it has more than 16 bits, what is above them is added to the lowest 16. -/
def foldI (s : Int) : Int := if s = 0 then 0 else (s - 1) % 65535 + 1

theorem foldI_small (s : Int) (h0 : 0 ≤ s) (h1 : s ≤ 65535) : foldI s = s := by
  unfold foldI; split <;> omega
theorem foldI_step (s : Int) (h : 65535 < s) : foldI (s / 65536 + s % 65536) = foldI s := by
  unfold foldI; rw [if_neg (by omega), if_neg (by omega)]; omega
theorem foldI_bd (s : Int) : 0 ≤ foldI s ∧ foldI s ≤ 65535 := by
  unfold foldI; split <;> omega
theorem foldI_zero (s : Int) : foldI s = 0 ↔ s = 0 := by
  unfold foldI; split <;> omega
theorem foldI_congr (s t : Int) (hs : 0 < s) (ht : 0 < t) (h : s % 65535 = t % 65535) : foldI s = foldI t := by
  unfold foldI; rw [if_neg (by omega), if_neg (by omega)]; omega
theorem foldI_mod (s : Int) : foldI s % 65535 = s % 65535 := by
  unfold foldI; split <;> omega

/-- The words of bytes, two by two; a last byte without a second one: with 0 behind it. -/
def wl : List Int → List Int
  | [] => []
  | [a] => [256 * a]
  | a :: b :: r => (256 * a + b) :: wl r
/-- The words whose two bytes have come. -/
def wp : List Int → List Int
  | a :: b :: r => (256 * a + b) :: wp r
  | _ => []
def wsum (bs : List Int) : Int := (wl bs).sum
/-- The checksum. -/
def csum (bs : List Int) : Int := 65535 - foldI (wsum bs)

/-- every number is a byte -/
def Bytes (bs : List Int) : Prop := ∀ x ∈ bs, 0 ≤ x ∧ x ≤ 255

theorem Bytes.nil : Bytes [] := fun _ h => by cases h
theorem Bytes.append {a b : List Int} (ha : Bytes a) (hb : Bytes b) : Bytes (a ++ b) := fun x h => (List.mem_append.1 h).elim (ha x) (hb x)
theorem Bytes.take {a : List Int} (h : Bytes a) (n : Nat) : Bytes (a.take n) := fun x hx => h x (List.mem_of_mem_take hx)
theorem Bytes.drop {a : List Int} (h : Bytes a) (n : Nat) : Bytes (a.drop n) := fun x hx => h x (List.mem_of_mem_drop hx)
theorem Bytes.getD {a : List Int} (h : Bytes a) (n : Nat) : 0 ≤ a[n]?.getD 0 ∧ a[n]?.getD 0 ≤ 255 := by
  cases e : a[n]? with
  | none => simp
  | some x => simp only [Option.getD_some]; exact h x (List.mem_of_getElem? e)
theorem Bytes.cons {x : Int} {a : List Int} (h0 : 0 ≤ x) (h1 : x ≤ 255) (h : Bytes a) : Bytes (x :: a) := fun y hy => by
  rcases List.mem_cons.1 hy with rfl | hy
  · exact ⟨h0, h1⟩
  · exact h y hy
theorem Bytes.set {a : List Int} (h : Bytes a) (n : Nat) (x : Int) (h0 : 0 ≤ x) (h1 : x ≤ 255) : Bytes (a.set n x) := fun y hy => by
  rcases List.mem_or_eq_of_mem_set hy with hy | rfl
  · exact h y hy
  · exact ⟨h0, h1⟩

theorem last_snoc (p : List Int) (x : Int) : (p ++ [x]).getLastD 0 = x := by simp

theorem wp_snoc_even : ∀ (p : List Int) (x : Int), p.length % 2 = 0 → wp (p ++ [x]) = wp p
  | [], x, _ => rfl
  | [a], x, h => by simp at h
  | a :: b :: r, x, h => by
    have := wp_snoc_even r x (by simp at h; omega)
    simp only [List.cons_append, wp, this]
theorem wp_snoc_odd : ∀ (p : List Int) (x : Int), p.length % 2 = 1 → wp (p ++ [x]) = wp p ++ [256 * p.getLastD 0 + x]
  | [], x, h => by simp at h
  | [a], x, _ => by simp [wp]
  | a :: b :: r, x, h => by
    have hr : r.length % 2 = 1 := by simp at h; omega
    have := wp_snoc_odd r x hr
    have hl : (a :: b :: r).getLastD 0 = r.getLastD 0 := by
      cases r with
      | nil => simp at hr
      | cons c r => simp [List.getLastD]
    simp only [List.cons_append, wp, this, hl]
theorem wl_even : ∀ (p : List Int), p.length % 2 = 0 → wl p = wp p
  | [], _ => rfl
  | [a], h => by simp at h
  | a :: b :: r, h => by
    have := wl_even r (by simp at h; omega)
    simp only [wl, wp, this]
theorem wl_odd : ∀ (p : List Int), p.length % 2 = 1 → wl p = wp p ++ [256 * p.getLastD 0]
  | [], h => by simp at h
  | [a], _ => by simp [wl, wp]
  | a :: b :: r, h => by
    have hr : r.length % 2 = 1 := by simp at h; omega
    have := wl_odd r hr
    have hl : (a :: b :: r).getLastD 0 = r.getLastD 0 := by
      cases r with
      | nil => simp at hr
      | cons c r => simp [List.getLastD]
    simp only [wl, wp, this, hl, List.cons_append]
theorem wp_length : ∀ (p : List Int), (wp p).length = p.length / 2
  | [] => rfl
  | [a] => by simp [wp]
  | a :: b :: r => by
    have := wp_length r
    simp only [wp, List.length_cons, this]; omega
theorem wl_length : ∀ (p : List Int), (wl p).length = (p.length + 1) / 2
  | [] => rfl
  | [a] => by simp [wl]
  | a :: b :: r => by
    have := wl_length r
    simp only [wl, List.length_cons, this]; omega

theorem wl_append_even : ∀ (a b : List Int), a.length % 2 = 0 → wl (a ++ b) = wl a ++ wl b
  | [], b, _ => rfl
  | [x], b, h => by simp at h
  | x :: y :: r, b, h => by
    have := wl_append_even r b (by simp at h; omega)
    simp only [List.cons_append, wl, this]
theorem wsum_nil : wsum [] = 0 := rfl
theorem wsum_one (a : Int) : wsum [a] = 256 * a := by simp [wsum, wl]
theorem wsum_two (a b : Int) (r : List Int) : wsum (a :: b :: r) = 256 * a + b + wsum r := by simp [wsum, wl]
theorem wsum_pair (a b : Int) : wsum [a, b] = 256 * a + b := by simp [wsum, wl]
theorem wsum_append_even (a b : List Int) (h : a.length % 2 = 0) : wsum (a ++ b) = wsum a + wsum b := by
  simp [wsum, wl_append_even a b h]
theorem wsum_nonneg : ∀ (p : List Int), Bytes p → 0 ≤ wsum p
  | [], _ => by simp [wsum_nil]
  | [a], h => by rw [wsum_one]; have := h a (by simp); omega
  | a :: b :: r, h => by
    have := wsum_nonneg r (fun x hx => h x (by simp [hx]))
    have := h a (by simp)
    have := h b (by simp)
    rw [wsum_two]; omega
theorem wsum_le : ∀ (p : List Int), Bytes p → wsum p ≤ 32768 * (p.length + 1)
  | [], _ => by simp [wsum_nil]
  | [a], h => by rw [wsum_one]; have := h a (by simp); simp; omega
  | a :: b :: r, h => by
    have := wsum_le r (fun x hx => h x (by simp [hx]))
    have := h a (by simp)
    have := h b (by simp)
    rw [wsum_two]; simp only [List.length_cons]; omega
theorem csum_bd (p : List Int) : 0 ≤ csum p ∧ csum p ≤ 65535 := by
  have := foldI_bd (wsum p)
  unfold csum; omega

theorem i64_and65535 (n : Int) : bits .and .i64 n 65535 = n % 65536 := by
  have h127 : (BitVec.ofInt 64 65535).toNat = 2 ^ 16 - 1 := by decide
  have key : (BitVec.ofInt 64 n &&& BitVec.ofInt 64 65535).toNat = (n % ((2 ^ 64 : Nat) : Int)).toNat % 2 ^ 16 := by
    rw [BitVec.toNat_and, BitVec.toNat_ofInt, h127, Nat.and_two_pow_sub_one_eq_mod]
  show IntKind.i64.wrap ((BitVec.ofInt 64 n &&& BitVec.ofInt 64 65535).toNat : Nat) = n % 65536
  rw [key, IntKind.wrap_i64]
  omega
theorem u64_and65535 (n : Int) : bits .and .u64 n 65535 = n % 65536 := by
  have h127 : (BitVec.ofInt 64 65535).toNat = 2 ^ 16 - 1 := by decide
  have key : (BitVec.ofInt 64 n &&& BitVec.ofInt 64 65535).toNat = (n % ((2 ^ 64 : Nat) : Int)).toNat % 2 ^ 16 := by
    rw [BitVec.toNat_and, BitVec.toNat_ofInt, h127, Nat.and_two_pow_sub_one_eq_mod]
  show IntKind.u64.wrap ((BitVec.ofInt 64 n &&& BitVec.ofInt 64 65535).toNat : Nat) = n % 65536
  rw [key, IntKind.wrap_u64]
  omega
theorem u16_wrap (n : Int) (h0 : 0 ≤ n) (h1 : n < 2 ^ 16) : IntKind.u16.wrap n = n := by rw [IntKind.wrap_u16]; omega
theorem u32_wrap (n : Int) (h0 : 0 ≤ n) (h1 : n < 2 ^ 32) : IntKind.u32.wrap n = n := by rw [IntKind.wrap_u32]; omega
theorem i64_wrap (n : Int) (h0 : 0 ≤ n) (h1 : n < 2 ^ 62) : IntKind.i64.wrap n = n := by rw [IntKind.wrap_i64]; omega
theorem u64_wrap (n : Int) (h0 : 0 ≤ n) (h1 : n < 2 ^ 64) : IntKind.u64.wrap n = n := by rw [IntKind.wrap_u64]; omega
/-- 'high | low' on a uint16 -/
theorem u16_join (h b : Int) (h0 : 0 ≤ h) (h1 : h ≤ 255) (b0 : 0 ≤ b) (b1 : b ≤ 255) : bits .or .u16 (256 * h) b = 256 * h + b :=
  bits_join .u16 16 (by decide) u16_wrap 8 (256 * h) b (by omega) (by omega) (by omega) b0 (by omega) (by omega)
theorem i64_join8 (x b : Int) (h0 : 0 ≤ x) (h1 : x < 2 ^ 62) (hm : x % 256 = 0) (b0 : 0 ≤ b) (b1 : b ≤ 255) : bits .or .i64 x b = x + b :=
  bits_join .i64 62 (by decide) i64_wrap 8 x b h0 (by omega) h1 b0 (by omega) (by omega)
theorem u32_join (i : Nat) (x b : Int) (h0 : 0 ≤ x) (h1 : x < 2 ^ 32) (hm : x % 2 ^ i = 0) (b0 : 0 ≤ b) (b1 : b < 2 ^ i) (b2 : b < 2 ^ 32) : bits .or .u32 x b = x + b :=
  bits_join .u32 32 (by decide) u32_wrap i x b h0 hm h1 b0 b1 b2
/-- four bytes of a uint32, joined -/
theorem u32_join4 (x y z u : Int) (x0 : 0 ≤ x) (x1 : x ≤ 255) (y0 : 0 ≤ y) (y1 : y ≤ 255) (z0 : 0 ≤ z) (z1 : z ≤ 255) (u0 : 0 ≤ u) (u1 : u ≤ 255) :
    bits .or .u32 (bits .or .u32 (bits .or .u32 (x * 16777216) (y * 65536)) (z * 256)) u = 16777216 * x + 65536 * y + 256 * z + u := by
  rw [u32_join 24 (x * 16777216) (y * 65536) (by omega) (by omega) (by omega) (by omega) (by omega) (by omega),
    u32_join 16 (x * 16777216 + y * 65536) (z * 256) (by omega) (by omega) (by omega) (by omega) (by omega) (by omega),
    u32_join 8 (x * 16777216 + y * 65536 + z * 256) u (by omega) (by omega) (by omega) (by omega) (by omega) (by omega)]
  omega

end Go.Proofs.Ytgempelfamjabaa
