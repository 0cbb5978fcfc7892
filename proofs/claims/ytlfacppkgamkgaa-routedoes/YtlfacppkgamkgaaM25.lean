
/-
  The document's bits of an address: bit, begins; and the beginnings, told by bits.
-/
import Derived.Test.YtlfacppkgamkgaaM22
namespace Go.Proofs.Ytlfacppkgamkgaa
open Go.RowKit Go.Shelf

/-- the n-th bit of an address -/
def bt (x : I4) (n : Nat) : Int := octet x (n / 8) / 2 ^ (7 - n % 8) % 2
theorem mk_fin : ∀ (a : Fin 256) (p : Fin 8), mk (a.val : Int) (7 - p.val) = mk (a.val : Int) (8 - p.val) + (a.val : Int) / 2 ^ (7 - p.val) % 2 * 2 ^ (7 - p.val) := by decide +kernel
theorem mk_bit (x : Int) (p : Nat) (h0 : 0 ≤ x) (h1 : x ≤ 255) (hp : p < 8) : mk x (7 - p) = mk x (8 - p) + x / 2 ^ (7 - p) % 2 * 2 ^ (7 - p) := by
  obtain ⟨n, rfl⟩ := Int.eq_ofNat_of_zero_le h0
  exact mk_fin ⟨n, by omega⟩ ⟨p, hp⟩
theorem mk_eq (x y : Int) (p : Nat) (hx : B8 x) (hy : B8 y) (hp : p < 8) : mk x (7 - p) = mk y (7 - p) ↔ mk x (8 - p) = mk y (8 - p) ∧ x / 2 ^ (7 - p) % 2 = y / 2 ^ (7 - p) % 2 := by
  have ex := mk_bit x p hx.1 hx.2 hp
  have ey := mk_bit y p hy.1 hy.2 hp
  rw [ex, ey]
  unfold mk
  have h8 : p = 0 ∨ p = 1 ∨ p = 2 ∨ p = 3 ∨ p = 4 ∨ p = 5 ∨ p = 6 ∨ p = 7 := by omega
  rcases h8 with rfl | rfl | rfl | rfl | rfl | rfl | rfl | rfl <;> simp only [Nat.reduceSub, Int.reducePow] <;> omega
theorem mk_own (x : Int) (p : Nat) (hx : B8 x) (hp : p < 8) : mk x (8 - p) = x ↔ mk x (7 - p) = x ∧ x / 2 ^ (7 - p) % 2 = 0 := by
  have ex := mk_bit x p hx.1 hx.2 hp
  rw [ex]
  have h2 := hx.1
  have h3 := hx.2
  unfold mk
  have h8 : p = 0 ∨ p = 1 ∨ p = 2 ∨ p = 3 ∨ p = 4 ∨ p = 5 ∨ p = 6 ∨ p = 7 := by omega
  rcases h8 with rfl | rfl | rfl | rfl | rfl | rfl | rfl | rfl <;> simp only [Nat.reduceSub, Int.reducePow] <;> omega
theorem I4.ext4 {x y : I4} : x = y ↔ ∀ i, i < 4 → octet x i = octet y i := by
  constructor
  · rintro rfl i _; rfl
  · intro h
    obtain ⟨a, b, c, d⟩ := x
    obtain ⟨a', b', c', d'⟩ := y
    have h0 := h 0 (by omega)
    have h1 := h 1 (by omega)
    have h2 := h 2 (by omega)
    have h3 := h 3 (by omega)
    simp only [octet] at h0 h1 h2 h3
    rw [h0, h1, h2, h3]
theorem octet_beg (x : I4) (k i : Nat) (hi : i < 4) : octet (beg x k) i = mk (octet x i) (sh k i) := by
  rcases i with _ | _ | _ | _ | i
  · rfl
  · rfl
  · rfl
  · rfl
  · omega
theorem sh_at (k i : Nat) (hi : i = k / 8) : sh k i = 8 - k % 8 ∧ sh (k + 1) i = 7 - k % 8 := by unfold sh; omega
theorem sh_off (k i : Nat) (hi : i ≠ k / 8) : sh (k + 1) i = sh k i := by unfold sh; omega
theorem beg_step {x y : I4} (hx : x.Ok) (hy : y.Ok) (k : Nat) (hk : k < 32) : beg x (k + 1) = beg y (k + 1) ↔ beg x k = beg y k ∧ bt x k = bt y k := by
  rw [I4.ext4, I4.ext4]
  have key := mk_eq (octet x (k / 8)) (octet y (k / 8)) (k % 8) (octet_bd hx _) (octet_bd hy _) (by omega)
  obtain ⟨s1, s2⟩ := sh_at k (k / 8) rfl
  constructor
  · intro h
    have h1 := h (k / 8) (by omega)
    rw [octet_beg _ _ _ (by omega), octet_beg _ _ _ (by omega), s2] at h1
    obtain ⟨q1, q2⟩ := key.1 h1
    refine ⟨fun i hi => ?_, q2⟩
    by_cases e : i = k / 8
    · subst e; rw [octet_beg _ _ _ hi, octet_beg _ _ _ hi, s1]; exact q1
    · have := h i hi
      rw [octet_beg _ _ _ hi, octet_beg _ _ _ hi, sh_off k i e] at this
      rw [octet_beg _ _ _ hi, octet_beg _ _ _ hi]; exact this
  · rintro ⟨h, hb⟩ i hi
    have h1 := h i hi
    rw [octet_beg _ _ _ hi, octet_beg _ _ _ hi] at h1 ⊢
    by_cases e : i = k / 8
    · subst e; rw [s1] at h1; rw [s2]; exact key.2 ⟨h1, hb⟩
    · rw [sh_off k i e]; exact h1
theorem beg_zero {x : I4} (hx : x.Ok) : beg x 0 = zI := by
  rw [I4.ext4]
  intro i hi
  rw [octet_beg _ _ _ hi]
  have hb := octet_bd hx i
  have e : sh 0 i = 8 := by unfold sh; omega
  rw [e]
  unfold mk
  have h1 := hb.1
  have h2 := hb.2
  have : octet zI i = 0 := by rcases i with _ | _ | _ | i <;> rfl
  rw [this]
  omega
theorem beg_bits {x y : I4} (hx : x.Ok) (hy : y.Ok) : ∀ k, k ≤ 32 → (beg x k = beg y k ↔ ∀ i, i < k → bt x i = bt y i)
  | 0, _ => by rw [beg_zero hx, beg_zero hy]; simp
  | k + 1, h => by
    rw [beg_step hx hy k (by omega), beg_bits hx hy k (by omega)]
    constructor
    · rintro ⟨h1, h2⟩ i hi
      by_cases e : i = k
      · rw [e]; exact h2
      · exact h1 i (by omega)
    · intro h1
      exact ⟨fun i hi => h1 i (by omega), h1 k (by omega)⟩
theorem own_step {x : I4} (hx : x.Ok) (k : Nat) (hk : k < 32) : beg x k = x ↔ beg x (k + 1) = x ∧ bt x k = 0 := by
  rw [I4.ext4, I4.ext4]
  have key := mk_own (octet x (k / 8)) (k % 8) (octet_bd hx _) (by omega)
  obtain ⟨s1, s2⟩ := sh_at k (k / 8) rfl
  constructor
  · intro h
    have h1 := h (k / 8) (by omega)
    rw [octet_beg _ _ _ (by omega), s1] at h1
    obtain ⟨q1, q2⟩ := key.1 h1
    refine ⟨fun i hi => ?_, q2⟩
    rw [octet_beg _ _ _ hi]
    by_cases e : i = k / 8
    · subst e; rw [s2]; exact q1
    · rw [sh_off k i e, ← octet_beg _ _ _ hi]; exact h i hi
  · rintro ⟨h, hb⟩ i hi
    have h1 := h i hi
    rw [octet_beg _ _ _ hi] at h1 ⊢
    by_cases e : i = k / 8
    · subst e; rw [s2] at h1; rw [s1]; exact key.2 ⟨h1, hb⟩
    · rw [sh_off k i e] at h1; exact h1
theorem own_bits {x : I4} (hx : x.Ok) : ∀ d, d ≤ 32 → (beg x (32 - d) = x ↔ ∀ i, 32 - d ≤ i → i < 32 → bt x i = 0)
  | 0, _ => by
    have : beg x 32 = x := by
      rw [I4.ext4]; intro i hi
      rw [octet_beg _ _ _ hi]
      have e : sh 32 i = 0 := by unfold sh; omega
      rw [e]; unfold mk; simp
    simp [this]; intro i h1 h2; omega
  | d + 1, h => by
    have e : 32 - d = 32 - (d + 1) + 1 := by omega
    rw [own_step hx (32 - (d + 1)) (by omega), ← e, own_bits hx d (by omega)]
    constructor
    · rintro ⟨h1, h2⟩ i hi hi2
      by_cases e : i = 32 - (d + 1)
      · rw [e]; exact h2
      · exact h1 i (by omega) hi2
    · intro h1
      exact ⟨fun i hi hi2 => h1 i (by omega) hi2, h1 _ (Nat.le_refl _) (by omega)⟩
theorem bt_bd (x : I4) (n : Nat) : 0 ≤ bt x n ∧ bt x n ≤ 1 := by unfold bt; omega
end Go.Proofs.Ytlfacppkgamkgaa
