
/-
  swapRangeCmpFunc, rotateCmpFunc.
-/
import Derived.Test.YtglbobobifejmaaQ2
namespace Go.Proofs.Ytglbobobifejmaa
open Go.RowKit

/-- c places from a on are changed with those from b on -/
def swR (f : Nat → Tg) (a b c : Nat) : Nat → Tg := fun x => if a ≤ x ∧ x < a + c then f (x - a + b) else if b ≤ x ∧ x < b + c then f (x - b + a) else f x
theorem swR_zero (f : Nat → Tg) (a b : Nat) : swR f a b 0 = f := by
  funext x; unfold swR; rw [if_neg (by omega), if_neg (by omega)]
theorem swR_succ (f : Nat → Tg) (a b c : Nat) (h : a + c < b) : swp (swR f a b c) (a + c) (b + c) = swR f a b (c + 1) := by
  funext x
  unfold swp swR
  by_cases e1 : x = a + c
  · subst e1
    rw [if_pos rfl, if_neg (by omega), if_neg (by omega), if_pos (by omega), show a + c - a + b = b + c by omega]
  · rw [if_neg e1]
    by_cases e2 : x = b + c
    · subst e2
      rw [if_pos rfl, if_neg (by omega), if_neg (by omega), if_neg (by omega), if_pos (by omega), show b + c - b + a = a + c by omega]
    · rw [if_neg e2]
      by_cases h1 : a ≤ x ∧ x < a + c
      · rw [if_pos h1, if_pos (show a ≤ x ∧ x < a + (c + 1) by omega)]
      · rw [if_neg h1, if_neg (show ¬ (a ≤ x ∧ x < a + (c + 1)) by omega)]
        by_cases h2 : b ≤ x ∧ x < b + c
        · rw [if_pos h2, if_pos (show b ≤ x ∧ x < b + (c + 1) by omega)]
        · rw [if_neg h2, if_neg (show ¬ (b ≤ x ∧ x < b + (c + 1)) by omega)]
theorem swR_pm {a b c d e : Nat} (f : Nat → Tg) (h : a + c ≤ b) (h1 : d ≤ a) (h2 : b + c ≤ e) : Pm d e f (swR f a b c) := by
  induction c with
  | zero => rw [swR_zero]; exact Pm.refl _ _ _
  | succ c ih => rw [← swR_succ f a b c (by omega)]; exact (ih (by omega) (by omega)).trans (swp_pm _ (by omega) (by omega))

set_option maxRecDepth 100000 in
set_option maxHeartbeats 4000000 in
theorem swapRange_any {B g n cap : Nat} {w : World} {f : Nat → Tg} (h : RowT B w g n cap f) (a b c : Nat) (hab : a + c ≤ b) (hb : b + c ≤ n) (hn : n ≤ 1000000) :
    Calls Try.prog 45 #[.slice (some ⟨g, 0, none⟩) n cap, .int .i64 (a : Int), .int .i64 (b : Int), .int .i64 (c : Int), .func (.func 30) #[] #[]] w fun e w' => e = .returned (.tuple #[]) ∧ RowT B w' g n cap (swR f a b c) ∧ But (Only g) w w' := by
  have H := hide h
  have zc : (c : Int) ≤ 1000000 := by omega
  have za : (a : Int) + (c : Int) ≤ (b : Int) := by omega
  have zb : (b : Int) + (c : Int) ≤ (n : Int) := by omega
  have zn : (n : Int) ≤ 1000000 := by omega
  clear h
  go_enter Try.func45, Try.ntmps45
  go_wp2
  go_loopw [10] (fun v wr => ∃ (i : Nat), v = .int .i64 (i : Int) ∧ i ≤ c ∧ Hid (RowT B wr g n cap (swR f a b i)) ∧ Hid (But (Only g) w wr)) (fun v _ => c - (intOf v).toNat)
  case atStart => exact ⟨0, rfl, Nat.zero_le _, by rw [swR_zero]; exact H.out, But.refl _ _⟩
  case round =>
    obtain ⟨i, rfl, hi, hR, hB⟩ := hrel
    clear H
    by_cases hlt : i < c
    · have zi : (i : Int) < (c : Int) := by omega
      have c0 := hR.out.c0 (i := a + i) (by omega)
      have c1 := hR.out.c1 (i := a + i) (by omega)
      have d0 := hR.out.c0 (i := b + i) (by omega)
      have d1 := hR.out.c1 (i := b + i) (by omega)
      have f0 := hR.out.fz ((a + i) * 2)
      have f1 := hR.out.fz ((a + i) * 2 + 1)
      have f2 := hR.out.fz ((b + i) * 2)
      have f3 := hR.out.fz ((b + i) * 2 + 1)
      have rs := hR.out.swap (i := a + i) (j := b + i) (by omega) (by omega)
      rw [swR_succ f a b i (by omega)] at rs
      generalize (swR f a b i (a + i)).id = x0 at *
      generalize (swR f a b i (a + i)).tm = x1 at *
      generalize (swR f a b i (b + i)).id = y0 at *
      generalize (swR f a b i (b + i)).tm = y1 at *
      have ea : (a : Int) + (i : Int) = ((a + i : Nat) : Int) := by omega
      have eb : (b : Int) + (i : Int) = ((b + i : Nat) : Int) := by omega
      have la : a + i < n := by omega
      have lb : b + i < n := by omega
      have ne : a + i ≠ b + i := by omega
      generalize a + i = p at *
      generalize b + i = q at *
      have lp : (p : Int) < (n : Int) := by omega
      have lq : (q : Int) < (n : Int) := by omega
      have B6 := hide (hB.out.trans (RowT.swapB (w := wr) (g := g) p q (.int .i64 y0) (.int .i64 y1) (.int .i64 x0) (.int .i64 x1)).drew)
      have RS := hide rs
      have wp : IntKind.i64.wrap (p : Int) = (p : Int) := by simp only [IntKind.wrap, IntKind.signed, IntKind.bits]; simp; omega
      have wq : IntKind.i64.wrap (q : Int) = (q : Int) := by simp only [IntKind.wrap, IntKind.signed, IntKind.bits]; simp; omega
      clear rs hR hB
      go_upto_region 3 with fail
      go_region
      clear c0 c1 d0 d1 f0 f1 f2 f3
      go_wp2
      go_roundw
      case rel => exact ⟨i + 1, by go_num, by omega, RS.out.later ⟨rfl, rfl, rfl, Nat.le_refl _, fun _ _ => rfl⟩, B6.out⟩
      case measure => simp [intOf]; omega
    · obtain rfl : i = c := by omega
      go_wp2
      go_end0
      exact ⟨rfl, hR.out, hB.out⟩

/-- the places from a up to m stand behind those from m up to b -/
def rot (f : Nat → Tg) (a m b : Nat) : Nat → Tg := fun x => if a ≤ x ∧ x < a + (b - m) then f (x + (m - a)) else if a + (b - m) ≤ x ∧ x < b then f (x - (b - m)) else f x
theorem rot_gt (f : Nat → Tg) (m i j : Nat) (hi : i ≤ m) (h : j < i) : rot (swR f (m - i) m j) (m - (i - j)) m (m + j) = rot f (m - i) m (m + j) := by
  funext x
  unfold rot swR
  by_cases h1 : m - i ≤ x ∧ x < m - i + j
  · rw [if_neg (show ¬ (m - (i - j) ≤ x ∧ x < m - (i - j) + (m + j - m)) by omega), if_neg (show ¬ (m - (i - j) + (m + j - m) ≤ x ∧ x < m + j) by omega), if_pos h1, if_pos (show m - i ≤ x ∧ x < m - i + (m + j - m) by omega)]
    congr 1; omega
  · rw [if_neg (show ¬ (m - i ≤ x ∧ x < m - i + (m + j - m)) by omega)]
    by_cases h2 : m - (i - j) ≤ x ∧ x < m - (i - j) + (m + j - m)
    · rw [if_pos h2, if_neg (show ¬ (m - i ≤ x + (m - (m - (i - j))) ∧ x + (m - (m - (i - j))) < m - i + j) by omega), if_pos (show m ≤ x + (m - (m - (i - j))) ∧ x + (m - (m - (i - j))) < m + j by omega), if_pos (show m - i + (m + j - m) ≤ x ∧ x < m + j by omega)]
      congr 1; omega
    · rw [if_neg h2]
      by_cases h3 : m - (i - j) + (m + j - m) ≤ x ∧ x < m + j
      · rw [if_pos h3, if_neg (show ¬ (m - i ≤ x - (m + j - m) ∧ x - (m + j - m) < m - i + j) by omega), if_neg (show ¬ (m ≤ x - (m + j - m) ∧ x - (m + j - m) < m + j) by omega), if_pos (show m - i + (m + j - m) ≤ x ∧ x < m + j by omega)]
      · rw [if_neg h3, if_neg h1, if_neg (show ¬ (m ≤ x ∧ x < m + j) by omega), if_neg (show ¬ (m - i + (m + j - m) ≤ x ∧ x < m + j) by omega)]
theorem rot_lt (f : Nat → Tg) (m i j : Nat) (hi : i ≤ m) (h : i < j) : rot (swR f (m - i) (m + j - i) i) (m - i) m (m + (j - i)) = rot f (m - i) m (m + j) := by
  funext x
  unfold rot swR
  by_cases h1 : m - i ≤ x ∧ x < m - i + (m + (j - i) - m)
  · rw [if_pos h1, if_pos (show m - i ≤ x ∧ x < m - i + (m + j - m) by omega)]
    by_cases h2 : m - i ≤ x + (m - (m - i)) ∧ x + (m - (m - i)) < m - i + i
    · omega
    · rw [if_neg h2, if_neg (show ¬ (m + j - i ≤ x + (m - (m - i)) ∧ x + (m - (m - i)) < m + j - i + i) by omega)]
  · rw [if_neg h1]
    by_cases h2 : m - i + (m + (j - i) - m) ≤ x ∧ x < m + (j - i)
    · rw [if_pos h2, if_pos (show m - i ≤ x - (m + (j - i) - m) ∧ x - (m + (j - i) - m) < m - i + i by omega), if_pos (show m - i ≤ x ∧ x < m - i + (m + j - m) by omega)]
      congr 1; omega
    · rw [if_neg h2]
      by_cases h3 : m + j - i ≤ x ∧ x < m + j - i + i
      · rw [if_neg (show ¬ (m - i ≤ x ∧ x < m - i + i) by omega), if_pos h3, if_neg (show ¬ (m - i ≤ x ∧ x < m - i + (m + j - m)) by omega), if_pos (show m - i + (m + j - m) ≤ x ∧ x < m + j by omega)]
        congr 1; omega
      · rw [if_neg (show ¬ (m - i ≤ x ∧ x < m - i + i) by omega), if_neg h3, if_neg (show ¬ (m - i ≤ x ∧ x < m - i + (m + j - m)) by omega), if_neg (show ¬ (m - i + (m + j - m) ≤ x ∧ x < m + j) by omega)]
theorem rot_eq (f : Nat → Tg) (m i : Nat) (hi : i ≤ m) : swR f (m - i) m i = rot f (m - i) m (m + i) := by
  funext x
  unfold rot swR
  by_cases h1 : m - i ≤ x ∧ x < m - i + i
  · rw [if_pos h1, if_pos (show m - i ≤ x ∧ x < m - i + (m + i - m) by omega)]; congr 1; omega
  · rw [if_neg h1, if_neg (show ¬ (m - i ≤ x ∧ x < m - i + (m + i - m)) by omega)]
    by_cases h2 : m ≤ x ∧ x < m + i
    · rw [if_pos h2, if_pos (show m - i + (m + i - m) ≤ x ∧ x < m + i by omega)]; congr 1; omega
    · rw [if_neg h2, if_neg (show ¬ (m - i + (m + i - m) ≤ x ∧ x < m + i) by omega)]
end Go.Proofs.Ytglbobobifejmaa
