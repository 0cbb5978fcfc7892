
/-
  Joined out of Ref RefPut RefAt.
-/
import Derived.Test.YtgempelfamjabaaI2
namespace Go.Proofs.Ytgempelfamjabaa
open Go.RowKit

theorem low_eq (n : Int) : (wrap64 (n.tmod 65536 + 65536)).tmod 65536 = n % 65536 := by
  have h : n.tmod 65536 = if 0 ≤ n then n % 65536 else -((-n) % 65536) := by
    split
    · exact Int.tmod_eq_emod_of_nonneg (by assumption)
    · have e : n = -(-n) := by omega
      rw [e, Int.neg_tmod, Int.tmod_eq_emod_of_nonneg (by omega)]
      simp
  have hb : 0 ≤ n.tmod 65536 + 65536 ∧ n.tmod 65536 + 65536 ≤ 131072 := by rw [h]; split <;> omega
  rw [wrap64_fit _ (by omega) (by omega), Int.tmod_eq_emod_of_nonneg hb.1, h]
  split <;> omega
theorem foldI_add (a c : Int) (ha : 0 ≤ a) (hc : 0 ≤ c) : foldI (foldI a + c) = foldI (a + c) := by
  have m := foldI_mod a
  have b := foldI_bd a
  have z := foldI_zero a
  by_cases h : a = 0
  · subst h
    rw [foldI_small 0 (by omega) (by omega)]
  · refine foldI_congr _ _ (by omega) (by omega) (by omega)
theorem take_two (bs : List Int) (i : Nat) (h : i + 1 < bs.length) : bs.take (i + 2) = bs.take i ++ [bs[i]?.getD 0, bs[i + 1]?.getD 0] := by
  rw [show i + 2 = (i + 1) + 1 from rfl, take_snoc bs (i + 1) h, take_snoc bs i (by omega)]; simp
/-- where the loop of Put stands, two bytes -/
def Put2 (n : Int) (b : List Int) (d : Int) (L : List Int) : Prop :=
  (d = 256 ∧ L = b) ∨ (d = 1 ∧ L = b ++ [n / 256 % 256]) ∨ (d = 0 ∧ L = b ++ put16 n)
/-- four bytes -/
def Put4 (n : Int) (b : List Int) (d : Int) (L : List Int) : Prop :=
  (d = 16777216 ∧ L = b) ∨ (d = 65536 ∧ L = b ++ [n / 16777216]) ∨ (d = 256 ∧ L = b ++ [n / 16777216, n / 65536 % 256]) ∨ (d = 1 ∧ L = b ++ [n / 16777216, n / 65536 % 256, n / 256 % 256]) ∨ (d = 0 ∧ L = b ++ put32 n)
/-- one round of it -/
theorem put2_step (n : Int) (b : List Int) (d : Int) (L : List Int) (h : Put2 n b d L) (hd : 0 < d) : Put2 n b (d / 256) (L ++ [n / d % 256]) ∧ d ≤ 256 ∧ L.length ≤ b.length + 1 := by
  rcases h with ⟨rfl, rfl⟩ | ⟨rfl, rfl⟩ | ⟨rfl, rfl⟩
  · exact ⟨.inr (.inl ⟨by decide, rfl⟩), by omega, by omega⟩
  · exact ⟨.inr (.inr ⟨by decide, by simp [put16]⟩), by omega, by simp⟩
  · omega
theorem put2_end (n : Int) (b : List Int) (d : Int) (L : List Int) (h : Put2 n b d L) (hd : ¬ 0 < d) : L = b ++ put16 n := by
  rcases h with ⟨rfl, rfl⟩ | ⟨rfl, rfl⟩ | ⟨rfl, rfl⟩
  · omega
  · omega
  · rfl
theorem put4_step (n : Int) (n0 : 0 ≤ n) (n1 : n < 4294967296) (b : List Int) (d : Int) (L : List Int) (h : Put4 n b d L) (hd : 0 < d) : Put4 n b (d / 256) (L ++ [n / d % 256]) ∧ d ≤ 16777216 ∧ L.length ≤ b.length + 3 := by
  rcases h with ⟨rfl, rfl⟩ | ⟨rfl, rfl⟩ | ⟨rfl, rfl⟩ | ⟨rfl, rfl⟩ | ⟨rfl, rfl⟩
  · exact ⟨.inr (.inl ⟨by decide, by rw [show n / 16777216 % 256 = n / 16777216 from by omega]⟩), by omega, by omega⟩
  · exact ⟨.inr (.inr (.inl ⟨by decide, by simp⟩)), by omega, by simp⟩
  · exact ⟨.inr (.inr (.inr (.inl ⟨by decide, by simp⟩))), by omega, by simp⟩
  · exact ⟨.inr (.inr (.inr (.inr ⟨by decide, by simp [put32]⟩))), by omega, by simp⟩
  · omega
theorem put4_end (n : Int) (b : List Int) (d : Int) (L : List Int) (h : Put4 n b d L) (hd : ¬ 0 < d) : L = b ++ put32 n := by
  rcases h with ⟨rfl, rfl⟩ | ⟨rfl, rfl⟩ | ⟨rfl, rfl⟩ | ⟨rfl, rfl⟩ | ⟨rfl, rfl⟩
  · omega
  · omega
  · omega
  · omega
  · rfl
end Go.Proofs.Ytgempelfamjabaa
