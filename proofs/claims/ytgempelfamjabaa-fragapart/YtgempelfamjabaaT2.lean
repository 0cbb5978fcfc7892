
/-
  Package icmp: Encode.
-/
import Derived.Test.YtgempelfamjabaaT1
namespace Go.Proofs.Ytgempelfamjabaa
open Go.RowKit Go.Shelf

/-- behind the sum; the whole message -/
def rsL (t i s u : Int) (ds : List Int) : List Int := nmL t i s u ++ ds
def icB (t c i s u : Int) (ds : List Int) : List Int := [t, c] ++ (put16 (csum ([t, c] ++ rsL t i s u ds)) ++ rsL t i s u ds)
/-- Encode's error, and its bytes -/
def ieE (t c i s u : Int) (n : Nat) : Int := if 1016 < n then 2 else if mbI t c i s u = false then 1 else 0
def ieB (t c i s u : Int) (ds : List Int) : List Int := if ieE t c i s u ds.length = 0 then icB t c i s u ds else []
theorem upB_iff {m n : Int} : upB m n = true ↔ 0 ≤ n ∧ n ≤ m := by unfold upB; simp
theorem ech_iff {t : Int} : ech t = true ↔ t = 0 ∨ t = 8 := by unfold ech; simp
/-- what holds of one that may be -/
theorem mbI_true {t c i s u : Int} (h : mbI t c i s u = true) : (0 ≤ t ∧ t ≤ 255) ∧ (0 ≤ c ∧ c ≤ 255) ∧ (0 ≤ i ∧ i ≤ 65535) ∧ (0 ≤ s ∧ s ≤ 65535) ∧ (0 ≤ u ∧ u ≤ 65535) ∧ (ech t = true → u = 0) ∧ (ech t = false → i = 0 ∧ s = 0) := by
  unfold mbI at h
  cases he : ech t with
  | true =>
    rw [if_pos he] at h
    simp only [Bool.and_eq_true, upB_iff] at h
    have := ech_iff.1 he
    refine ⟨by omega, by omega, by omega, by omega, by omega, fun _ => by omega, fun e => by cases e⟩
  | false =>
    rw [if_neg (by rw [he]; decide)] at h
    by_cases h3 : t = 3
    · rw [if_pos h3] at h
      split at h <;> simp only [Bool.and_eq_true, upB_iff] at h <;> exact ⟨by omega, by omega, by omega, by omega, by omega, fun e => (by cases e), fun _ => by omega⟩
    · rw [if_neg h3] at h
      by_cases h11 : t = 11
      · rw [if_pos h11] at h
        simp only [Bool.and_eq_true, upB_iff] at h
        exact ⟨by omega, by omega, by omega, by omega, by omega, fun e => (by cases e), fun _ => by omega⟩
      · rw [if_neg h11] at h; cases h
theorem nmL_len (t i s u : Int) : (nmL t i s u).length = 4 := rfl
theorem nmL_bytes (t i s u : Int) : Bytes (nmL t i s u) := (put16_bytes _).append (put16_bytes _)
theorem rsL_len (t i s u : Int) (ds : List Int) : (rsL t i s u ds).length = 4 + ds.length := by simp [rsL, nmL_len]
theorem rsL_bytes (t i s u : Int) {ds : List Int} (h : Bytes ds) : Bytes (rsL t i s u ds) := (nmL_bytes t i s u).append h
theorem two_bytes {t c : Int} (h0 : 0 ≤ t ∧ t ≤ 255) (h1 : 0 ≤ c ∧ c ≤ 255) : Bytes [t, c] := Bytes.cons h0.1 h0.2 (Bytes.cons h1.1 h1.2 Bytes.nil)
theorem icB_len (t c i s u : Int) (ds : List Int) : (icB t c i s u ds).length = 8 + ds.length := by simp [icB, rsL_len, put16]; omega
theorem icB_bytes {t c i s u : Int} {ds : List Int} (h : mbI t c i s u = true) (hd : Bytes ds) : Bytes (icB t c i s u ds) :=
  have k := mbI_true h
  (two_bytes k.1 k.2.1).append ((put16_bytes _).append (rsL_bytes t i s u hd))
theorem append_own {B : Nat} {W : World} {v tv : Value} {xs ys : List Int} (hx : OwnB B W v xs) (hy : IsB W.heap.size W tv ys) (hl : xs.length + ys.length ≤ 140737488355328) (hm : xs.length ≤ maxLen) :
    ∃ v' w', (Builtin.append_ #[24, 24] 24 #[v, tv]).run Try.prog W = .ok v' w' ∧ Gro B w' v' (xs ++ ys) ∧ Below B W w' := by
  obtain ⟨g, e, h1, h2⟩ := hx
  have hg : g < W.heap.size := (Array.getElem?_eq_some_iff.1 h2).1
  exact append_runB ((show OwnB B W v xs from ⟨g, e, h1, h2⟩).gro hm) hy (by omega) hl
end Go.Proofs.Ytgempelfamjabaa
