
/-
  Package wire: contracts of isDirection, isOld, stands, Len, Now, another, See.
-/
import Derived.Test.YtghojbgjmpjhgaaWBase
namespace Go.Proofs.Ytghojbgjmpjhgaa
open Go.RowKit

def isDir (d : Int) : Bool := decide (0 ≤ d ∧ d < 2)
theorem isDir_nat {d : Int} (h : isDir d = true) : ∃ i : Nat, d = (i : Int) ∧ i < 2 := by
  unfold isDir at h
  simp only [decide_eq_true_eq] at h
  exact ⟨d.toNat, by omega, by omega⟩
theorem isDir_of (i : Nat) (h : i < 2) : isDir (i : Int) = true := by unfold isDir; simp; omega
/-- does a frame stand there? -/
def thE (n : Nat → Nat) (d k : Int) : Int := if isDir d = true then (if 0 ≤ k ∧ k < (n d.toNat : Int) then 0 else 7) else 1
theorem thE_one {n : Nat → Nat} {d k : Int} (h : isDir d = false) : thE n d k = 1 := by unfold thE; rw [if_neg (by rw [h]; simp)]
theorem thE_no {n : Nat → Nat} {i : Nat} {k : Int} (hi : i < 2) (h : ¬ (0 ≤ k ∧ k < (n i : Int))) : thE n (i : Int) k = 7 := by unfold thE; rw [if_pos (isDir_of i hi), Int.toNat_natCast, if_neg h]
theorem thE_yes {n : Nat → Nat} {i : Nat} {k : Int} (hi : i < 2) (h : 0 ≤ k ∧ k < (n i : Int)) : thE n (i : Int) k = 0 := by unfold thE; rw [if_pos (isDir_of i hi), Int.toNat_natCast, if_pos h]

theorem isDirection_any (d : Int) (w : World) : Calls Try.prog 54 #[.int .i64 d] w fun e w' => e = .returned (.bool (isDir d)) ∧ w' = w := by
  unfold isDir
  by_cases h0 : 0 ≤ d
  · by_cases h1 : d < 2
    · rw [decide_eq_true ⟨h0, h1⟩]
      go_enter Try.func54, Try.ntmps54
      go_wp2
      go_ret
      exact ⟨rfl, rfl⟩
    · rw [decide_eq_false (by omega)]
      go_enter Try.func54, Try.ntmps54
      go_wp2
      go_ret
      exact ⟨rfl, rfl⟩
  · rw [decide_eq_false (by omega)]
    go_enter Try.func54, Try.ntmps54
    go_wp2
    go_ret
    exact ⟨rfl, rfl⟩

section
variable {ρ : Nat → Nat} {w : World} {b : Nat} {dv : Nat → Nat} {ck : Int} {L : Nat → List (Value × Frm)} {D : Nat → Dev}

/-- so long ago -/
def old (ck t : Int) : Bool := decide (8 ≤ ck - t)
theorem isOld_any {w : World} {b : Nat} {ck : Int} (c : w.cell? ⟨b, 0, none⟩ = some (.int .i64 ck)) (t : Int) (h0 : 0 ≤ ck ∧ ck ≤ 4611686018427387904) (h1 : 0 ≤ t ∧ t ≤ 4611686018427387904) :
    Calls Try.prog 56 #[.pointer (some ⟨b, 0, none⟩), .int .i64 t] w fun e w' => e = .returned (.bool (old ck t)) ∧ w' = w := by
  unfold old
  by_cases h : 8 ≤ ck - t
  · rw [decide_eq_true h]
    go_enter Try.func56, Try.ntmps56
    go_wp2
    go_ret
    exact ⟨rfl, rfl⟩
  · rw [decide_eq_false h]
    go_enter Try.func56, Try.ntmps56
    go_wp2
    go_ret
    exact ⟨rfl, rfl⟩

theorem Now_any (h : Net ρ w b dv ck L D) : Calls Try.prog 14 #[.pointer (some ⟨b, 0, none⟩)] w fun e w' => e = .returned (.int .i64 ck) ∧ w' = w := by
  have c := h.clock
  go_enter Try.func14, Try.ntmps14
  go_wp2
  go_ret
  exact ⟨rfl, rfl⟩

theorem Row3.shape {w : World} {v : Value} {l : List (Value × Frm)} (h : Row3 w v l) : ∃ a c, v = .slice a l.length c := by
  obtain ⟨_, ⟨rfl, e⟩ | ⟨g, cap, cur, rfl, _⟩⟩ := h
  · rw [e]; exact ⟨_, _, rfl⟩
  · exact ⟨_, _, rfl⟩

def lens (L : Nat → List (Value × Frm)) (i : Nat) : Nat := (L i).length

theorem Len_any (h : Net ρ w b dv ck L D) (d : Int) : Calls Try.prog 21 #[.pointer (some ⟨b, 0, none⟩), .int .i64 d] w fun e w' => e = .returned (.int .i64 (if isDir d = true then ((L d.toNat).length : Int) else 0)) ∧ w' = w := by
  have R := isDirection_any d w
  cases hd : isDir d with
  | true =>
    rw [hd] at R
    obtain ⟨i, rfl, hi⟩ := isDir_nat hd
    rw [if_pos rfl, Int.toNat_natCast]
    obtain ⟨v, hv, hL⟩ := h.ls i hi
    obtain ⟨a, c, rfl⟩ := hL.row.shape
    have hi2 : (i : Int) < 2 := by omega
    go_enter Try.func21, Try.ntmps21
    go_wp2_with fail
    refine R.mono ?_
    rintro e w' ⟨rfl, rfl⟩
    go_wp2
    go_ret
    exact ⟨rfl, rfl⟩
  | false =>
    rw [hd] at R
    rw [if_neg (by simp)]
    go_enter Try.func21, Try.ntmps21
    go_wp2_with fail
    refine R.mono ?_
    rintro e w' ⟨rfl, rfl⟩
    go_wp2
    go_ret
    exact ⟨rfl, rfl⟩

theorem stands_any (h : Net ρ w b dv ck L D) (d k : Int) : Calls Try.prog 49 #[.pointer (some ⟨b, 0, none⟩), .int .i64 d, .int .i64 k] w fun e w' => e = .returned (.int .i64 (thE (lens L) d k)) ∧ w' = w := by
  have R := isDirection_any d w
  cases hd : isDir d with
  | true =>
    rw [hd] at R
    obtain ⟨i, rfl, hi⟩ := isDir_nat hd
    obtain ⟨v, hv, hL⟩ := h.ls i hi
    obtain ⟨a, c, rfl⟩ := hL.row.shape
    have hi2 : (i : Int) < 2 := by omega
    by_cases h0 : k < 0
    · rw [thE_no hi (by omega)]
      go_enter Try.func49, Try.ntmps49
      go_wp2_with fail
      refine R.mono ?_
      rintro e w' ⟨rfl, rfl⟩
      go_wp2
      go_ret
      exact ⟨rfl, rfl⟩
    · by_cases h1 : ((L i).length : Int) ≤ k
      · rw [thE_no hi (by unfold lens; omega)]
        go_enter Try.func49, Try.ntmps49
        go_wp2_with fail
        refine R.mono ?_
        rintro e w' ⟨rfl, rfl⟩
        go_wp2
        go_ret
        exact ⟨rfl, rfl⟩
      · rw [thE_yes hi (by unfold lens; omega)]
        go_enter Try.func49, Try.ntmps49
        go_wp2_with fail
        refine R.mono ?_
        rintro e w' ⟨rfl, rfl⟩
        go_wp2
        go_ret
        exact ⟨rfl, rfl⟩
  | false =>
    rw [hd] at R
    rw [thE_one hd]
    go_enter Try.func49, Try.ntmps49
    go_wp2_with fail
    refine R.mono ?_
    rintro e w' ⟨rfl, rfl⟩
    go_wp2
    go_ret
    exact ⟨rfl, rfl⟩
end

end Go.Proofs.Ytghojbgjmpjhgaa
