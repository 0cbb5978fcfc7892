
/-
  Contracts of package pool: isFree, inUse, heldAlone, Size, Hold, Free.
-/
import Derived.Test.YtjkfjijnjkpbbaaKB
namespace Go.Proofs.Ytjkfjijnjkpbbaa
open Go.RowKit

/-- is there a buffer id in use? -/
def usd (n : Nat) (B : Nat → Buf) (id : Int) : Bool := decide (0 ≤ id ∧ id < n ∧ 0 < (B id.toNat).refs)
/-- may it be changed? -/
def owE (n : Nat) (B : Nat → Buf) (id : Int) : Int := if usd n B id = true then (if 1 < (B id.toNat).refs then 9 else 0) else 7
def hoE (n : Nat) (B : Nat → Buf) (id : Int) : Int := if usd n B id = true then 0 else 7
def hoB (n : Nat) (B : Nat → Buf) (id : Int) : Nat → Buf := if usd n B id = true then upd B id.toNat { B id.toNat with refs := (B id.toNat).refs + 1 } else B
def frB (n : Nat) (B : Nat → Buf) (id : Int) : Nat → Buf := if usd n B id = true then upd B id.toNat { B id.toNat with refs := (B id.toNat).refs - 1 } else B

theorem usd_yes {n : Nat} {B : Nat → Buf} {id : Int} (h : usd n B id = true) : ∃ i : Nat, id = i ∧ i < n ∧ 0 < (B i).refs := by
  unfold usd at h
  obtain ⟨h0, h1, h2⟩ := of_decide_eq_true h
  exact ⟨id.toNat, by omega, by omega, h2⟩
theorem usd_nat {n : Nat} {B : Nat → Buf} {i : Nat} (hi : i < n) (hr : 0 < (B i).refs) : usd n B (i : Int) = true := by
  unfold usd; simp; omega

section
variable {w : World} {b g n : Nat} {B : Nat → Buf}

theorem isFree_any {o r : Nat} (h : w.cell? ⟨g, o, none⟩ = some (.int .i64 (r : Int))) :
    Calls Try.prog 59 #[.pointer (some ⟨g, o, none⟩)] w fun e w' => e = .returned (.bool (decide (r = 0))) ∧ w' = w := by
  by_cases h0 : r = 0
  · subst h0
    go_enter Try.func59, Try.ntmps59
    go_wp2
    go_ret
    exact ⟨rfl, rfl⟩
  · have q : ((r : Int) == 0) = false := beq_no (by omega)
    rw [show decide (r = 0) = false from by simp [h0]]
    clear h0
    go_enter Try.func59, Try.ntmps59
    go_wp2
    go_ret
    exact ⟨rfl, rfl⟩

theorem inUse_yes (H : PoolAt w b g n B) (i : Nat) (hi : i < n) (hr : 0 < (B i).refs) :
    Calls Try.prog 48 #[.pointer (some ⟨b, 0, none⟩), .int .i64 (i : Int)] w fun e w' => e = .returned (.tuple #[.pointer (some ⟨g, i * 395, none⟩), .int .i64 0]) ∧ w' = w := by
  have c := H.cell
  have F := hide (isFree_any (H.buf i hi).refs)
  rw [show decide ((B i).refs = 0) = false from by simp; omega] at F
  have h1 : (i : Int) < n := by omega
  have h0 : (0 : Int) ≤ (i : Int) := by omega
  have hn : (n : Int) ≤ 4096 := by have := H.n1; omega
  clear H hr hi
  go_enter Try.func48, Try.ntmps48
  go_wp2_with fail
  refine F.out.mono ?_
  rintro e w1 ⟨rfl, rfl⟩
  go_wp2
  go_ret2
  exact ⟨rfl, rfl⟩

theorem inUse_no (H : PoolAt w b g n B) (id : Int) (hu : usd n B id = false) :
    Calls Try.prog 48 #[.pointer (some ⟨b, 0, none⟩), .int .i64 id] w fun e w' => e = .returned (.tuple #[.pointer none, .int .i64 7]) ∧ w' = w := by
  have c := H.cell
  have hn : (n : Int) ≤ 4096 := by have := H.n1; omega
  by_cases h0 : 0 ≤ id
  · by_cases h1 : id < n
    · obtain ⟨i, rfl⟩ : ∃ i : Nat, id = i := ⟨id.toNat, by omega⟩
      have hr : (B i).refs = 0 := by
        unfold usd at hu
        simp at hu
        have := hu (by omega); omega
      have F := hide (isFree_any (H.buf i (by omega)).refs)
      rw [show decide ((B i).refs = 0) = true from by simp [hr]] at F
      clear H hr hu
      go_enter Try.func48, Try.ntmps48
      go_wp2_with fail
      refine F.out.mono ?_
      rintro e w1 ⟨rfl, rfl⟩
      go_wp2
      go_ret2
      exact ⟨rfl, rfl⟩
    · clear H hu
      go_enter Try.func48, Try.ntmps48
      go_wp2
      go_ret2
      exact ⟨rfl, rfl⟩
  · clear H hu
    go_enter Try.func48, Try.ntmps48
    go_wp2
    go_ret2
    exact ⟨rfl, rfl⟩

theorem held_yes (H : PoolAt w b g n B) (i : Nat) (hi : i < n) (hr : (B i).refs = 1) :
    Calls Try.prog 60 #[.pointer (some ⟨b, 0, none⟩), .int .i64 (i : Int)] w fun e w' => e = .returned (.tuple #[.pointer (some ⟨g, i * 395, none⟩), .int .i64 0]) ∧ w' = w := by
  have U := hide (inUse_yes H i hi (by omega))
  have c := (H.buf i hi).refs
  rw [hr] at c
  clear H hr hi
  generalize i * 395 = o at *
  go_enter Try.func60, Try.ntmps60
  go_wp2_with fail
  refine U.out.mono ?_
  rintro e w1 ⟨rfl, rfl⟩
  go_wp2
  go_ret2
  exact ⟨rfl, rfl⟩

theorem held_shared (H : PoolAt w b g n B) (i : Nat) (hi : i < n) (hr : 1 < (B i).refs) :
    Calls Try.prog 60 #[.pointer (some ⟨b, 0, none⟩), .int .i64 (i : Int)] w fun e w' => e = .returned (.tuple #[.pointer none, .int .i64 9]) ∧ w' = w := by
  have U := hide (inUse_yes H i hi (by omega))
  have c := (H.buf i hi).refs
  have hr' : (1 : Int) < ((B i).refs : Int) := by omega
  generalize ((B i).refs : Int) = r at c hr'
  clear H hr hi
  generalize i * 395 = o at *
  go_enter Try.func60, Try.ntmps60
  go_wp2_with fail
  refine U.out.mono ?_
  rintro e w1 ⟨rfl, rfl⟩
  go_wp2
  go_ret2
  exact ⟨rfl, rfl⟩

theorem held_no (H : PoolAt w b g n B) (id : Int) (hu : usd n B id = false) :
    Calls Try.prog 60 #[.pointer (some ⟨b, 0, none⟩), .int .i64 id] w fun e w' => e = .returned (.tuple #[.pointer none, .int .i64 7]) ∧ w' = w := by
  have U := hide (inUse_no H id hu)
  clear H hu
  go_enter Try.func60, Try.ntmps60
  go_wp2_with fail
  refine U.out.mono ?_
  rintro e w1 ⟨rfl, rfl⟩
  go_wp2
  go_ret2
  exact ⟨rfl, rfl⟩

/-- the three ways of a call that would change a buffer -/
theorem held_cases (H : PoolAt w b g n B) (id : Int) : (∃ i : Nat, id = i ∧ i < n ∧ (B i).refs = 1 ∧ owE n B id = 0) ∨
    (owE n B id ≠ 0 ∧ Calls Try.prog 60 #[.pointer (some ⟨b, 0, none⟩), .int .i64 id] w fun e w' => e = .returned (.tuple #[.pointer none, .int .i64 (owE n B id)]) ∧ w' = w) := by
  cases hu : usd n B id with
  | false =>
    right
    have e : owE n B id = 7 := by unfold owE; rw [hu]; rfl
    rw [e]
    exact ⟨by omega, held_no H id hu⟩
  | true =>
    obtain ⟨i, rfl, hi, hr⟩ := usd_yes hu
    by_cases h1 : 1 < (B i).refs
    · right
      have e : owE n B (i : Int) = 9 := by unfold owE; rw [hu, if_pos rfl, Int.toNat_natCast, if_pos h1]
      rw [e]
      exact ⟨by omega, held_shared H i hi h1⟩
    · left
      exact ⟨i, rfl, hi, by omega, by unfold owE; rw [hu, if_pos rfl, Int.toNat_natCast, if_neg h1]⟩

theorem Hold_any (H : PoolAt w b g n B) (id : Int) (hm : (B id.toNat).refs < 4611686018427387904) :
    Calls Try.prog 54 #[.pointer (some ⟨b, 0, none⟩), .int .i64 id] w fun e w' => e = .returned (.int .i64 (hoE n B id)) ∧ PoolAt w' b g n (hoB n B id) ∧ But (Only g) w w' := by
  unfold hoE hoB
  cases hu : usd n B id with
  | false =>
    have U := hide (inUse_no H id hu)
    have HH := hide H
    rw [if_neg (by simp), if_neg (by simp)]
    clear H hu hm
    go_enter Try.func54, Try.ntmps54
    go_wp2_with fail
    refine U.out.mono ?_
    rintro e w1 ⟨rfl, rfl⟩
    go_wp2
    go_ret
    exact ⟨rfl, HH.out, But.refl _ _⟩
  | true =>
    obtain ⟨i, rfl, hi, hr⟩ := usd_yes hu
    rw [if_pos rfl, if_pos rfl, Int.toNat_natCast]
    rw [Int.toNat_natCast] at hm
    have U := hide (inUse_yes H i hi hr)
    have c := (H.buf i hi).refs
    have fz := H.fz (i * 395)
    have S := hide (H.setRefs i hi ((B i).refs + 1))
    have e1 : (((B i).refs + 1 : Nat) : Int) = ((B i).refs : Int) + 1 := by omega
    rw [e1] at S
    have hm1 : ((B i).refs : Int) < 4611686018427387904 := by omega
    have hm0 : (0 : Int) ≤ ((B i).refs : Int) := by omega
    generalize ((B i).refs : Int) = r at c hm1 hm0 S
    clear H hu hr hi e1 hm
    generalize i * 395 = o at *
    go_enter Try.func54, Try.ntmps54
    go_wp2_with fail
    refine U.out.mono ?_
    rintro e w1 ⟨rfl, rfl⟩
    go_wp2
    go_ret
    exact ⟨rfl, S.out, (But.refl _ _).cellb _ _⟩

theorem Free_any (H : PoolAt w b g n B) (id : Int) (hm : (B id.toNat).refs < 4611686018427387904) :
    Calls Try.prog 28 #[.pointer (some ⟨b, 0, none⟩), .int .i64 id] w fun e w' => e = .returned (.int .i64 (hoE n B id)) ∧ PoolAt w' b g n (frB n B id) ∧ But (Only g) w w' := by
  unfold hoE frB
  cases hu : usd n B id with
  | false =>
    have U := hide (inUse_no H id hu)
    have HH := hide H
    rw [if_neg (by simp), if_neg (by simp)]
    clear H hu hm
    go_enter Try.func28, Try.ntmps28
    go_wp2_with fail
    refine U.out.mono ?_
    rintro e w1 ⟨rfl, rfl⟩
    go_wp2
    go_ret
    exact ⟨rfl, HH.out, But.refl _ _⟩
  | true =>
    obtain ⟨i, rfl, hi, hr⟩ := usd_yes hu
    rw [if_pos rfl, if_pos rfl, Int.toNat_natCast]
    rw [Int.toNat_natCast] at hm
    have U := hide (inUse_yes H i hi hr)
    have c := (H.buf i hi).refs
    have fz := H.fz (i * 395)
    have S := hide (H.setRefs i hi ((B i).refs - 1))
    have e1 : (((B i).refs - 1 : Nat) : Int) = ((B i).refs : Int) - 1 := by omega
    rw [e1] at S
    have hm1 : ((B i).refs : Int) < 4611686018427387904 := by omega
    have hm0 : (0 : Int) < ((B i).refs : Int) := by omega
    generalize ((B i).refs : Int) = r at c hm1 hm0 S
    clear H hu hr hi e1 hm
    generalize i * 395 = o at *
    go_enter Try.func28, Try.ntmps28
    go_wp2_with fail
    refine U.out.mono ?_
    rintro e w1 ⟨rfl, rfl⟩
    go_wp2
    go_ret
    exact ⟨rfl, S.out, (But.refl _ _).cellb _ _⟩
end

end Go.Proofs.Ytjkfjijnjkpbbaa
