
/-
  The document's Decode: its numbers, and its first bytes.
-/
import Derived.Test.YtipebfaappangaaE15
import Derived.Test.YtipebfaappangaaE3
namespace Go.Proofs.Ytipebfaappangaa
open Go.RowKit

def M6.set (m : M6) (k : Nat) (x : Int) : M6 :=
  match k with
  | 0 => { m with a := x }
  | 1 => { m with b := x }
  | 2 => { m with c := x }
  | 3 => { m with d := x }
  | 4 => { m with e := x }
  | _ => { m with f := x }
/-- the first k bytes of an address that begins at o -/
def dk (bs : List Int) (o k : Nat) : M6 := ⟨if 0 < k then nb bs o else 0, if 1 < k then nb bs (o + 1) else 0, if 2 < k then nb bs (o + 2) else 0, if 3 < k then nb bs (o + 3) else 0, if 4 < k then nb bs (o + 4) else 0, if 5 < k then nb bs (o + 5) else 0⟩
theorem dk_zero (bs : List Int) (o : Nat) : dk bs o 0 = ⟨0, 0, 0, 0, 0, 0⟩ := rfl
theorem dk_six (bs : List Int) (o : Nat) : dk bs o 6 = macAt bs o := rfl
theorem dk_succ (bs : List Int) (o k : Nat) (h : k < 6) : (dk bs o k).set k (nb bs (o + k)) = dk bs o (k + 1) := by
  rcases lt6 h with rfl | rfl | rfl | rfl | rfl | rfl <;> rfl

theorem FrAt.set_dst {W : World} {s : Nat} {f : Fr} (h : FrAt W s f) (k : Nat) (hk : k < 6) (x : Int) : FrAt (W.setCell ⟨s, k, none⟩ (.int .u8 x)) s { f with dst := f.dst.set k x } := by
  have ho : ∀ j, j ≠ k → (W.setCell ⟨s, k, none⟩ (.int .u8 x)).cell? ⟨s, j, none⟩ = W.cell? ⟨s, j, none⟩ := fun j hj => World.cell?_setCell_other _ _ _ _ (by intro q; cases q; exact hj rfl)
  have hs : (W.setCell ⟨s, k, none⟩ (.int .u8 x)).cell? ⟨s, k, none⟩ = some (.int .u8 x) := World.cell?_setCell_same' _ _ _ (h.has k (by omega))
  rcases lt6 hk with rfl | rfl | rfl | rfl | rfl | rfl
  · exact ⟨hs, (ho 1 (by omega)).trans h.c1, (ho 2 (by omega)).trans h.c2, (ho 3 (by omega)).trans h.c3, (ho 4 (by omega)).trans h.c4, (ho 5 (by omega)).trans h.c5, (ho 6 (by omega)).trans h.c6, (ho 7 (by omega)).trans h.c7, (ho 8 (by omega)).trans h.c8, (ho 9 (by omega)).trans h.c9, (ho 10 (by omega)).trans h.c10, (ho 11 (by omega)).trans h.c11, (ho 12 (by omega)).trans h.c12, (ho 13 (by omega)).trans h.c13, (ho 14 (by omega)).trans h.c14, (ho 15 (by omega)).trans h.c15, fun k => (World.frozen?_setCell ..).trans (h.fz k)⟩
  · exact ⟨(ho 0 (by omega)).trans h.c0, hs, (ho 2 (by omega)).trans h.c2, (ho 3 (by omega)).trans h.c3, (ho 4 (by omega)).trans h.c4, (ho 5 (by omega)).trans h.c5, (ho 6 (by omega)).trans h.c6, (ho 7 (by omega)).trans h.c7, (ho 8 (by omega)).trans h.c8, (ho 9 (by omega)).trans h.c9, (ho 10 (by omega)).trans h.c10, (ho 11 (by omega)).trans h.c11, (ho 12 (by omega)).trans h.c12, (ho 13 (by omega)).trans h.c13, (ho 14 (by omega)).trans h.c14, (ho 15 (by omega)).trans h.c15, fun k => (World.frozen?_setCell ..).trans (h.fz k)⟩
  · exact ⟨(ho 0 (by omega)).trans h.c0, (ho 1 (by omega)).trans h.c1, hs, (ho 3 (by omega)).trans h.c3, (ho 4 (by omega)).trans h.c4, (ho 5 (by omega)).trans h.c5, (ho 6 (by omega)).trans h.c6, (ho 7 (by omega)).trans h.c7, (ho 8 (by omega)).trans h.c8, (ho 9 (by omega)).trans h.c9, (ho 10 (by omega)).trans h.c10, (ho 11 (by omega)).trans h.c11, (ho 12 (by omega)).trans h.c12, (ho 13 (by omega)).trans h.c13, (ho 14 (by omega)).trans h.c14, (ho 15 (by omega)).trans h.c15, fun k => (World.frozen?_setCell ..).trans (h.fz k)⟩
  · exact ⟨(ho 0 (by omega)).trans h.c0, (ho 1 (by omega)).trans h.c1, (ho 2 (by omega)).trans h.c2, hs, (ho 4 (by omega)).trans h.c4, (ho 5 (by omega)).trans h.c5, (ho 6 (by omega)).trans h.c6, (ho 7 (by omega)).trans h.c7, (ho 8 (by omega)).trans h.c8, (ho 9 (by omega)).trans h.c9, (ho 10 (by omega)).trans h.c10, (ho 11 (by omega)).trans h.c11, (ho 12 (by omega)).trans h.c12, (ho 13 (by omega)).trans h.c13, (ho 14 (by omega)).trans h.c14, (ho 15 (by omega)).trans h.c15, fun k => (World.frozen?_setCell ..).trans (h.fz k)⟩
  · exact ⟨(ho 0 (by omega)).trans h.c0, (ho 1 (by omega)).trans h.c1, (ho 2 (by omega)).trans h.c2, (ho 3 (by omega)).trans h.c3, hs, (ho 5 (by omega)).trans h.c5, (ho 6 (by omega)).trans h.c6, (ho 7 (by omega)).trans h.c7, (ho 8 (by omega)).trans h.c8, (ho 9 (by omega)).trans h.c9, (ho 10 (by omega)).trans h.c10, (ho 11 (by omega)).trans h.c11, (ho 12 (by omega)).trans h.c12, (ho 13 (by omega)).trans h.c13, (ho 14 (by omega)).trans h.c14, (ho 15 (by omega)).trans h.c15, fun k => (World.frozen?_setCell ..).trans (h.fz k)⟩
  · exact ⟨(ho 0 (by omega)).trans h.c0, (ho 1 (by omega)).trans h.c1, (ho 2 (by omega)).trans h.c2, (ho 3 (by omega)).trans h.c3, (ho 4 (by omega)).trans h.c4, hs, (ho 6 (by omega)).trans h.c6, (ho 7 (by omega)).trans h.c7, (ho 8 (by omega)).trans h.c8, (ho 9 (by omega)).trans h.c9, (ho 10 (by omega)).trans h.c10, (ho 11 (by omega)).trans h.c11, (ho 12 (by omega)).trans h.c12, (ho 13 (by omega)).trans h.c13, (ho 14 (by omega)).trans h.c14, (ho 15 (by omega)).trans h.c15, fun k => (World.frozen?_setCell ..).trans (h.fz k)⟩
theorem FrAt.set_src {W : World} {s : Nat} {f : Fr} (h : FrAt W s f) (k : Nat) (hk : k < 6) (x : Int) : FrAt (W.setCell ⟨s, 6 + k, none⟩ (.int .u8 x)) s { f with src := f.src.set k x } := by
  have ho : ∀ j, j ≠ 6 + k → (W.setCell ⟨s, 6 + k, none⟩ (.int .u8 x)).cell? ⟨s, j, none⟩ = W.cell? ⟨s, j, none⟩ := fun j hj => World.cell?_setCell_other _ _ _ _ (by intro q; cases q; exact hj rfl)
  have hs : (W.setCell ⟨s, 6 + k, none⟩ (.int .u8 x)).cell? ⟨s, 6 + k, none⟩ = some (.int .u8 x) := World.cell?_setCell_same' _ _ _ (h.has (6 + k) (by omega))
  rcases lt6 hk with rfl | rfl | rfl | rfl | rfl | rfl
  · exact ⟨(ho 0 (by omega)).trans h.c0, (ho 1 (by omega)).trans h.c1, (ho 2 (by omega)).trans h.c2, (ho 3 (by omega)).trans h.c3, (ho 4 (by omega)).trans h.c4, (ho 5 (by omega)).trans h.c5, hs, (ho 7 (by omega)).trans h.c7, (ho 8 (by omega)).trans h.c8, (ho 9 (by omega)).trans h.c9, (ho 10 (by omega)).trans h.c10, (ho 11 (by omega)).trans h.c11, (ho 12 (by omega)).trans h.c12, (ho 13 (by omega)).trans h.c13, (ho 14 (by omega)).trans h.c14, (ho 15 (by omega)).trans h.c15, fun k => (World.frozen?_setCell ..).trans (h.fz k)⟩
  · exact ⟨(ho 0 (by omega)).trans h.c0, (ho 1 (by omega)).trans h.c1, (ho 2 (by omega)).trans h.c2, (ho 3 (by omega)).trans h.c3, (ho 4 (by omega)).trans h.c4, (ho 5 (by omega)).trans h.c5, (ho 6 (by omega)).trans h.c6, hs, (ho 8 (by omega)).trans h.c8, (ho 9 (by omega)).trans h.c9, (ho 10 (by omega)).trans h.c10, (ho 11 (by omega)).trans h.c11, (ho 12 (by omega)).trans h.c12, (ho 13 (by omega)).trans h.c13, (ho 14 (by omega)).trans h.c14, (ho 15 (by omega)).trans h.c15, fun k => (World.frozen?_setCell ..).trans (h.fz k)⟩
  · exact ⟨(ho 0 (by omega)).trans h.c0, (ho 1 (by omega)).trans h.c1, (ho 2 (by omega)).trans h.c2, (ho 3 (by omega)).trans h.c3, (ho 4 (by omega)).trans h.c4, (ho 5 (by omega)).trans h.c5, (ho 6 (by omega)).trans h.c6, (ho 7 (by omega)).trans h.c7, hs, (ho 9 (by omega)).trans h.c9, (ho 10 (by omega)).trans h.c10, (ho 11 (by omega)).trans h.c11, (ho 12 (by omega)).trans h.c12, (ho 13 (by omega)).trans h.c13, (ho 14 (by omega)).trans h.c14, (ho 15 (by omega)).trans h.c15, fun k => (World.frozen?_setCell ..).trans (h.fz k)⟩
  · exact ⟨(ho 0 (by omega)).trans h.c0, (ho 1 (by omega)).trans h.c1, (ho 2 (by omega)).trans h.c2, (ho 3 (by omega)).trans h.c3, (ho 4 (by omega)).trans h.c4, (ho 5 (by omega)).trans h.c5, (ho 6 (by omega)).trans h.c6, (ho 7 (by omega)).trans h.c7, (ho 8 (by omega)).trans h.c8, hs, (ho 10 (by omega)).trans h.c10, (ho 11 (by omega)).trans h.c11, (ho 12 (by omega)).trans h.c12, (ho 13 (by omega)).trans h.c13, (ho 14 (by omega)).trans h.c14, (ho 15 (by omega)).trans h.c15, fun k => (World.frozen?_setCell ..).trans (h.fz k)⟩
  · exact ⟨(ho 0 (by omega)).trans h.c0, (ho 1 (by omega)).trans h.c1, (ho 2 (by omega)).trans h.c2, (ho 3 (by omega)).trans h.c3, (ho 4 (by omega)).trans h.c4, (ho 5 (by omega)).trans h.c5, (ho 6 (by omega)).trans h.c6, (ho 7 (by omega)).trans h.c7, (ho 8 (by omega)).trans h.c8, (ho 9 (by omega)).trans h.c9, hs, (ho 11 (by omega)).trans h.c11, (ho 12 (by omega)).trans h.c12, (ho 13 (by omega)).trans h.c13, (ho 14 (by omega)).trans h.c14, (ho 15 (by omega)).trans h.c15, fun k => (World.frozen?_setCell ..).trans (h.fz k)⟩
  · exact ⟨(ho 0 (by omega)).trans h.c0, (ho 1 (by omega)).trans h.c1, (ho 2 (by omega)).trans h.c2, (ho 3 (by omega)).trans h.c3, (ho 4 (by omega)).trans h.c4, (ho 5 (by omega)).trans h.c5, (ho 6 (by omega)).trans h.c6, (ho 7 (by omega)).trans h.c7, (ho 8 (by omega)).trans h.c8, (ho 9 (by omega)).trans h.c9, (ho 10 (by omega)).trans h.c10, hs, (ho 12 (by omega)).trans h.c12, (ho 13 (by omega)).trans h.c13, (ho 14 (by omega)).trans h.c14, (ho 15 (by omega)).trans h.c15, fun k => (World.frozen?_setCell ..).trans (h.fz k)⟩

/-- the document's numbers -/
def rT (bs : List Int) : Bool := decide (nb bs 12 = 129) && decide (nb bs 13 = 0)
def rAt (bs : List Int) : Nat := if rT bs = true then 16 else 12
def rF (bs : List Int) : Fr := ⟨macAt bs 0, macAt bs 6, rT bs, if rT bs = true then nb bs 14 % 16 * 256 + nb bs 15 else 0, if rT bs = true then nb bs 14 / 32 else 0, 256 * nb bs (rAt bs) + nb bs (rAt bs + 1)⟩
def rBad (bs : List Int) : Bool := decide ((rF bs).ty < 1536) || (rT bs && (decide (nb bs 14 / 16 % 2 = 1) || decide ((rF bs).ty = 33024)))
def rLong (bs : List Int) : Bool := decide (274 < bs.length) || (decide (270 < bs.length) && !rT bs)

theorem rF_eq {bs : List Int} (h : Bytes bs) : hdF bs = rF bs := by
  have b12 := nb_bd h 12
  have b13 := nb_bd h 13
  have b14 := nb_bd h 14
  have b15 := nb_bd h 15
  have w12 : w16 bs 12 = 256 * nb bs 12 + nb bs 13 := rfl
  have w14 : w16 bs 14 = 256 * nb bs 14 + nb bs 15 := rfl
  have wz16 : w16 bs 16 = 256 * nb bs 16 + nb bs 17 := rfl
  unfold hdF rF
  by_cases ht : nb bs 12 = 129 ∧ nb bs 13 = 0
  · have hT : rT bs = true := by unfold rT; rw [decide_eq_true ht.1, decide_eq_true ht.2]; rfl
    have hA : rAt bs = 16 := by unfold rAt; rw [if_pos hT]
    rw [hA, hT, if_pos (by rw [w12]; omega), if_pos rfl, if_pos rfl, w14, wz16, show (256 * nb bs 14 + nb bs 15) % 4096 = nb bs 14 % 16 * 256 + nb bs 15 by omega, show (256 * nb bs 14 + nb bs 15) / 8192 = nb bs 14 / 32 by omega]
  · have hT : rT bs = false := by
      unfold rT
      rw [Bool.and_eq_false_iff, decide_eq_false_iff_not, decide_eq_false_iff_not]
      by_cases h1 : nb bs 12 = 129
      · exact .inr (fun h2 => ht ⟨h1, h2⟩)
      · exact .inl h1
    have hA : rAt bs = 12 := by unfold rAt; rw [if_neg (by rw [hT]; simp)]
    rw [hA, hT, if_neg (by rw [w12]; omega), if_neg (by simp), if_neg (by simp), w12]
theorem rU_eq {bs : List Int} (h : Bytes bs) : hdU bs = (rT bs && decide (nb bs 14 / 16 % 2 = 1)) := by
  have b12 := nb_bd h 12
  have b13 := nb_bd h 13
  have b14 := nb_bd h 14
  have b15 := nb_bd h 15
  have w12 : w16 bs 12 = 256 * nb bs 12 + nb bs 13 := rfl
  have w14 : w16 bs 14 = 256 * nb bs 14 + nb bs 15 := rfl
  unfold hdU rT
  rw [Bool.eq_iff_iff]
  simp only [Bool.and_eq_true, decide_eq_true_eq, w12, w14]
  constructor
  · rintro ⟨h1, h2⟩
    refine ⟨⟨by omega, by omega⟩, by omega⟩
  · rintro ⟨⟨h1, h2⟩, h3⟩
    exact ⟨by omega, by omega⟩
theorem rE_eq {bs : List Int} (h : Bytes bs) (h60 : 60 ≤ bs.length) : deE bs = if rLong bs = true then 2 else if rBad bs = true then 4 else 0 := by
  unfold deE
  rw [if_neg (by omega), rU_eq h, rF_eq h]
  have e1 : (256 + hsz (rF bs).tag < bs.length) ↔ rLong bs = true := by
    show 256 + hsz (rT bs) < bs.length ↔ _
    unfold rLong hsz
    cases rT bs <;> simp <;> omega
  have b12 := nb_bd h 12
  have b13 := nb_bd h 13
  have e2 : ((rT bs && decide (nb bs 14 / 16 % 2 = 1) || decide ((rF bs).ty = 33024) || decide ((rF bs).ty < 1536)) = true) ↔ rBad bs = true := by
    unfold rBad
    cases hT : rT bs
    · have hy : (rF bs).ty ≠ 33024 := by
        have hA : rAt bs = 12 := by unfold rAt; rw [if_neg (by rw [hT]; simp)]
        show 256 * nb bs (rAt bs) + nb bs (rAt bs + 1) ≠ 33024
        rw [hA]
        intro e
        have h1 : nb bs 12 = 129 := by have : nb bs (12 + 1) = nb bs 13 := rfl; omega
        have h2 : nb bs 13 = 0 := by have : nb bs (12 + 1) = nb bs 13 := rfl; omega
        unfold rT at hT
        rw [h1, h2] at hT
        simp at hT
      simp [hy]
    · simp only [Bool.true_and, Bool.or_eq_true, decide_eq_true_eq]
      constructor
      · rintro ((h | h) | h)
        · exact .inr (.inl h)
        · exact .inr (.inr h)
        · exact .inl h
      · rintro (h | h | h)
        · exact .inr h
        · exact .inl (.inl h)
        · exact .inl (.inr h)
  by_cases l : rLong bs = true
  · rw [if_pos (e1.2 l), if_pos l]
  · rw [if_neg (fun h => l (e1.1 h)), if_neg l]
    by_cases b : rBad bs = true
    · rw [if_pos (e2.2 b), if_pos b]
    · rw [if_neg (fun h => b (e2.1 h)), if_neg b]

end Go.Proofs.Ytipebfaappangaa
