
/-
  PoolHolds: what holds between its rounds.
-/
import Derived.Test.YtkadapjcnonbiaaPLaw
namespace Go.Proofs.Ytkadapjcnonbiaa
open Go.RowKit

theorem lft_eq {B C : Nat → Buf} : ∀ {n : Nat}, (∀ k, k < n → ((C k).refs = 0 ↔ (B k).refs = 0)) → lft C n = lft B n
  | 0, _ => rfl
  | n + 1, h => by
    unfold lft
    rw [lft_eq (fun k hk => h k (by omega))]
    have := h n (by omega)
    by_cases e : (B n).refs = 0
    · rw [if_pos e, if_pos (this.2 e)]
    · rw [if_neg e, if_neg (fun h => e (this.1 h))]
theorem lft_take {B : Nat → Buf} {j : Nat} {x : Buf} (h0 : (B j).refs = 0) (hx : x.refs ≠ 0) : ∀ {n : Nat}, j < n → lft (upd B j x) n + 1 = lft B n
  | 0, h => absurd h (Nat.not_lt_zero _)
  | n + 1, h => by
    unfold lft
    by_cases e : j = n
    · subst e
      rw [upd_same, if_pos h0, if_neg hx, lft_eq (B := B) (fun k hk => by rw [upd_other _ _ _ _ (by omega)])]
    · have := lft_take h0 hx (n := n) (by omega)
      rw [upd_other _ _ _ _ (fun h => e h.symm)]
      omega
theorem lft_free {B : Nat → Buf} {j : Nat} {x : Buf} (h0 : (B j).refs ≠ 0) (hx : x.refs = 0) : ∀ {n : Nat}, j < n → lft (upd B j x) n = lft B n + 1
  | 0, h => absurd h (Nat.not_lt_zero _)
  | n + 1, h => by
    unfold lft
    by_cases e : j = n
    · subst e
      rw [upd_same, if_neg h0, if_pos hx, lft_eq (B := B) (fun k hk => by rw [upd_other _ _ _ _ (by omega)])]
    · have := lft_free h0 hx (n := n) (by omega)
      rw [upd_other _ _ _ _ (fun h => e h.symm)]
      omega

/-- the first buffer is held by two or more and says what it said; t are taken -/
structure Kept (n : Nat) (B : Nat → Buf) (t : Nat) (d h : List Int) : Prop where
  r : 2 ≤ (B 0).refs
  d : (B 0).data = d
  h : (B 0).head = h
  t : t + lft B n = n

theorem own_ne {n : Nat} {B : Nat → Buf} {id : Int} (h : owE n B id = 0) (h2 : 2 ≤ (B 0).refs) : id.toNat ≠ 0 := by
  intro e
  unfold owE at h
  rw [e] at h
  split at h
  · rw [if_pos (by omega)] at h; omega
  · omega

section
variable {n t : Nat} {B : Nat → Buf} {d h : List Int}
theorem Kept.same (K : Kept n B t d h) {C : Nat → Buf} (h0 : C 0 = B 0) (hr : ∀ k, k < n → ((C k).refs = 0 ↔ (B k).refs = 0)) : Kept n C t d h :=
  ⟨by rw [h0]; exact K.r, by rw [h0]; exact K.d, by rw [h0]; exact K.h, by rw [lft_eq hr]; exact K.t⟩
theorem Kept.st (K : Kept n B t d h) (id : Int) (bs : List Int) : Kept n (stB n B id bs) t d h := by
  refine K.same ?_ (fun k _ => by rw [st_refs])
  unfold stB; split
  · rename_i e
    have e0 : owE n B id = 0 := by unfold stE at e; split at e; assumption; assumption
    exact upd_other _ _ _ _ (fun q => own_ne e0 K.r q.symm)
  · rfl
theorem Kept.ap (K : Kept n B t d h) (id : Int) (bs : List Int) : Kept n (apB n B id bs) t d h := by
  refine K.same ?_ (fun k _ => by rw [ap_refs])
  unfold apB; split
  · rename_i e
    have e0 : owE n B id = 0 := by unfold apE at e; split at e; assumption; assumption
    exact upd_other _ _ _ _ (fun q => own_ne e0 K.r q.symm)
  · rfl
theorem Kept.fo (K : Kept n B t d h) (id : Int) (bs : List Int) : Kept n (foB n B id bs) t d h := by
  refine K.same ?_ (fun k _ => by rw [fo_refs])
  unfold foB; split
  · rename_i e
    have e0 : owE n B id = 0 := by unfold foE at e; split at e; assumption; assumption
    exact upd_other _ _ _ _ (fun q => own_ne e0 K.r q.symm)
  · rfl
theorem Kept.tr (K : Kept n B t d h) (id f k : Int) : Kept n (trB n B id f k) t d h := by
  refine K.same ?_ (fun k _ => by rw [tr_refs])
  unfold trB; split
  · rename_i e
    have e0 : owE n B id = 0 := by unfold trE at e; split at e; assumption; assumption
    exact upd_other _ _ _ _ (fun q => own_ne e0 K.r q.symm)
  · rfl
theorem Kept.ho (K : Kept n B t d h) (id : Int) : Kept n (hoB n B id) t d h := by
  unfold hoB; split
  · rename_i hu
    obtain ⟨i, rfl, hi, hr⟩ := usd_yes hu
    rw [Int.toNat_natCast]
    have hl : lft (upd B i { B i with refs := (B i).refs + 1 }) n = lft B n := lft_eq (fun k _ => by
      by_cases e : k = i
      · subst e; rw [upd_same]; show (B k).refs + 1 = 0 ↔ _; omega
      · rw [upd_other _ _ _ _ e])
    by_cases e : i = 0
    · subst e
      exact ⟨by rw [upd_same]; show 2 ≤ (B 0).refs + 1; have := K.r; omega, by rw [upd_same]; exact K.d, by rw [upd_same]; exact K.h, by rw [hl]; exact K.t⟩
    · have e2 : upd B i { B i with refs := (B i).refs + 1 } 0 = B 0 := upd_other _ _ _ _ (fun q => e q.symm)
      exact ⟨by rw [e2]; exact K.r, by rw [e2]; exact K.d, by rw [e2]; exact K.h, by rw [hl]; exact K.t⟩
  · exact K
/-- one is taken -/
theorem Kept.take (K : Kept n B t d h) (j : Nat) (hj : j < n) (h0 : (B j).refs = 0) : j ≠ 0 ∧ Kept n (upd B j ⟨1, [], []⟩) (t + 1) d h := by
  have hne : j ≠ 0 := fun e => by have := K.r; rw [e] at h0; omega
  have e2 : upd B j ⟨1, [], []⟩ 0 = B 0 := upd_other _ _ _ _ (fun q => hne q.symm)
  exact ⟨hne, by rw [e2]; exact K.r, by rw [e2]; exact K.d, by rw [e2]; exact K.h, by have h1 := K.t; have h2 := lft_take (x := ⟨1, [], []⟩) h0 (by decide) hj; omega⟩
/-- one less holds one -/
theorem Kept.fr (K : Kept n B t d h) (id : Int) (hid : id ≠ 0) : Kept n (frB n B id) (if usd n B id = true ∧ (B id.toNat).refs = 1 then t - 1 else t) d h := by
  unfold frB; split
  · rename_i hu
    obtain ⟨i, rfl, hi, hr⟩ := usd_yes hu
    rw [Int.toNat_natCast]
    have e : i ≠ 0 := fun e => hid (by rw [e]; rfl)
    have e2 : upd B i { B i with refs := (B i).refs - 1 } 0 = B 0 := upd_other _ _ _ _ (fun q => e q.symm)
    refine ⟨by rw [e2]; exact K.r, by rw [e2]; exact K.d, by rw [e2]; exact K.h, ?_⟩
    have h1 := K.t
    by_cases e1 : (B i).refs = 1
    · rw [if_pos ⟨hu, e1⟩, lft_free (by omega) (show (B i).refs - 1 = 0 by omega) hi]
      have h3 : lft (upd B i ⟨0, [], []⟩) n = lft B n + 1 := lft_free (by omega) rfl hi
      have h4 := lft_le (upd B i ⟨0, [], []⟩) n
      omega
    · rw [if_neg (fun h => e1 h.2), lft_eq (B := B) (fun k _ => by
        by_cases e : k = i
        · subst e; rw [upd_same]; show (B k).refs - 1 = 0 ↔ _; omega
        · rw [upd_other _ _ _ _ e])]
      exact h1
  · rename_i hu
    rw [if_neg (fun h => hu h.1)]
    exact K
end

end Go.Proofs.Ytkadapjcnonbiaa
