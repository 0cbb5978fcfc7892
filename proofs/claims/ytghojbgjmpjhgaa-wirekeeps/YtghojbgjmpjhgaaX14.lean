
/-
  WireKeeps: its walk.
-/
import Derived.Test.YtghojbgjmpjhgaaX7
import Derived.Test.YtghojbgjmpjhgaaX10
namespace Go.Proofs.Ytghojbgjmpjhgaa
open Go.RowKit

theorem moved_get {α : Type} {l : List α} {k t : Nat} (p : α) (hk : k < l.length) (ht : t < l.length) : (moved l k t p)[t]? = some p := by
  unfold moved
  have hl : (l.eraseIdx k).length = l.length - 1 := by rw [List.length_eraseIdx, if_pos hk]
  have h1 : ((l.eraseIdx k).take t).length = t := by rw [List.length_take]; omega
  rw [List.append_assoc, List.getElem?_append_right (by omega), h1, Nat.sub_self]
  rfl
theorem drewN_below' (w : World) (n : Nat) : Below w.heap.size w (w.drewN n) := ⟨rfl, rfl, rfl, Nat.le_refl _, fun _ _ => rfl⟩
theorem mvE_at {l : Nat → List Frm} {j u : Nat} (hj : j < (l 0).length) (hu : u < (l 0).length) : mvE l 0 (j : Int) (u : Int) = 0 ∧ mvA l 0 (j : Int) (u : Int) = upd l 0 (moved (l 0) j u (((l 0)[j]?).getD ⟨[], false, 0⟩)) := by
  have e : mvE l 0 (j : Int) (u : Int) = 0 := by
    unfold mvE
    rw [show thE (fun i => (l i).length) 0 (j : Int) = 0 from thE_yes (i := 0) (by omega) (by omega), if_pos rfl, if_pos (by simp only [Int.toNat_zero]; omega)]
  refine ⟨e, ?_⟩
  unfold mvA
  rw [if_pos e]; rfl
theorem mvE_off {l : Nat → List Frm} {k t : Int} (h : ¬ (0 ≤ k ∧ k < ((l 0).length : Int) ∧ 0 ≤ t ∧ t < ((l 0).length : Int))) : mvE l 0 k t ≠ 0 := by
  intro e
  obtain ⟨i, hi0, hi, j, u, rfl, hj, rfl, hu⟩ := mvE_dir e
  obtain rfl : i = 0 := by omega
  exact h ⟨by omega, by omega, by omega, by omega⟩
theorem mvA_off {l : Nat → List Frm} {k t : Int} (h : mvE l 0 k t ≠ 0) : mvA l 0 k t = l := by unfold mvA; rw [if_neg h]
theorem dmE_at {l : Nat → List Frm} {u : Nat} {f : Frm} (hu : (l 0)[u]? = some f) (bit : Int) : dmE l 0 (u : Int) bit = (if 0 ≤ bit ∧ bit < 8 * (f.bs.length : Int) then 0 else 1) ∧ dmA l 0 (u : Int) bit = (if 0 ≤ bit ∧ bit < 8 * (f.bs.length : Int) then upd l 0 ((l 0).set u ⟨flip f.bs bit.toNat, true, f.tick⟩) else l) := by
  have hul := (List.getElem?_eq_some_iff.1 hu).1
  have e : dmE l 0 (u : Int) bit = (if 0 ≤ bit ∧ bit < 8 * (f.bs.length : Int) then 0 else 1) := by
    unfold dmE
    rw [show thE (fun i => (l i).length) 0 (u : Int) = 0 from thE_yes (i := 0) (by omega) (by omega), if_pos rfl]
    show (if 0 ≤ bit ∧ bit < 8 * ((((l 0)[u]?).getD ⟨[], false, 0⟩).bs.length : Int) then (0 : Int) else 1) = _
    rw [hu]; rfl
  refine ⟨e, ?_⟩
  unfold dmA
  rw [e]
  by_cases hb : 0 ≤ bit ∧ bit < 8 * (f.bs.length : Int)
  · rw [if_pos hb, if_pos rfl, if_pos hb]
    show upd l 0 ((l 0).set u ⟨flip (((l 0)[u]?).getD ⟨[], false, 0⟩).bs bit.toNat, true, (((l 0)[u]?).getD ⟨[], false, 0⟩).tick⟩) = _
    rw [hu]; rfl
  · rw [if_neg hb, if_neg (by omega), if_neg hb]
/-- damaged twice -/
theorem dm_twice {l : Nat → List Frm} {u : Nat} {f : Frm} (hu : (l 0)[u]? = some f) (hy : Byt f.bs) (bit : Int) : dmE (dmA l 0 (u : Int) bit) 0 (u : Int) bit = dmE l 0 (u : Int) bit ∧ ∃ f3 : Frm, (dmA (dmA l 0 (u : Int) bit) 0 (u : Int) bit 0)[u]? = some f3 ∧ f3.bs = f.bs ∧ (dmE l 0 (u : Int) bit = 0 → f3.bad = true) := by
  have hul := (List.getElem?_eq_some_iff.1 hu).1
  obtain ⟨e1, e2⟩ := dmE_at hu bit
  by_cases hb : 0 ≤ bit ∧ bit < 8 * (f.bs.length : Int)
  · rw [if_pos hb] at e1 e2
    have h1 : (dmA l 0 (u : Int) bit 0)[u]? = some ⟨flip f.bs bit.toNat, true, f.tick⟩ := by
      rw [e2, upd_same, List.getElem?_set_self hul]
    have hb2 : 0 ≤ bit ∧ bit < 8 * ((flip f.bs bit.toNat).length : Int) := by rw [flip_len]; exact hb
    obtain ⟨e3, e4⟩ := dmE_at h1 bit
    simp only at e3 e4
    rw [if_pos hb2] at e3 e4
    refine ⟨by rw [e3, e1], ⟨flip (flip f.bs bit.toNat) bit.toNat, true, f.tick⟩, ?_, ?_, fun _ => rfl⟩
    · rw [e4, upd_same, List.getElem?_set_self (List.getElem?_eq_some_iff.1 h1).1]
    · exact hy.fl2 _
  · rw [if_neg hb] at e1 e2
    rw [e2, e2]
    exact ⟨rfl, f, hu, rfl, fun e => by rw [e1] at e; omega⟩
theorem lk_at {l : Nat → List Frm} {u : Nat} {f : Frm} (hu : (l 0)[u]? = some f) : lkA l 0 (u : Int) = f ∧ thE (fun i => (l i).length) 0 (u : Int) = 0 := by
  have hul := (List.getElem?_eq_some_iff.1 hu).1
  have e : thE (fun i => (l i).length) 0 (u : Int) = 0 := thE_yes (i := 0) (by omega) (by omega)
  refine ⟨?_, e⟩
  unfold lkA
  rw [if_pos e]
  show ((l 0)[u]?).getD ⟨[], false, 0⟩ = f
  rw [hu]; rfl

/-- what was seen: frames of one's own, in blocks that are neither below B nor v's -/
def Seen3 (B : Nat) (w : World) (v : Value) (l0 : List Frm) (fs : List (Value × Frm)) : Prop :=
  ∀ (j : Nat) (p : Value × Frm), fs[j]? = some p → l0[j]? = some p.2 ∧ IsF (fun g => g < B ∨ v.ownBlock = some g) w p.1 p.2.bs

/-- one more was appended -/
theorem IsF.grown {B : Nat} {w9 w' : World} {v v' u : Value} {g' : Nat} {bs : List Int} (h : IsF (fun g => g < B ∨ v.ownBlock = some g) w9 u bs) (hb : But (fun k => v.ownBlock = some k) w9 w') (hv' : v'.ownBlock = some g') (hg : v.ownBlock = some g' ∨ w9.heap.size ≤ g') : IsF (fun g => g < B ∨ v'.ownBlock = some g) w' u bs := by
  have h1 : IsF (fun g => (g < B ∨ v.ownBlock = some g) ∨ g = g') w9 u bs := h.avoid (fun g hg0 e => by
    rcases e with e | rfl
    · exact e
    · rcases hg with hg | hg
      · exact .inr hg
      · omega)
  refine (h1.but hb (fun g e => .inl (.inr e))).avoid (fun g _ e => ?_)
  rcases e with e | e
  · exact .inl (.inl e)
  · rw [hv'] at e; exact .inr (Option.some.inj e).symm
theorem Seen3.grown {B : Nat} {w9 w' : World} {v v' u : Value} {g' : Nat} {l0 : List Frm} {fs : List (Value × Frm)} {f : Frm} (h : Seen3 B w9 v l0 fs) (hb : But (fun k => v.ownBlock = some k) w9 w') (hv' : v'.ownBlock = some g') (hg : v.ownBlock = some g' ∨ w9.heap.size ≤ g') (hf : l0[fs.length]? = some f) (hu : IsF (fun g => g < B ∨ v.ownBlock = some g) w9 u f.bs) : Seen3 B w' v' l0 (fs ++ [(u, f)]) := by
  intro j p hp
  by_cases hj : j < fs.length
  · rw [List.getElem?_append_left hj] at hp
    exact ⟨(h j p hp).1, (h j p hp).2.grown hb hv' hg⟩
  · have hl := (List.getElem?_eq_some_iff.1 hp).1
    rw [List.length_append, List.length_cons, List.length_nil] at hl
    obtain rfl : j = fs.length := by omega
    rw [List.getElem?_append_right (by omega), Nat.sub_self] at hp
    simp only [List.getElem?_cons_zero, Option.some.injEq] at hp
    subst hp
    exact ⟨hf, hu.grown hb hv' hg⟩
theorem Seen3.later {B : Nat} {w w' : World} {v : Value} {l0 : List Frm} {fs : List (Value × Frm)} (h : Seen3 B w v l0 fs) (hb : Below w.heap.size w w') : Seen3 B w' v l0 fs := fun j p hp => ⟨(h j p hp).1, (h j p hp).2.later hb⟩

section
variable {P : Pl} {ρ : Nat → Nat} {w : World} {ck : Int} {L : Nat → List (Value × Frm)} {D : Nat → Dev} {T F : Nat → Nat} {m : Nat}
theorem See0_any (h : Half P ρ w ck L D T F m) (u : Nat) (f : Frm) (hu : (ab L 0)[u]? = some f) : Calls Try.prog 15 #[.pointer (some ⟨P.b, 0, none⟩), .int .i64 0, .int .i64 (u : Int)] w fun e w' => ∃ a c, e = .returned (.tuple #[.agg #[.slice a f.bs.length c, .bool f.bad, .int .i64 f.tick], .int .i64 0]) ∧ Gro w.heap.size w' (.slice a f.bs.length c) f.bs ∧ Below w.heap.size w w' := by
  have X := See_any h.n 0 (u : Int)
  rw [look_ab, ← lens_ab, (lk_at hu).1, (lk_at hu).2] at X
  exact X
end
end Go.Proofs.Ytghojbgjmpjhgaa
