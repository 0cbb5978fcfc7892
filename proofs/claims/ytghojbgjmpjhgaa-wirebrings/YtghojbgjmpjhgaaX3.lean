
/-
  What a call of both is to leave; the calls of both wires in one form.
-/
import Derived.Test.YtghojbgjmpjhgaaX2
namespace Go.Proofs.Ytghojbgjmpjhgaa
open Go.RowKit

/-- neither RegCtl nor the link was turned -/
def Same01 (D D' : Nat → Dev) : Prop := ∀ i, i < 2 → (D' i).r 0 = (D i).r 0 ∧ (D' i).r 1 = (D i).r 1
theorem same01_refl (D : Nat → Dev) : Same01 D D := fun _ _ => ⟨rfl, rfl⟩
theorem same01_upd {D : Nat → Dev} {k : Nat} {D' : Dev} (h : D'.r 0 = (D k).r 0 ∧ D'.r 1 = (D k).r 1) : Same01 D (upd D k D') := fun i _ => by
  by_cases e : i = k
  · subst e; rw [upd_same]; exact h
  · rw [upd_other _ _ _ _ e]; exact ⟨rfl, rfl⟩
theorem Same01.trans {D D' D'' : Nat → Dev} (h : Same01 D D') (h' : Same01 D' D'') : Same01 D D'' := fun i hi => ⟨(h' i hi).1.trans (h i hi).1, (h' i hi).2.trans (h i hi).2⟩
theorem r01_tk (D : Dev) : D.tkD.r 0 = D.r 0 ∧ D.tkD.r 1 = D.r 1 := by unfold Dev.tkD; split <;> simp [upd]
theorem r01_gv (D : Dev) (f : List Int) (x : Bool) : (D.gvD f x).r 0 = D.r 0 ∧ (D.gvD f x).r 1 = D.r 1 := by
  unfold Dev.gvD; split
  · exact ⟨rfl, rfl⟩
  · split
    · simp [Dev.fill, upd]
    · simp [Dev.miss, upd]
theorem r01_st (D : Dev) (i : Int) (f : List Int) : (D.stD i f).r 0 = D.r 0 ∧ (D.stD i f).r 1 = D.r 1 := by unfold Dev.stD; split <;> exact ⟨rfl, rfl⟩
theorem r01_sr (D : Dev) (i f : Int) : (D.srD i f).r 0 = D.r 0 ∧ (D.srD i f).r 1 = D.r 1 := by unfold Dev.srD; split <;> exact ⟨rfl, rfl⟩
theorem r01_wr (D : Dev) (r v : Int) (h : r ≠ 0) : (D.wrD r v).r 0 = D.r 0 ∧ (D.wrD r v).r 1 = D.r 1 := by
  unfold Dev.wrD
  rw [if_neg (fun e => h e.1), if_neg (fun e => h e.1)]
  split
  · simp [upd]
  · split
    · simp [Dev.post, upd]
    · exact ⟨rfl, rfl⟩
theorem r01_lg (c : Int) (n : Nat) : ∀ D : Dev, (lg n c D).r 0 = D.r 0 ∧ (lg n c D).r 1 = D.r 1 := by
  induction n with
  | zero => intro D; exact ⟨rfl, rfl⟩
  | succ n ih =>
    intro D
    unfold lg
    split
    · exact ⟨(ih D.tkD).1.trans (r01_tk D).1, (ih D.tkD).2.trans (r01_tk D).2⟩
    · exact ⟨rfl, rfl⟩
theorem same01_pl (D : Nat → Dev) (d : Int) : Same01 D (plD D d) := by
  unfold plD; split
  · exact same01_upd (r01_tk _)
  · exact same01_refl D
theorem same01_dl (l : Nat → List Frm) (D : Nat → Dev) (d k : Int) : Same01 D (dlDA l D d k) := by
  unfold dlDA; split
  · exact same01_upd (r01_gv _ _ _)
  · exact same01_refl D
theorem same01_ti (D : Nat → Dev) (c : Int) : Same01 D (tiD D c) := by
  have h0 := r01_lg c 16 (D 0).tick
  have h1 := r01_lg c 16 (D 1).tick
  unfold tiD
  refine (same01_upd (D := D) (k := 0) h0).trans (same01_upd ?_)
  rw [upd_other _ _ _ _ (by omega)]; exact h1

/-- what 'does' leaves -/
def DoesEnd (P : Pl) (ρ : Nat → Nat) (w : World) (D : Nat → Dev) (kd : Int) (m : Nat) (e : Ending) (w' : World) : Prop :=
  e = .returned (.bool true) ∧ ∃ ck' L' R' D' T' F', Goes P ρ w w' ck' L' R' D' T' F' (m + 1) ∧ (kd ≠ 9 → kd ≠ 10 → Same01 D D')

section
variable {P : Pl} {ρ : Nat → Nat} {w : World} {ck : Int} {L R : Nat → List (Value × Frm)} {D : Nat → Dev} {T F : Nat → Nat} {m : Nat}
theorem Rig.fresh0 (h : Rig P ρ w ck L R D T F m) : ρ w.heap.size = 0 := by
  by_cases e : ρ w.heap.size = 0
  · exact e
  · exact absurd (h.n.lt _ e) (Nat.lt_irrefl _)
theorem Half.drew (h : Half P ρ w ck L D T F m) : Half P ρ w.drew ck L D T F m := h.later ⟨rfl, rfl, rfl, Nat.le_refl _, fun _ _ => rfl⟩
theorem Rig.drew (h : Rig P ρ w ck L R D T F m) : Rig P ρ w.drew ck L R D T F m := h.later ⟨rfl, rfl, rfl, Nat.le_refl _, fun _ _ => rfl⟩
end

section
variable {ρ : Nat → Nat} {w : World} {b : Nat} {dv : Nat → Nat} {ck : Int} {L : Nat → List (Value × Frm)} {D : Nat → Dev}
theorem pDrop (h : Net ρ w b dv ck L D) (d k : Int) : Calls Try.prog 33 #[.pointer (some ⟨b, 0, none⟩), .int .i64 d, .int .i64 k] w fun e w' => e = .returned (.int .i64 (thE (fun i => (ab L i).length) d k)) ∧ ∃ L', Did ρ w w' b dv ck L' D ∧ ab L' = drA (ab L) d k := by
  rw [lens_ab]
  refine (Drop_any h d k).mono ?_
  rintro e w' ⟨rfl, hd⟩
  exact ⟨rfl, _, hd, ab_drL L d k⟩
theorem qDrop (h : RNet ρ w b dv ck L D) (hl : ∀ i, i < 2 → (L i).length ≤ 2513169434843) (d k : Int) : Calls Try.prog 34 #[.pointer (some ⟨b, 0, none⟩), .int .i64 d, .int .i64 k] w fun e w' => e = .returned (.int .i64 (thE (fun i => (ab L i).length) d k)) ∧ ∃ L', RDid ρ w w' b dv ck L' D ∧ ab L' = drA (ab L) d k := by
  rw [lens_ab]
  refine (rDrop_any h hl d k).mono ?_
  rintro e w' ⟨rfl, hd⟩
  exact ⟨rfl, _, hd, ab_drL L d k⟩
theorem pDouble (h : Net ρ w b dv ck L D) (hl : ∀ i, i < 2 → (L i).length ≤ 2513169434843) (d k : Int) : Calls Try.prog 16 #[.pointer (some ⟨b, 0, none⟩), .int .i64 d, .int .i64 k] w fun e w' => e = .returned (.int .i64 (thE (fun i => (ab L i).length) d k)) ∧ ∃ L', Did ρ w w' b dv ck L' D ∧ ab L' = dbA (ab L) d k := by
  rw [lens_ab]; exact Double_any h d k hl
theorem qDouble (h : RNet ρ w b dv ck L D) (hl : ∀ i, i < 2 → (L i).length ≤ 2513169434843) (d k : Int) : Calls Try.prog 35 #[.pointer (some ⟨b, 0, none⟩), .int .i64 d, .int .i64 k] w fun e w' => e = .returned (.int .i64 (thE (fun i => (ab L i).length) d k)) ∧ ∃ L', RDid ρ w w' b dv ck L' D ∧ ab L' = dbA (ab L) d k := by
  rw [lens_ab]; exact rDouble_any h hl d k
theorem pDeliver (h : Net ρ w b dv ck L D) (d k : Int) : Calls Try.prog 38 #[.pointer (some ⟨b, 0, none⟩), .int .i64 d, .int .i64 k] w fun e w' => e = .returned (.int .i64 (dlEA (ab L) D d k)) ∧ ∃ L', Did ρ w w' b dv ck L' (dlDA (ab L) D d k) ∧ ab L' = drA (ab L) d k := by
  rw [← dlE_ab, ← dlD_ab]
  refine (Deliver_any h d k).mono ?_
  rintro e w' ⟨rfl, hd⟩
  exact ⟨rfl, _, hd, ab_drL L d k⟩
theorem qDeliver (h : RNet ρ w b dv ck L D) (hl : ∀ i, i < 2 → (L i).length ≤ 2513169434843) (d k : Int) : Calls Try.prog 39 #[.pointer (some ⟨b, 0, none⟩), .int .i64 d, .int .i64 k] w fun e w' => e = .returned (.int .i64 (dlEA (ab L) D d k)) ∧ ∃ L', RDid ρ w w' b dv ck L' (dlDA (ab L) D d k) ∧ ab L' = drA (ab L) d k := by
  rw [← dlE_ab, ← dlD_ab]
  refine (rDeliver_any h hl d k).mono ?_
  rintro e w' ⟨rfl, hd⟩
  exact ⟨rfl, _, hd, ab_drL L d k⟩
end
end Go.Proofs.Ytghojbgjmpjhgaa
