
/-
  The document's answer for the wire: how it lies in memory; there.
-/
import Derived.Test.YtghojbgjmpjhgaaW17
namespace Go.Proofs.Ytghojbgjmpjhgaa
open Go.RowKit

/-- a list of the document's: the list's block has a role; the frames lie in nobody's blocks -/
structure RLst (ρ : Nat → Nat) (w : World) (i : Nat) (v : Value) (l : List (Value × Frm)) : Prop where
  row : Row3 w v l
  role : ∀ k, v.ownBlock = some k → ρ k = 15 + i
  fr : ∀ p ∈ l, IsF (Mine ρ) w p.1 p.2.bs
theorem RLst.but {ρ ρ' : Nat → Nat} {w w' : World} {i : Nat} {v : Value} {l : List (Value × Frm)} (h : RLst ρ w i v l) {K : Nat → Prop} (hb : But K w w') (hk : ∀ g, K g → ρ g ≠ 0 ∧ ρ g ≠ 15 + i) (he : ∀ g, g < w.heap.size → ρ' g = ρ g) : RLst ρ' w' i v l :=
  ⟨row_keep h.row hb (fun k e c => (hk k c).2 (h.role k e)), fun k e => (he k (World.ownsRow.lt h.row k e).2).trans (h.role k e), fun p hp => (h.fr p hp).ext hb (fun g e => (hk g e).1) he⟩

/-- THE DOCUMENT's WIRE AND ITS TWO DEVICES -/
structure RNet (ρ : Nat → Nat) (w : World) (b : Nat) (dv : Nat → Nat) (ck : Int) (L : Nat → List (Value × Frm)) (D : Nat → Dev) : Prop where
  lt : ∀ g, ρ g ≠ 0 → g < w.heap.size
  rb : ρ b = 13
  rd : ∀ i, i < 2 → ρ (dv i) = 11 + i
  clock : w.cell? ⟨b, 4, none⟩ = some (.int .i64 ck)
  ends : ∀ i, i < 2 → w.cell? ⟨b, i, none⟩ = some (.pointer (some ⟨dv i, 0, none⟩))
  fz : ∀ i, w.frozen? ⟨b, i, none⟩ = false
  ls : ∀ i, i < 2 → ∃ v, w.cell? ⟨b, 2 + i, none⟩ = some v ∧ RLst ρ w i v (L i)
  dev : ∀ i, i < 2 → DevAt LR (Mine ρ) w (dv i) (D i)
  ok : ∀ i, i < 2 → (D i).Ok
  fl : ∀ i, i < 2 → ∀ p ∈ L i, p.2.bs.length ≤ 274
/-- its blocks -/
def RRo (ρ : Nat → Nat) : Nat → Prop := fun g => 11 ≤ ρ g ∧ ρ g ≤ 16

section
variable {ρ ρ' : Nat → Nat} {w w' : World} {b : Nat} {dv : Nat → Nat} {ck : Int} {L : Nat → List (Value × Frm)} {D : Nat → Dev}
theorem RNet.blt (h : RNet ρ w b dv ck L D) : b < w.heap.size := h.lt b (by rw [h.rb]; omega)
theorem RNet.dlt (h : RNet ρ w b dv ck L D) (i : Nat) (hi : i < 2) : dv i < w.heap.size := h.lt _ (by rw [h.rd i hi]; omega)
theorem RNet.keep (h : RNet ρ w b dv ck L D) {K : Nat → Prop} (hb : But K w w') (hk : ∀ g, K g → ρ g ≠ 0 ∧ ρ g ≤ 10) (he : ∀ g, g < w.heap.size → ρ' g = ρ g) (hl : ∀ g, ρ' g ≠ 0 → g < w'.heap.size) : RNet ρ' w' b dv ck L D := by
  have nb : ¬ K b := fun e => by have := hk b e; have := h.rb; omega
  refine ⟨hl, (he b h.blt).trans h.rb, fun i hi => (he _ (h.dlt i hi)).trans (h.rd i hi), (hb.cell (p := ⟨b, 4, none⟩) h.blt nb).trans h.clock, fun i hi => (hb.cell (p := ⟨b, i, none⟩) h.blt nb).trans (h.ends i hi), fun i => (hb.frozen (p := ⟨b, i, none⟩) h.blt nb).trans (h.fz i), fun i hi => ?_, fun i hi => ?_, h.ok, h.fl⟩
  · obtain ⟨v, hv, hL⟩ := h.ls i hi
    exact ⟨v, (hb.cell (p := ⟨b, 2 + i, none⟩) h.blt nb).trans hv, hL.but hb (fun g e => ⟨(hk g e).1, by have := hk g e; omega⟩) he⟩
  · exact (h.dev i hi).ext hb (fun g e => (hk g e).1) (fun e => by have := hk _ e; have := h.rd i hi; omega) he
theorem RNet.later (h : RNet ρ w b dv ck L D) (hb : Below w.heap.size w w') : RNet ρ w' b dv ck L D :=
  h.keep (K := fun _ => False) (But.of_below hb) (fun _ e => e.elim) (fun _ _ => rfl) (fun g e => Nat.lt_of_lt_of_le (h.lt g e) hb.size)
theorem RNet.drew (h : RNet ρ w b dv ck L D) : RNet ρ w.drew b dv ck L D := h.later ⟨rfl, rfl, rfl, Nat.le_refl _, fun _ _ => rfl⟩
theorem RNet.al (h : RNet ρ w b dv ck L D) (o : Obj) : RNet ρ (w.alloc o) b dv ck L D := h.later ((Below.refl _ _).alloc (Nat.le_refl _) o)
theorem RNet.acts (h : RNet ρ w b dv ck L D) (i : Nat) (hi : i < 2) {D' : Dev} (hd : DevAt LR (Mine ρ) w' (dv i) D') (hok : D'.Ok) (hb : But (Only (dv i)) w w') : RNet ρ w' b dv ck L (upd D i D') := by
  have hr := h.rd i hi
  have nb : ¬ Only (dv i) b := fun e => by have e : b = dv i := e; have := h.rb; rw [e] at this; omega
  refine ⟨fun g e => Nat.lt_of_lt_of_le (h.lt g e) hb.size, h.rb, h.rd, (hb.cell (p := ⟨b, 4, none⟩) h.blt nb).trans h.clock, fun i hi => (hb.cell (p := ⟨b, i, none⟩) h.blt nb).trans (h.ends i hi), fun i => (hb.frozen (p := ⟨b, i, none⟩) h.blt nb).trans (h.fz i), fun j hj => ?_, fun j hj => ?_, fun j hj => ?_, h.fl⟩
  · obtain ⟨v, hv, hL⟩ := h.ls j hj
    exact ⟨v, (hb.cell (p := ⟨b, 2 + j, none⟩) h.blt nb).trans hv, hL.but hb (fun g e => by have e : g = dv i := e; rw [e, hr]; omega) (fun _ _ => rfl)⟩
  · by_cases e : j = i
    · subst e; rw [upd_same]; exact hd
    · rw [upd_other _ _ _ _ e]
      exact (h.dev j hj).ext hb (fun g e => by have e : g = dv i := e; rw [e, hr]; omega) (fun e2 => by have e2 : dv j = dv i := e2; have := h.rd j hj; rw [e2] at this; omega) (fun _ _ => rfl)
  · by_cases e : j = i
    · subst e; rw [upd_same]; exact hok
    · rw [upd_other _ _ _ _ e]; exact h.ok j hj
theorem RNet.put (h : RNet ρ w b dv ck L D) (i : Nat) (hi : i < 2) {v : Value} {l : List (Value × Frm)} (hb : But (fun g => ρ g = 15 + i) w w') (he : ∀ g, g < w.heap.size → ρ' g = ρ g) (hl : ∀ g, ρ' g ≠ 0 → g < w'.heap.size) (hL : RLst ρ' w' i v l) (hf : ∀ p ∈ l, p.2.bs.length ≤ 274) :
    RNet ρ' (w'.setCell ⟨b, 2 + i, none⟩ v) b dv ck (upd L i l) D := by
  have nb : ¬ ρ b = 15 + i := by rw [h.rb]; omega
  have hb2 : But (Only b) w' (w'.setCell ⟨b, 2 + i, none⟩ v) := (But.refl (Only b) w').setCell (p := ⟨b, 2 + i, none⟩) (.inr rfl) v
  have rb' : ρ' b = 13 := (he b h.blt).trans h.rb
  have cb : ∀ j, j ≠ 2 + i → (w'.setCell ⟨b, 2 + i, none⟩ v).cell? ⟨b, j, none⟩ = w.cell? ⟨b, j, none⟩ := fun j hj =>
    (World.cell?_setCell_other _ _ _ _ (by intro q; have q : 2 + i = j := congrArg Addr.off q; omega)).trans (hb.cell (p := ⟨b, j, none⟩) h.blt nb)
  refine ⟨fun g e => by simpa [World.setCell] using hl g e, rb', fun j hj => (he _ (h.dlt j hj)).trans (h.rd j hj), (cb 4 (by omega)).trans h.clock, fun j hj => (cb j (by omega)).trans (h.ends j hj), fun j => ?_, fun j hj => ?_, fun j hj => ?_, h.ok, fun j hj => ?_⟩
  · rw [World.frozen?_setCell]; exact (hb.frozen (p := ⟨b, j, none⟩) h.blt nb).trans (h.fz j)
  · by_cases e : j = i
    · subst e
      rw [upd_same]
      refine ⟨v, World.cell?_setCell_same' _ _ _ ?_, hL.but hb2 (fun g e => by have e : g = b := e; rw [e, rb']; omega) (fun _ _ => rfl)⟩
      obtain ⟨u, hu, _⟩ := h.ls j hj
      rw [hb.cell (p := ⟨b, 2 + j, none⟩) h.blt nb, hu]; rfl
    · rw [upd_other _ _ _ _ e]
      obtain ⟨u, hu, hL2⟩ := h.ls j hj
      exact ⟨u, (cb (2 + j) (by omega)).trans hu, (hL2.but hb (fun g e => by omega) he).but hb2 (fun g e => by have e : g = b := e; rw [e, rb']; omega) (fun _ _ => rfl)⟩
  · have h1 : DevAt LR (Mine ρ') w' (dv j) (D j) := (h.dev j hj).ext hb (fun g e => by omega) (fun e => by have := h.rd j hj; omega) he
    exact h1.ext hb2 (fun g e => by have e : g = b := e; rw [e, rb']; omega) (fun e => by have e : dv j = b := e; have := h.rd j hj; rw [e] at this; have := h.rb; omega) (fun _ _ => rfl)
  · by_cases e : j = i
    · subst e; rw [upd_same]; exact hf
    · rw [upd_other _ _ _ _ e]; exact h.fl j hj
/-- what a call of it leaves behind -/
def RDid (ρ : Nat → Nat) (w w' : World) (b : Nat) (dv : Nat → Nat) (ck : Int) (L : Nat → List (Value × Frm)) (D : Nat → Dev) : Prop :=
  ∃ ρ', RNet ρ' w' b dv ck L D ∧ (∀ g, g < w.heap.size → ρ' g = ρ g) ∧ But (RRo ρ) w w'
theorem RNet.did (h : RNet ρ w b dv ck L D) : RDid ρ w w b dv ck L D := ⟨ρ, h, fun _ _ => rfl, But.refl _ _⟩

theorem there_any (h : RNet ρ w b dv ck L D) (d k : Int) : Calls Try.prog 61 #[.pointer (some ⟨b, 0, none⟩), .int .i64 d, .int .i64 k] w fun e w' => e = .returned (.int .i64 (thE (lens L) d k)) ∧ w' = w := by
  cases hd : isDir d with
  | true =>
    obtain ⟨i, rfl, hi⟩ := isDir_nat hd
    obtain ⟨v, hv, hL⟩ := h.ls i hi
    obtain ⟨a, c, rfl⟩ := hL.row.shape
    have hi2 : (i : Int) < 2 := by omega
    have q : ((i : Int) != 0) = false ∨ ((i : Int) != 0) = true ∧ ((i : Int) != 1) = false := by
      have : i = 0 ∨ i = 1 := by omega
      rcases this with rfl | rfl
      · left; rfl
      · right; exact ⟨rfl, rfl⟩
    by_cases h0 : k < 0
    · rw [thE_no hi (by omega)]
      rcases q with q | ⟨q, q'⟩
      all_goals go_enter Try.func61, Try.ntmps61
      all_goals go_wp2
      all_goals go_ret
      all_goals exact ⟨rfl, rfl⟩
    · by_cases h1 : ((L i).length : Int) ≤ k
      · rw [thE_no hi (by unfold lens; omega)]
        rcases q with q | ⟨q, q'⟩
        all_goals go_enter Try.func61, Try.ntmps61
        all_goals go_wp2
        all_goals go_ret
        all_goals exact ⟨rfl, rfl⟩
      · rw [thE_yes hi (by unfold lens; omega)]
        rcases q with q | ⟨q, q'⟩
        all_goals go_enter Try.func61, Try.ntmps61
        all_goals go_wp2
        all_goals go_ret
        all_goals exact ⟨rfl, rfl⟩
  | false =>
    rw [thE_one hd]
    have hd0 : ¬ (0 ≤ d ∧ d < 2) := by unfold isDir at hd; simpa using hd
    have q : (d != 0) = true := by simp; omega
    have q' : (d != 1) = true := by simp; omega
    clear hd hd0
    go_enter Try.func61, Try.ntmps61
    go_wp2
    go_ret
    exact ⟨rfl, rfl⟩
end

end Go.Proofs.Ytghojbgjmpjhgaa
