
/-
  The program's wire and devices beside the document's: how they lie in memory together.
-/
import Derived.Test.YtghojbgjmpjhgaaX1
import Derived.Test.YtghojbgjmpjhgaaV11
namespace Go.Proofs.Ytghojbgjmpjhgaa
open Go.RowKit

/-- where all lies -/
structure Pl where
  x : Nat
  b : Nat
  rb : Nat
  dv : Nat → Nat
  rdv : Nat → Nat
  n₀ : Nat

/-- the rig's own cells -/
structure Cells (P : Pl) (w : World) (T F : Nat → Nat) : Prop where
  cd : ∀ i, i < 2 → w.cell? ⟨P.x, i, none⟩ = some (.pointer (some ⟨P.dv i, 0, none⟩))
  cw : w.cell? ⟨P.x, 2, none⟩ = some (.pointer (some ⟨P.b, 0, none⟩))
  cr : ∀ i, i < 2 → w.cell? ⟨P.x, 3 + i, none⟩ = some (.pointer (some ⟨P.rdv i, 0, none⟩))
  cv : w.cell? ⟨P.x, 5, none⟩ = some (.pointer (some ⟨P.rb, 0, none⟩))
  ct : ∀ i, i < 2 → w.cell? ⟨P.x, 6 + i, none⟩ = some (.int .i64 (T i : Int))
  cf : ∀ i, i < 2 → w.cell? ⟨P.x, 8 + i, none⟩ = some (.int .i64 (F i : Int))
  fz : ∀ i, w.frozen? ⟨P.x, i, none⟩ = false
  tb : ∀ i, i < 2 → T i < 16 ∧ F i < 16

section
variable {P : Pl} {w w' : World} {T F : Nat → Nat}
theorem Cells.lt (h : Cells P w T F) : P.x < w.heap.size := World.block_lt_of_cell? w _ h.cw
theorem Cells.but (h : Cells P w T F) {K : Nat → Prop} (hb : But K w w') (hk : ¬ K P.x) : Cells P w' T F := by
  have key : ∀ j, w'.cell? ⟨P.x, j, none⟩ = w.cell? ⟨P.x, j, none⟩ := fun j => hb.cell (p := ⟨P.x, j, none⟩) h.lt hk
  exact ⟨fun i hi => (key _).trans (h.cd i hi), (key _).trans h.cw, fun i hi => (key _).trans (h.cr i hi), (key _).trans h.cv, fun i hi => (key _).trans (h.ct i hi), fun i hi => (key _).trans (h.cf i hi), fun i => (hb.frozen (p := ⟨P.x, i, none⟩) h.lt hk).trans (h.fz i), h.tb⟩
theorem cell_off {w : World} {x j k : Nat} {v : Value} (h : j ≠ k) : (w.setCell ⟨x, k, none⟩ v).cell? ⟨x, j, none⟩ = w.cell? ⟨x, j, none⟩ :=
  World.cell?_setCell_other _ _ _ _ (by intro q; have q : k = j := congrArg Addr.off q; omega)
theorem Cells.setT (h : Cells P w T F) (k : Nat) (hk : k < 2) (t : Nat) (ht : t < 16) : Cells P (w.setCell ⟨P.x, 6 + k, none⟩ (.int .i64 (t : Int))) (upd T k t) F := by
  refine ⟨fun i hi => (cell_off (by omega)).trans (h.cd i hi), (cell_off (by omega)).trans h.cw, fun i hi => (cell_off (by omega)).trans (h.cr i hi), (cell_off (by omega)).trans h.cv, fun i hi => ?_, fun i hi => (cell_off (by omega)).trans (h.cf i hi), fun i => by rw [World.frozen?_setCell]; exact h.fz i, fun i hi => ?_⟩
  · by_cases e : i = k
    · subst e; rw [upd_same]; exact World.cell?_setCell_same' _ _ _ (by rw [h.ct i hi]; rfl)
    · rw [upd_other _ _ _ _ e, cell_off (by omega)]; exact h.ct i hi
  · by_cases e : i = k
    · subst e; rw [upd_same]; exact ⟨ht, (h.tb i hi).2⟩
    · rw [upd_other _ _ _ _ e]; exact h.tb i hi
theorem Cells.setF (h : Cells P w T F) (k : Nat) (hk : k < 2) (t : Nat) (ht : t < 16) : Cells P (w.setCell ⟨P.x, 8 + k, none⟩ (.int .i64 (t : Int))) T (upd F k t) := by
  refine ⟨fun i hi => (cell_off (by omega)).trans (h.cd i hi), (cell_off (by omega)).trans h.cw, fun i hi => (cell_off (by omega)).trans (h.cr i hi), (cell_off (by omega)).trans h.cv, fun i hi => (cell_off (by omega)).trans (h.ct i hi), fun i hi => ?_, fun i => by rw [World.frozen?_setCell]; exact h.fz i, fun i hi => ?_⟩
  · by_cases e : i = k
    · subst e; rw [upd_same]; exact World.cell?_setCell_same' _ _ _ (by rw [h.cf i hi]; rfl)
    · rw [upd_other _ _ _ _ e, cell_off (by omega)]; exact h.cf i hi
  · by_cases e : i = k
    · subst e; rw [upd_same]; exact ⟨(h.tb i hi).1, ht⟩
    · rw [upd_other _ _ _ _ e]; exact h.tb i hi
end

/-- THE PROGRAM's SIDE: its wire, its devices, the rig's cells -/
structure Half (P : Pl) (ρ : Nat → Nat) (w : World) (ck : Int) (L : Nat → List (Value × Frm)) (D : Nat → Dev) (T F : Nat → Nat) (m : Nat) : Prop where
  n : Net ρ w P.b P.dv ck L D
  c : Cells P w T F
  rx : ρ P.x = 20
  low : ∀ g, ρ g ≠ 0 → P.n₀ ≤ g
  i : Inv ck (ab L) D m
/-- BOTH -/
structure Rig (P : Pl) (ρ : Nat → Nat) (w : World) (ck : Int) (L R : Nat → List (Value × Frm)) (D : Nat → Dev) (T F : Nat → Nat) (m : Nat) : Prop extends Half P ρ w ck L D T F m where
  r : RNet ρ w P.rb P.rdv ck R D
  e : ab L = ab R

/-- the blocks that a call turns, but for the rig's own -/
def Mid (ρ : Nat → Nat) : Nat → Prop := fun g => 1 ≤ ρ g ∧ ρ g ≤ 16
theorem mid_mine {ρ : Nat → Nat} {w w' : World} (h : But (Mid ρ) w w') : But (Mine ρ) w w' := h.mono (fun g e => by unfold Mid at e; unfold Mine; omega)
theorem ro_mid {ρ : Nat → Nat} {w w' : World} (h : But (Ro ρ) w w') : But (Mid ρ) w w' := h.mono (fun g e => by unfold Ro at e; unfold Mid; omega)
theorem rro_mid {ρ : Nat → Nat} {w w' : World} (h : But (RRo ρ) w w') : But (Mid ρ) w w' := h.mono (fun g e => by unfold RRo at e; unfold Mid; omega)
theorem mid_trans {ρ ρ1 : Nat → Nat} {w w1 w2 : World} (h : But (Mid ρ) w w1) (he : ∀ g, g < w.heap.size → ρ1 g = ρ g) (h2 : But (Mid ρ1) w1 w2) : But (Mid ρ) w w2 :=
  h.trans' h2 (fun g hg e => by unfold Mid at e ⊢; rw [← he g hg]; exact e)
theorem mine_trans {ρ ρ1 : Nat → Nat} {w w1 w2 : World} (h : But (Mine ρ) w w1) (he : ∀ g, g < w.heap.size → ρ1 g = ρ g) (h2 : But (Mine ρ1) w1 w2) : But (Mine ρ) w w2 :=
  h.trans' h2 (fun g hg e => by unfold Mine at e ⊢; rw [← he g hg]; exact e)

/-- what a call of both leaves -/
def Goes (P : Pl) (ρ : Nat → Nat) (w w' : World) (ck : Int) (L R : Nat → List (Value × Frm)) (D : Nat → Dev) (T F : Nat → Nat) (m : Nat) : Prop :=
  ∃ ρ', Rig P ρ' w' ck L R D T F m ∧ (∀ g, g < w.heap.size → ρ' g = ρ g) ∧ But (Mine ρ) w w'

section
variable {P : Pl} {ρ ρ' : Nat → Nat} {w w' : World} {ck : Int} {L R : Nat → List (Value × Frm)} {D : Nat → Dev} {T F : Nat → Nat} {m : Nat}
theorem Half.bounds (h : Half P ρ w ck L D T F m) (hm : m ≤ 2513169434843) : (0 ≤ ck ∧ ck ≤ 2513169434843) ∧ (∀ i, i < 2 → ∀ j, j < 16 → 0 ≤ (D i).posted j ∧ (D i).posted j ≤ ck) ∧ (∀ i, i < 2 → ∀ p ∈ L i, 0 ≤ p.2.tick ∧ p.2.tick ≤ ck) ∧ (∀ i, i < 2 → (L i).length ≤ 2513169434843) :=
  ⟨⟨h.i.ck0.1, by have := h.i.ck0.2; omega⟩, fun i hi => (h.i.dv i hi).pst, fun i hi p hp => h.i.tk i hi p.2 (List.mem_map.2 ⟨p, hp, rfl⟩), fun i hi => by have := h.i.ln i hi; simp only [ab, List.length_map] at this; omega⟩
theorem Rig.rlens (h : Rig P ρ w ck L R D T F m) : lens R = lens L := by rw [← lens_ab, ← lens_ab, h.e]
theorem Rig.rbounds (h : Rig P ρ w ck L R D T F m) (hm : m ≤ 2513169434843) : ∀ i, i < 2 → (R i).length ≤ 2513169434843 := fun i hi => by
  have h1 := (h.toHalf.bounds hm).2.2.2 i hi
  have h2 : lens R i = lens L i := by rw [h.rlens]
  unfold lens at h2
  omega
theorem Half.later (h : Half P ρ w ck L D T F m) (hb : Below w.heap.size w w') : Half P ρ w' ck L D T F m :=
  ⟨h.n.later hb, h.c.but (K := fun _ => False) (But.of_below hb) id, h.rx, h.low, h.i⟩
theorem Rig.later (h : Rig P ρ w ck L R D T F m) (hb : Below w.heap.size w w') : Rig P ρ w' ck L R D T F m :=
  ⟨h.toHalf.later hb, h.r.later hb, h.e⟩
theorem Rig.more (h : Rig P ρ w ck L R D T F m) : Rig P ρ w ck L R D T F (m + 1) := ⟨⟨h.n, h.c, h.rx, h.low, h.i.more⟩, h.r, h.e⟩
theorem Rig.goes (h : Rig P ρ w ck L R D T F m) : Goes P ρ w w ck L R D T F m := ⟨ρ, h, fun _ _ => rfl, But.refl _ _⟩
theorem goes_trans {w1 w2 : World} (he : ∀ g, g < w.heap.size → ρ' g = ρ g) (hb : But (Mine ρ) w w1) (h : Goes P ρ' w1 w2 ck L R D T F m) : Goes P ρ w w2 ck L R D T F m := by
  obtain ⟨ρ2, h2, e2, b2⟩ := h
  exact ⟨ρ2, h2, fun g hg => (e2 g (Nat.lt_of_lt_of_le hg hb.size)).trans (he g hg), mine_trans hb he b2⟩
theorem goes_after {w1 w2 : World} (hb : Below w.heap.size w w1) (h : Goes P ρ w1 w2 ck L R D T F m) : Goes P ρ w w2 ck L R D T F m :=
  goes_trans (fun _ _ => rfl) (But.of_below hb) h

/-- the program's call has been made -/
theorem Rig.first (h : Rig P ρ w ck L R D T F m) {ck' : Int} {L' : Nat → List (Value × Frm)} {D' : Nat → Dev} (d : Did ρ w w' P.b P.dv ck' L' D') :
    ∃ ρ3, Net ρ3 w' P.b P.dv ck' L' D' ∧ RNet ρ3 w' P.rb P.rdv ck R D ∧ (∀ g, g < w.heap.size → ρ3 g = ρ g) ∧ But (Mid ρ) w w' := by
  obtain ⟨ρ3, n3, e3, b3⟩ := d
  exact ⟨ρ3, n3, h.r.keep b3 (fun g e => by omega) e3 n3.lt, e3, ro_mid b3⟩
/-- the document's too -/
theorem Rig.second (h : Rig P ρ w ck L R D T F m) {ρ3 : Nat → Nat} {w3 w4 : World} {ck' : Int} {L' R' : Nat → List (Value × Frm)} {D' : Nat → Dev} {m' : Nat} (n3 : Net ρ3 w3 P.b P.dv ck' L' D') (e3 : ∀ g, g < w.heap.size → ρ3 g = ρ g) (b3 : But (Mid ρ) w w3)
    (d : RDid ρ3 w3 w4 P.rb P.rdv ck' R' D') (he : ab L' = ab R') (hi : Inv ck' (ab L') D' m') : Goes P ρ w w4 ck' L' R' D' T F m' := by
  obtain ⟨ρ4, n4, e4, b4⟩ := d
  have ee : ∀ g, g < w.heap.size → ρ4 g = ρ g := fun g hg => (e4 g (Nat.lt_of_lt_of_le hg b3.size)).trans (e3 g hg)
  have bb : But (Mid ρ) w w4 := mid_trans b3 e3 (rro_mid b4)
  refine ⟨ρ4, ⟨⟨n3.keep b4 (fun g e => by unfold RRo at e; omega) e4 n4.lt, h.c.but bb (fun e => by unfold Mid at e; rw [h.rx] at e; omega), (ee _ h.c.lt).trans h.rx, fun g e => ?_, hi⟩, n4, he⟩, ee, mid_mine bb⟩
  by_cases hg : g < w.heap.size
  · exact h.low g (by rw [← ee g hg]; exact e)
  · have := h.low P.x (by rw [h.rx]; omega)
    have := h.c.lt
    omega
/-- the rig's cells, and others of nobody's, while both calls are made -/
theorem Rig.cells (h : Rig P ρ w ck L R D T F m) (hb : But (Mid ρ) w w') : Cells P w' T F := h.c.but hb (fun e => by unfold Mid at e; rw [h.rx] at e; omega)

/-- a device of the program's has done something -/
theorem Rig.dev1 (h : Rig P ρ w ck L R D T F m) (i : Nat) (hi : i < 2) {D' : Dev} (hd : DevAt LN (Mine ρ) w' (P.dv i) D') (ok : D'.Ok) (hb : But (Only (P.dv i)) w w') :
    Net ρ w' P.b P.dv ck L (upd D i D') ∧ RNet ρ w' P.rb P.rdv ck R D ∧ But (Mid ρ) w w' := by
  have n3 := h.n.acts i hi hd ok hb
  have hr := h.n.rd i hi
  refine ⟨n3, h.r.keep hb (fun g e => by have e : g = P.dv i := e; rw [e, hr]; omega) (fun _ _ => rfl) n3.lt, hb.mono (fun g e => by have e : g = P.dv i := e; unfold Mid; rw [e, hr]; omega)⟩
theorem Rig.dev2 (h : Rig P ρ w ck L R D T F m) (i : Nat) (hi : i < 2) {D' : Dev} {w3 w4 : World} (n3 : Net ρ w3 P.b P.dv ck L (upd D i D')) (r3 : RNet ρ w3 P.rb P.rdv ck R D) (b3 : But (Mid ρ) w w3) (hd : DevAt LR (Mine ρ) w4 (P.rdv i) D') (ok : D'.Ok) (hb : But (Only (P.rdv i)) w3 w4) (hi2 : Inv ck (ab L) (upd D i D') m) :
    Rig P ρ w4 ck L R (upd D i D') T F m ∧ But (Mid ρ) w w4 := by
  have r4 := r3.acts i hi hd ok hb
  have hr := r3.rd i hi
  have bb : But (Mid ρ) w w4 := b3.trans (hb.mono (fun g e => by have e : g = P.rdv i := e; unfold Mid; rw [e, hr]; omega))
  refine ⟨⟨⟨n3.keep hb (fun g e => by have e : g = P.rdv i := e; rw [e, hr]; omega) (fun _ _ => rfl) r4.lt, h.cells bb, h.rx, h.low, hi2⟩, r4, h.e⟩, bb⟩
theorem Half.setT (h : Half P ρ w ck L D T F m) (k : Nat) (hk : k < 2) (t : Nat) (ht : t < 16) : Half P ρ (w.setCell ⟨P.x, 6 + k, none⟩ (.int .i64 (t : Int))) ck L D (upd T k t) F m := by
  have hb : But (Only P.x) w (w.setCell ⟨P.x, 6 + k, none⟩ (.int .i64 (t : Int))) := (But.refl (Only P.x) w).setCell (p := ⟨P.x, 6 + k, none⟩) (.inr rfl) _
  have hx : ∀ g, Only P.x g → ρ g = 20 := fun g e => by have e : g = P.x := e; rw [e]; exact h.rx
  have hl : ∀ g, ρ g ≠ 0 → g < (w.setCell ⟨P.x, 6 + k, none⟩ (.int .i64 (t : Int))).heap.size := fun g e => Nat.lt_of_lt_of_le (h.n.lt g e) hb.size
  exact ⟨h.n.keep hb (fun g e => by rw [hx g e]; omega) (fun _ _ => rfl) hl, h.c.setT k hk t ht, h.rx, h.low, h.i⟩
theorem Half.setF (h : Half P ρ w ck L D T F m) (k : Nat) (hk : k < 2) (t : Nat) (ht : t < 16) : Half P ρ (w.setCell ⟨P.x, 8 + k, none⟩ (.int .i64 (t : Int))) ck L D T (upd F k t) m := by
  have hb : But (Only P.x) w (w.setCell ⟨P.x, 8 + k, none⟩ (.int .i64 (t : Int))) := (But.refl (Only P.x) w).setCell (p := ⟨P.x, 8 + k, none⟩) (.inr rfl) _
  have hx : ∀ g, Only P.x g → ρ g = 20 := fun g e => by have e : g = P.x := e; rw [e]; exact h.rx
  have hl : ∀ g, ρ g ≠ 0 → g < (w.setCell ⟨P.x, 8 + k, none⟩ (.int .i64 (t : Int))).heap.size := fun g e => Nat.lt_of_lt_of_le (h.n.lt g e) hb.size
  exact ⟨h.n.keep hb (fun g e => by rw [hx g e]; omega) (fun _ _ => rfl) hl, h.c.setF k hk t ht, h.rx, h.low, h.i⟩
/-- a block of neither -/
theorem RNet.keepX {b : Nat} {dv : Nat → Nat} (h : RNet ρ w b dv ck R D) {x : Nat} (hx : ρ x = 20) (hb : But (Only x) w w') : RNet ρ w' b dv ck R D := by
  have nb : ¬ Only x b := fun e => by have e : b = x := e; have := h.rb; rw [e] at this; omega
  refine ⟨fun g e => Nat.lt_of_lt_of_le (h.lt g e) hb.size, h.rb, h.rd, (hb.cell (p := ⟨b, 4, none⟩) h.blt nb).trans h.clock, fun i hi => (hb.cell (p := ⟨b, i, none⟩) h.blt nb).trans (h.ends i hi), fun i => (hb.frozen (p := ⟨b, i, none⟩) h.blt nb).trans (h.fz i), fun i hi => ?_, fun i hi => ?_, h.ok, h.fl⟩
  · obtain ⟨v, hv, hL⟩ := h.ls i hi
    exact ⟨v, (hb.cell (p := ⟨b, 2 + i, none⟩) h.blt nb).trans hv, hL.but hb (fun g e => by have e : g = x := e; rw [e, hx]; omega) (fun _ _ => rfl)⟩
  · exact (h.dev i hi).ext hb (fun g e => by have e : g = x := e; rw [e, hx]; omega) (fun e => by have e : dv i = x := e; have := h.rd i hi; rw [e] at this; omega) (fun _ _ => rfl)
theorem Rig.setT (h : Rig P ρ w ck L R D T F m) (k : Nat) (hk : k < 2) (t : Nat) (ht : t < 16) : Rig P ρ (w.setCell ⟨P.x, 6 + k, none⟩ (.int .i64 (t : Int))) ck L R D (upd T k t) F m :=
  ⟨h.toHalf.setT k hk t ht, h.r.keepX h.rx ((But.refl (Only P.x) w).setCell (p := ⟨P.x, 6 + k, none⟩) (.inr rfl) _), h.e⟩
theorem Rig.setF (h : Rig P ρ w ck L R D T F m) (k : Nat) (hk : k < 2) (t : Nat) (ht : t < 16) : Rig P ρ (w.setCell ⟨P.x, 8 + k, none⟩ (.int .i64 (t : Int))) ck L R D T (upd F k t) m :=
  ⟨h.toHalf.setF k hk t ht, h.r.keepX h.rx ((But.refl (Only P.x) w).setCell (p := ⟨P.x, 8 + k, none⟩) (.inr rfl) _), h.e⟩
theorem Half.setB (h : Half P ρ w ck L D T F m) (j : Nat) (v : Value) : But (Mine ρ) w (w.setCell ⟨P.x, j, none⟩ v) := (But.refl _ w).setCell (p := ⟨P.x, j, none⟩) (.inr (by unfold Mine; simp only; rw [h.rx]; omega)) v
end

end Go.Proofs.Ytghojbgjmpjhgaa
