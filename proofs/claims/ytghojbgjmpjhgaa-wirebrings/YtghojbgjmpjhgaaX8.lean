
/-
  begun: a wire between two devices that are on, and the document's beside it.
-/
import Derived.Test.YtghojbgjmpjhgaaX3
namespace Go.Proofs.Ytghojbgjmpjhgaa
open Go.RowKit

def Dn : Dev := Dev.new.wrD 0 1
theorem Dn_ok : Dn.Ok := Dev.Ok.new.wr 0 1

/-- what is there behind i rounds -/
structure Beg (w : World) (x i : Nat) (dv rdv : Nat → Nat) (wr : World) : Prop where
  cd : ∀ j, j < 2 → wr.cell? ⟨x, j, none⟩ = some (.pointer (if j < i then some ⟨dv j, 0, none⟩ else none))
  cr : ∀ j, j < 2 → wr.cell? ⟨x, 3 + j, none⟩ = some (.pointer (if j < i then some ⟨rdv j, 0, none⟩ else none))
  c2 : wr.cell? ⟨x, 2, none⟩ = some (.pointer none)
  c5 : wr.cell? ⟨x, 5, none⟩ = some (.pointer none)
  ct : ∀ j, j < 4 → wr.cell? ⟨x, 6 + j, none⟩ = some (.int .i64 0)
  fz : ∀ j, wr.frozen? ⟨x, j, none⟩ = false
  hx : x = w.heap.size
  dl : ∀ j, j < i → DevAt LN (fun _ => True) wr (dv j) Dn
  dr : ∀ j, j < i → DevAt LR (fun _ => True) wr (rdv j) Dn
  or : ∀ j, j < i → x < dv j ∧ dv j < rdv j
  o2 : 1 < i → rdv 0 < dv 1
  bel : Below w.heap.size w wr
theorem Beg.lt {w : World} {x i : Nat} {dv rdv : Nat → Nat} {wr : World} (h : Beg w x i dv rdv wr) : x < wr.heap.size := World.block_lt_of_cell? wr _ h.c2

theorem Beg.step {w : World} {x i : Nat} {dv rdv : Nat → Nat} {wr w1 w2 w3 w4 : World} {d r : Nat} (h : Beg w x i dv rdv wr) (hi : i < 2) (hd : d = wr.heap.size) (b1 : Below wr.heap.size wr w1) (d1 : DevAt LN (fun _ => True) w1 d Dev.new) (hr : r = w1.heap.size)
    (b2 : Below w1.heap.size (w1.setCell ⟨x, i, none⟩ (.pointer (some ⟨d, 0, none⟩))) w2) (d2 : DevAt LR (fun _ => True) w2 r Dev.new)
    (b3 : But (Only d) (w2.setCell ⟨x, 3 + i, none⟩ (.pointer (some ⟨r, 0, none⟩))) w3) (d3 : DevAt LN (fun _ => True) w3 d Dn) (b4 : But (Only r) w3 w4) (d4 : DevAt LR (fun _ => True) w4 r Dn) : Beg w x (i + 1) (upd dv i d) (upd rdv i r) w4 := by
  have hxl := h.lt
  have hdl := d1.lt
  have hrl := d2.lt
  have x1 : x < w1.heap.size := Nat.lt_of_lt_of_le hxl b1.size
  have x2 : x < w2.heap.size := by have := b2.size; simp [World.setCell] at this; omega
  have x3 : x < w3.heap.size := by have := b3.size; simp [World.setCell] at this; omega
  have ndx : ¬ Only d x := fun e => by have e : x = d := e; omega
  have nrx : ¬ Only r x := fun e => by have e : x = r := e; omega
  have cell : ∀ j, w4.cell? ⟨x, j, none⟩ = (w2.setCell ⟨x, 3 + i, none⟩ (.pointer (some ⟨r, 0, none⟩))).cell? ⟨x, j, none⟩ := fun j =>
    (b4.cell (p := ⟨x, j, none⟩) x3 nrx).trans (b3.cell (p := ⟨x, j, none⟩) (by simpa [World.setCell] using x2) ndx)
  have cell2 : ∀ j, w2.cell? ⟨x, j, none⟩ = (w1.setCell ⟨x, i, none⟩ (.pointer (some ⟨d, 0, none⟩))).cell? ⟨x, j, none⟩ := fun j => b2.cell (p := ⟨x, j, none⟩) (by simpa [World.setCell] using x1)
  have other : ∀ j, j ≠ i → j ≠ 3 + i → w4.cell? ⟨x, j, none⟩ = wr.cell? ⟨x, j, none⟩ := fun j h1 h2 => by
    rw [cell, cell_off h2, cell2, cell_off h1]; exact b1.cell (p := ⟨x, j, none⟩) hxl
  have b2' : Below (w1.setCell ⟨x, i, none⟩ (.pointer (some ⟨d, 0, none⟩))).heap.size (w1.setCell ⟨x, i, none⟩ (.pointer (some ⟨d, 0, none⟩))) w2 := by
    have e : (w1.setCell ⟨x, i, none⟩ (.pointer (some ⟨d, 0, none⟩))).heap.size = w1.heap.size := by simp [World.setCell]
    rw [e]; exact b2
  have setD : (But (Only x) wr w4) := by
    have q1 : But (Only x) wr (w1.setCell ⟨x, i, none⟩ (.pointer (some ⟨d, 0, none⟩))) := But.setCell (K := Only x) (But.of_below b1) (p := ⟨x, i, none⟩) (.inr rfl) _
    have q2 : But (Only x) wr w2 := q1.trans (But.of_below (K := Only x) b2')
    have q3 : But (Only x) wr (w2.setCell ⟨x, 3 + i, none⟩ (.pointer (some ⟨r, 0, none⟩))) := But.setCell (K := Only x) q2 (p := ⟨x, 3 + i, none⟩) (.inr rfl) _
    have q4 : But (Only x) wr w3 := q3.trans' b3 (fun g hg e => by have e : g = d := e; omega)
    exact q4.trans' b4 (fun g hg e => by have e : g = r := e; have := b1.size; omega)
  have hor := h.or
  refine ⟨fun j hj => ?_, fun j hj => ?_, (other 2 (by omega) (by omega)).trans h.c2, (other 5 (by omega) (by omega)).trans h.c5, fun j hj => (other _ (by omega) (by omega)).trans (h.ct j hj), fun j => ?_, h.hx, fun j hj => ?_, fun j hj => ?_, fun j hj => ?_, fun h1 => ?_, ?_⟩
  · by_cases e : j = i
    · subst e
      rw [cell, cell_off (by omega), cell2, World.cell?_setCell_same' _ _ _ (by rw [b1.cell (p := ⟨x, j, none⟩) hxl, h.cd j hj]; rfl), if_pos (by omega), upd_same]
    · rw [other j e (by omega), h.cd j hj, upd_other _ _ _ _ e]
      by_cases e2 : j < i
      · rw [if_pos e2, if_pos (by omega)]
      · rw [if_neg e2, if_neg (by omega)]
  · by_cases e : j = i
    · subst e
      rw [cell, World.cell?_setCell_same' _ _ _ (by rw [cell2, cell_off (by omega), b1.cell (p := ⟨x, 3 + j, none⟩) hxl, h.cr j hj]; rfl), if_pos (by omega), upd_same]
    · rw [other (3 + j) (by omega) (by omega), h.cr j hj, upd_other _ _ _ _ e]
      by_cases e2 : j < i
      · rw [if_pos e2, if_pos (by omega)]
      · rw [if_neg e2, if_neg (by omega)]
  · rw [b4.frozen (p := ⟨x, j, none⟩) x3 nrx, b3.frozen (p := ⟨x, j, none⟩) (by simpa [World.setCell] using x2) ndx, World.frozen?_setCell, (But.of_below (K := fun _ => False) b2').frozen (p := ⟨x, j, none⟩) (by simpa [World.setCell] using x1) id, World.frozen?_setCell, (But.of_below (K := fun _ => False) b1).frozen (p := ⟨x, j, none⟩) hxl id]
    exact h.fz j
  · by_cases e : j = i
    · subst e; rw [upd_same]
      exact d3.but b4 (fun _ _ => trivial) (fun e => by have e : d = r := e; omega)
    · rw [upd_other _ _ _ _ e]
      have := hor j (by omega)
      exact (h.dl j (by omega)).but setD (fun _ _ => trivial) (fun e => by have e : dv j = x := e; omega)
  · by_cases e : j = i
    · subst e; rw [upd_same]; exact d4
    · rw [upd_other _ _ _ _ e]
      have := hor j (by omega)
      exact (h.dr j (by omega)).but setD (fun _ _ => trivial) (fun e => by have e : rdv j = x := e; omega)
  · by_cases e : j = i
    · subst e; rw [upd_same, upd_same]; exact ⟨by omega, by omega⟩
    · rw [upd_other _ _ _ _ e, upd_other _ _ _ _ e]; exact hor j (by omega)
  · have e1 : i = 1 := by omega
    subst e1
    rw [upd_same, upd_other _ _ _ _ (by omega)]
    have := (h.dr 0 (by omega)).lt
    omega
  · exact h.bel.trans (setD.below h.bel.size (fun g hg e => by have e : g = x := e; have := h.hx; omega))

/-- the roles -/
def rho0 (x b rb : Nat) (dv rdv : Nat → Nat) : Nat → Nat := fun g => if g = x then 20 else if g = b then 3 else if g = dv 0 then 1 else if g = dv 1 then 2 else if g = rb then 13 else if g = rdv 0 then 11 else if g = rdv 1 then 12 else 0

theorem inv0 : Inv 0 (fun _ => []) (fun _ => Dn) 0 := ⟨⟨Int.le_refl _, Int.le_refl _⟩, fun _ _ => DI.new.wr (Int.le_refl _) 0 1, fun _ _ f hf => (by cases hf), (fun _ _ => Nat.le_refl _), fun _ _ f hf => (by cases hf)⟩

theorem Beg.rig {w wr w2 : World} {x : Nat} {dv rdv : Nat → Nat} (h : Beg w x 2 dv rdv wr) {b rb : Nat} (hb : b = wr.heap.size) (hrb : rb = wr.heap.size + 1)
    (h2 : w2 = (((wr.drew.alloc (.cells #[.int .i64 0, .pointer (some ⟨dv 0, 0, none⟩), .pointer (some ⟨dv 1, 0, none⟩), .slice none 0 0, .slice none 0 0] 84)).setCell ⟨x, 2, none⟩ (.pointer (some ⟨b, 0, none⟩))).drew.alloc (.cells #[.pointer (some ⟨rdv 0, 0, none⟩), .pointer (some ⟨rdv 1, 0, none⟩), .slice none 0 0, .slice none 0 0, .int .i64 0] 67)).setCell ⟨x, 5, none⟩ (.pointer (some ⟨rb, 0, none⟩))) :
    Rig ⟨x, b, rb, dv, rdv, w.heap.size⟩ (rho0 x b rb dv rdv) w2 0 (fun _ => []) (fun _ => []) (fun _ => Dn) (fun _ => 0) (fun _ => 0) 0 ∧ Below w.heap.size w w2 := by
  have o0 := h.or 0 (by omega)
  have o1 := h.or 1 (by omega)
  have o2 := h.o2 (by omega)
  have hxl := h.lt
  have r1l := (h.dr 1 (by omega)).lt
  obtain ⟨wa, hwa⟩ : ∃ wa, wa = wr.drew.alloc (.cells #[.int .i64 0, .pointer (some ⟨dv 0, 0, none⟩), .pointer (some ⟨dv 1, 0, none⟩), .slice none 0 0, .slice none 0 0] 84) := ⟨_, rfl⟩
  rw [← hwa] at h2
  obtain ⟨wb, hwb⟩ : ∃ wb, wb = (wa.setCell ⟨x, 2, none⟩ (.pointer (some ⟨b, 0, none⟩))).drew := ⟨_, rfl⟩
  rw [← hwb] at h2
  obtain ⟨wc, hwc⟩ : ∃ wc, wc = wb.alloc (.cells #[.pointer (some ⟨rdv 0, 0, none⟩), .pointer (some ⟨rdv 1, 0, none⟩), .slice none 0 0, .slice none 0 0, .int .i64 0] 67) := ⟨_, rfl⟩
  rw [← hwc] at h2
  have sa : wa.heap.size = wr.heap.size + 1 := by rw [hwa, World.size_alloc]; rfl
  have sb : wb.heap.size = wr.heap.size + 1 := by rw [hwb]; show (wa.setCell ⟨x, 2, none⟩ (.pointer (some ⟨b, 0, none⟩))).heap.size = _; simp [World.setCell, sa]
  have sc : wc.heap.size = wr.heap.size + 2 := by rw [hwc]; simp [sb]
  have s2 : w2.heap.size = wr.heap.size + 2 := by rw [h2]; simp [World.setCell, sc]
  have bA : But (fun _ => False) wr wa := by rw [hwa]; exact ((But.refl _ wr).drew).alloc _
  have bB : But (Only x) wa wb := by rw [hwb]; exact ((But.refl (Only x) wa).setCell (p := ⟨x, 2, none⟩) (.inr rfl) _).drew
  have bC : But (fun _ => False) wb wc := by rw [hwc]; exact (But.refl _ wb).alloc _
  have bD : But (Only x) wc w2 := by rw [h2]; exact (But.refl (Only x) wc).setCell (p := ⟨x, 5, none⟩) (.inr rfl) _
  have bAll : But (Only x) wr w2 := (((bA.mono (fun _ e => e.elim)).trans bB).trans (bC.mono (fun _ e => e.elim))).trans bD
  have nA : ∀ i v, (#[Value.int .i64 0, .pointer (some ⟨dv 0, 0, none⟩), .pointer (some ⟨dv 1, 0, none⟩), .slice none 0 0, .slice none 0 0] : Array Value)[i]? = some v → w2.cell? ⟨b, i, none⟩ = some v := fun i v hv => by
    have e0 : wa.cell? ⟨b, i, none⟩ = some v := by
      rw [hwa, hb]
      have := cell_of_row (wr.drew.alloc (.cells #[.int .i64 0, .pointer (some ⟨dv 0, 0, none⟩), .pointer (some ⟨dv 1, 0, none⟩), .slice none 0 0, .slice none 0 0] 84)) wr.drew.heap.size i _ 84 (0, 0) (heap_alloc_new wr.drew _)
      exact this.trans hv
    rw [bD.cell (p := ⟨b, i, none⟩) (show b < _ by omega) (fun e => by have e : b = x := e; omega), bC.cell (p := ⟨b, i, none⟩) (show b < _ by omega) id, bB.cell (p := ⟨b, i, none⟩) (show b < _ by omega) (fun e => by have e : b = x := e; omega)]
    exact e0
  have nF : ∀ i, w2.frozen? ⟨b, i, none⟩ = false := fun i => by
    have e0 : wa.frozen? ⟨b, i, none⟩ = false := by
      rw [hwa, hb]; unfold World.frozen?
      have := heap_alloc_new wr.drew (.cells #[.int .i64 0, .pointer (some ⟨dv 0, 0, none⟩), .pointer (some ⟨dv 1, 0, none⟩), .slice none 0 0, .slice none 0 0] 84)
      have e1 : wr.drew.heap.size = wr.heap.size := rfl
      rw [e1] at this
      rw [this]; simp
    rw [bD.frozen (p := ⟨b, i, none⟩) (show b < _ by omega) (fun e => by have e : b = x := e; omega), bC.frozen (p := ⟨b, i, none⟩) (show b < _ by omega) id, bB.frozen (p := ⟨b, i, none⟩) (show b < _ by omega) (fun e => by have e : b = x := e; omega)]
    exact e0
  have nC : ∀ i v, (#[Value.pointer (some ⟨rdv 0, 0, none⟩), .pointer (some ⟨rdv 1, 0, none⟩), .slice none 0 0, .slice none 0 0, .int .i64 0] : Array Value)[i]? = some v → w2.cell? ⟨rb, i, none⟩ = some v := fun i v hv => by
    have e0 : wc.cell? ⟨rb, i, none⟩ = some v := by
      rw [hwc, hrb, ← sb]
      exact (cell_of_row _ wb.heap.size i _ 67 (0, 0) (heap_alloc_new wb _)).trans hv
    rw [bD.cell (p := ⟨rb, i, none⟩) (show rb < _ by omega) (fun e => by have e : rb = x := e; omega)]
    exact e0
  have nG : ∀ i, w2.frozen? ⟨rb, i, none⟩ = false := fun i => by
    have e0 : wc.frozen? ⟨rb, i, none⟩ = false := by
      rw [hwc, hrb, ← sb]; unfold World.frozen?
      rw [heap_alloc_new wb]; simp
    rw [bD.frozen (p := ⟨rb, i, none⟩) (show rb < _ by omega) (fun e => by have e : rb = x := e; omega)]
    exact e0
  have cx : ∀ j, j ≠ 2 → j ≠ 5 → w2.cell? ⟨x, j, none⟩ = wr.cell? ⟨x, j, none⟩ := fun j h5 h6 => by
    rw [h2, cell_off h6, bC.cell (p := ⟨x, j, none⟩) (show x < _ by omega) id, hwb]
    show (wa.setCell ⟨x, 2, none⟩ (.pointer (some ⟨b, 0, none⟩))).cell? ⟨x, j, none⟩ = _
    rw [cell_off h5]; exact bA.cell (p := ⟨x, j, none⟩) hxl id
  have c2 : w2.cell? ⟨x, 2, none⟩ = some (.pointer (some ⟨b, 0, none⟩)) := by
    rw [h2, cell_off (by omega), bC.cell (p := ⟨x, 2, none⟩) (show x < _ by omega) id, hwb]
    show (wa.setCell ⟨x, 2, none⟩ (.pointer (some ⟨b, 0, none⟩))).cell? ⟨x, 2, none⟩ = _
    exact World.cell?_setCell_same' _ _ _ (by rw [bA.cell (p := ⟨x, 2, none⟩) hxl id, h.c2]; rfl)
  have c5 : w2.cell? ⟨x, 5, none⟩ = some (.pointer (some ⟨rb, 0, none⟩)) := by
    rw [h2]
    refine World.cell?_setCell_same' _ _ _ ?_
    rw [bC.cell (p := ⟨x, 5, none⟩) (show x < _ by omega) id, hwb]
    show ((wa.setCell ⟨x, 2, none⟩ (.pointer (some ⟨b, 0, none⟩))).cell? ⟨x, 5, none⟩).isSome = true
    rw [cell_off (by omega), bA.cell (p := ⟨x, 5, none⟩) hxl id, h.c5]; rfl
  have hx := h.hx
  have dvl : ∀ i, i < 2 → dv i < wr.heap.size ∧ x < dv i := fun i hi => ⟨(h.dl i hi).lt, (h.or i hi).1⟩
  have ρl : ∀ g, rho0 x b rb dv rdv g ≠ 0 → g < w2.heap.size ∧ w.heap.size ≤ g := fun g e => by
    unfold rho0 at e
    by_cases e1 : g = x
    · omega
    by_cases e2 : g = b
    · omega
    by_cases e3 : g = dv 0
    · have := dvl 0 (by omega); omega
    by_cases e4 : g = dv 1
    · have := dvl 1 (by omega); omega
    by_cases e5 : g = rb
    · omega
    by_cases e6 : g = rdv 0
    · omega
    by_cases e7 : g = rdv 1
    · omega
    simp [e1, e2, e3, e4, e5, e6, e7] at e
  have rX : rho0 x b rb dv rdv x = 20 := by unfold rho0; rw [if_pos rfl]
  have rB : rho0 x b rb dv rdv b = 3 := by unfold rho0; rw [if_neg (by omega), if_pos rfl]
  have rD : ∀ i, i < 2 → rho0 x b rb dv rdv (dv i) = 1 + i := fun i hi => by
    have : i = 0 ∨ i = 1 := by omega
    unfold rho0
    rcases this with rfl | rfl
    · rw [if_neg (by omega), if_neg (by omega), if_pos rfl]
    · rw [if_neg (by omega), if_neg (by omega), if_neg (by omega), if_pos rfl]
  have rRB : rho0 x b rb dv rdv rb = 13 := by unfold rho0; rw [if_neg (by omega), if_neg (by omega), if_neg (by omega), if_neg (by omega), if_pos rfl]
  have rRD : ∀ i, i < 2 → rho0 x b rb dv rdv (rdv i) = 11 + i := fun i hi => by
    have : i = 0 ∨ i = 1 := by omega
    unfold rho0
    rcases this with rfl | rfl
    · rw [if_neg (by omega), if_neg (by omega), if_neg (by omega), if_neg (by omega), if_neg (by omega), if_pos rfl]
    · rw [if_neg (by omega), if_neg (by omega), if_neg (by omega), if_neg (by omega), if_neg (by omega), if_neg (by omega), if_pos rfl]
  have net : Net (rho0 x b rb dv rdv) w2 b dv 0 (fun _ => []) (fun _ => Dn) := by
    refine ⟨fun g e => (ρl g e).1, rB, rD, nA 0 _ rfl, fun i hi => ?_, nF, fun i hi => ⟨.slice none 0 0, ?_, ⟨World.ownsRow_nil _ _ _ _, fun k e => (by cases e), fun p hp => (by cases hp), List.Pairwise.nil⟩⟩, fun i hi => ?_, fun _ _ => Dn_ok, fun i hi p hp => by cases hp⟩
    · have : i = 0 ∨ i = 1 := by omega
      rcases this with rfl | rfl
      · exact nA 1 _ rfl
      · exact nA 2 _ rfl
    · have : i = 0 ∨ i = 1 := by omega
      rcases this with rfl | rfl
      · exact nA 3 _ rfl
      · exact nA 4 _ rfl
    · refine ((h.dl i hi).but bAll (fun _ _ => trivial) (fun e => by have e : dv i = x := e; have := dvl i hi; omega)).avoid (fun _ _ _ => trivial) ?_
      show rho0 x b rb dv rdv (dv i) ≠ 0
      rw [rD i hi]; omega
  have rnet : RNet (rho0 x b rb dv rdv) w2 rb rdv 0 (fun _ => []) (fun _ => Dn) := by
    refine ⟨fun g e => (ρl g e).1, rRB, rRD, nC 4 _ rfl, fun i hi => ?_, nG, fun i hi => ⟨.slice none 0 0, ?_, ⟨World.ownsRow_nil _ _ _ _, fun k e => (by cases e), fun p hp => (by cases hp)⟩⟩, fun i hi => ?_, fun _ _ => Dn_ok, fun i hi p hp => by cases hp⟩
    · have : i = 0 ∨ i = 1 := by omega
      rcases this with rfl | rfl
      · exact nC 0 _ rfl
      · exact nC 1 _ rfl
    · have : i = 0 ∨ i = 1 := by omega
      rcases this with rfl | rfl
      · exact nC 2 _ rfl
      · exact nC 3 _ rfl
    · refine ((h.dr i hi).but bAll (fun _ _ => trivial) (fun e => by have e : rdv i = x := e; have := h.or i hi; omega)).avoid (fun _ _ _ => trivial) ?_
      show rho0 x b rb dv rdv (rdv i) ≠ 0
      rw [rRD i hi]; omega
  refine ⟨⟨⟨net, ⟨fun i hi => ?_, c2, fun i hi => ?_, c5, fun i hi => (cx _ (by omega) (by omega)).trans (h.ct i (by omega)), fun i hi => ?_, fun i => ?_, fun _ _ => ⟨by omega, by omega⟩⟩, rX, fun g e => (ρl g e).2, inv0⟩, rnet, rfl⟩, ?_⟩
  · show w2.cell? ⟨x, i, none⟩ = _
    rw [cx _ (by omega) (by omega), h.cd i hi, if_pos hi]
  · show w2.cell? ⟨x, 3 + i, none⟩ = _
    rw [cx _ (by omega) (by omega), h.cr i hi, if_pos hi]
  · show w2.cell? ⟨x, 8 + i, none⟩ = _
    rw [cx _ (by omega) (by omega), show 8 + i = 6 + (2 + i) by omega]
    exact h.ct (2 + i) (by omega)
  · show w2.frozen? ⟨x, i, none⟩ = false
    rw [h2, World.frozen?_setCell, bC.frozen (p := ⟨x, i, none⟩) (show x < _ by omega) id, hwb]
    show (wa.setCell ⟨x, 2, none⟩ (.pointer (some ⟨b, 0, none⟩))).frozen? ⟨x, i, none⟩ = false
    rw [World.frozen?_setCell, bA.frozen (p := ⟨x, i, none⟩) hxl id]; exact h.fz i
  · exact h.bel.trans (bAll.below h.bel.size (fun g hg e => by have e : g = x := e; omega))

theorem rwNew_any (d0 d1 : Nat) (w : World) : Calls Try.prog 30 #[.pointer (some ⟨d0, 0, none⟩), .pointer (some ⟨d1, 0, none⟩)] w fun e w' => e = .returned (.pointer (some ⟨w.heap.size, 0, none⟩)) ∧ w' = w.alloc (.cells #[.pointer (some ⟨d0, 0, none⟩), .pointer (some ⟨d1, 0, none⟩), .slice none 0 0, .slice none 0 0, .int .i64 0] 67) := by
  go_enter Try.func30, Try.ntmps30
  go_wp2
  go_ret
  exact ⟨rfl, rfl⟩
end Go.Proofs.Ytghojbgjmpjhgaa
