
/-
  A device: its numbers, as the document names them, and how they lie in memory.
-/
import Derived.Test.YtjkfjijnjkpbbaaNBase
namespace Go.Proofs.Ytjkfjijnjkpbbaa
open Go.RowKit

def upd {α : Type} (f : Nat → α) (k : Nat) (v : α) : Nat → α := fun i => if i = k then v else f i
theorem upd_same {α : Type} (f : Nat → α) (k : Nat) (v : α) : upd f k v k = v := by simp [upd]
theorem upd_other {α : Type} (f : Nat → α) (k i : Nat) (v : α) (h : i ≠ k) : upd f k v i = f i := by simp [upd, h]

/-- registers, clock, descriptors for sending, descriptors for what comes -/
structure Dev where
  r : Nat → Int
  clock : Int
  txf : Nat → List Int
  posted : Nat → Int
  room : Nat → Int
  held : Nat → Bool
  rxf : Nat → List Int
  bad : Nat → Bool

/-- where clock and descriptors lie among the 105 cells -/
structure Lay where
  oc : Nat
  ot : Nat
  oq : Nat
def Lay.Ok (L : Lay) : Prop := (L.oc = 8 ∧ L.ot = 9 ∧ L.oq = 41) ∨ (L.oc = 104 ∧ L.ot = 8 ∧ L.oq = 40)

/-- the cells of a block -/
structure Blk (W : World) (b : Nat) (V : Nat → Value) : Prop where
  cell : ∀ i, i < 105 → W.cell? ⟨b, i, none⟩ = some (V i)
  frozen : ∀ i, W.frozen? ⟨b, i, none⟩ = false
  one : ∀ i, i < 105 → (V i).oneCell' = true

theorem Blk.lt {W : World} {b : Nat} {V : Nat → Value} (h : Blk W b V) : b < W.heap.size := World.block_lt_of_cell? W _ (h.cell 0 (by omega))
theorem Blk.set {W : World} {b : Nat} {V : Nat → Value} (h : Blk W b V) (k : Nat) (hk : k < 105) (v : Value) (hv : v.oneCell' = true) : Blk (W.setCell ⟨b, k, none⟩ v) b (upd V k v) := by
  refine ⟨fun i hi => ?_, fun i => by rw [World.frozen?_setCell]; exact h.frozen i, fun i hi => by
    by_cases e : i = k
    · subst e; rw [upd_same]; exact hv
    · rw [upd_other _ _ _ _ e]; exact h.one i hi⟩
  by_cases e : i = k
  · subst e
    rw [World.cell?_setCell_same' _ _ _ (by rw [h.cell i hi]; rfl), upd_same]
  · rw [World.cell?_setCell_other _ _ _ _ (by intro q; cases q; exact e rfl), h.cell i hi, upd_other _ _ _ _ e]
theorem Blk.but {W W' : World} {K : Nat → Prop} {b : Nat} {V : Nat → Value} (h : Blk W b V) (hb : But K W W') (hk : ¬ K b) : Blk W' b V :=
  ⟨fun i hi => (hb.cell (p := ⟨b, i, none⟩) h.lt hk).trans (h.cell i hi), fun i => (hb.frozen (p := ⟨b, i, none⟩) h.lt hk).trans (h.frozen i), h.one⟩

/-- the cells tell the device -/
structure Rep (L : Lay) (A : Nat → Prop) (W : World) (V : Nat → Value) (D : Dev) : Prop where
  reg : ∀ i, i < 8 → V i = .int .i64 (D.r i)
  clock : V L.oc = .int .i64 D.clock
  txf : ∀ i, i < 16 → IsF A W (V (L.ot + i * 2)) (D.txf i)
  posted : ∀ i, i < 16 → V (L.ot + i * 2 + 1) = .int .i64 (D.posted i)
  room : ∀ i, i < 16 → V (L.oq + i * 4) = .int .i64 (D.room i)
  held : ∀ i, i < 16 → V (L.oq + i * 4 + 1) = .bool (D.held i)
  rxf : ∀ i, i < 16 → IsF A W (V (L.oq + i * 4 + 2)) (D.rxf i)
  bad : ∀ i, i < 16 → V (L.oq + i * 4 + 3) = .bool (D.bad i)

theorem Rep.but {L : Lay} {A K : Nat → Prop} {W W' : World} {V : Nat → Value} {D : Dev} (h : Rep L A W V D) (hb : But K W W') (hk : ∀ g, K g → A g) : Rep L A W' V D :=
  ⟨h.reg, h.clock, fun i hi => (h.txf i hi).but hb hk, h.posted, h.room, h.held, fun i hi => (h.rxf i hi).but hb hk, h.bad⟩
theorem Rep.avoid {L : Lay} {A A' : Nat → Prop} {W : World} {V : Nat → Value} {D : Dev} (h : Rep L A W V D) (hk : ∀ g, g < W.heap.size → A' g → A g) : Rep L A' W V D :=
  ⟨h.reg, h.clock, fun i hi => (h.txf i hi).avoid hk, h.posted, h.room, h.held, fun i hi => (h.rxf i hi).avoid hk, h.bad⟩

section
variable {L : Lay} {A : Nat → Prop} {W : World} {V : Nat → Value} {D : Dev}
theorem Rep.setReg (hL : L.Ok) (h : Rep L A W V D) (k : Nat) (hk : k < 8) (x : Int) : Rep L A W (upd V k (.int .i64 x)) { D with r := upd D.r k x } := by
  unfold Lay.Ok at hL
  refine ⟨fun i hi => ?_, ?_, fun i hi => ?_, fun i hi => ?_, fun i hi => ?_, fun i hi => ?_, fun i hi => ?_, fun i hi => ?_⟩
  · by_cases e : i = k
    · subst e; simp [upd]
    · simp [upd, e, h.reg i hi]
  · rw [upd_other _ _ _ _ (by omega)]; exact h.clock
  · rw [upd_other _ _ _ _ (by omega)]; exact h.txf i hi
  · rw [upd_other _ _ _ _ (by omega)]; exact h.posted i hi
  · rw [upd_other _ _ _ _ (by omega)]; exact h.room i hi
  · rw [upd_other _ _ _ _ (by omega)]; exact h.held i hi
  · rw [upd_other _ _ _ _ (by omega)]; exact h.rxf i hi
  · rw [upd_other _ _ _ _ (by omega)]; exact h.bad i hi
theorem Rep.setClock (hL : L.Ok) (h : Rep L A W V D) (x : Int) : Rep L A W (upd V L.oc (.int .i64 x)) { D with clock := x } := by
  unfold Lay.Ok at hL
  refine ⟨fun i hi => ?_, upd_same _ _ _, fun i hi => ?_, fun i hi => ?_, fun i hi => ?_, fun i hi => ?_, fun i hi => ?_, fun i hi => ?_⟩
  · rw [upd_other _ _ _ _ (by omega)]; exact h.reg i hi
  · rw [upd_other _ _ _ _ (by omega)]; exact h.txf i hi
  · rw [upd_other _ _ _ _ (by omega)]; exact h.posted i hi
  · rw [upd_other _ _ _ _ (by omega)]; exact h.room i hi
  · rw [upd_other _ _ _ _ (by omega)]; exact h.held i hi
  · rw [upd_other _ _ _ _ (by omega)]; exact h.rxf i hi
  · rw [upd_other _ _ _ _ (by omega)]; exact h.bad i hi
theorem Rep.setTxf (hL : L.Ok) (h : Rep L A W V D) (k : Nat) (hk : k < 16) (v : Value) (bs : List Int) (hv : IsF A W v bs) : Rep L A W (upd V (L.ot + k * 2) v) { D with txf := upd D.txf k bs } := by
  unfold Lay.Ok at hL
  refine ⟨fun i hi => ?_, ?_, fun i hi => ?_, fun i hi => ?_, fun i hi => ?_, fun i hi => ?_, fun i hi => ?_, fun i hi => ?_⟩
  · rw [upd_other _ _ _ _ (by omega)]; exact h.reg i hi
  · rw [upd_other _ _ _ _ (by omega)]; exact h.clock
  · by_cases e : i = k
    · subst e; simp only [upd_same]; exact hv
    · rw [upd_other _ _ _ _ (by omega)]; simp only [upd_other _ _ _ _ e]; exact h.txf i hi
  · rw [upd_other _ _ _ _ (by omega)]; exact h.posted i hi
  · rw [upd_other _ _ _ _ (by omega)]; exact h.room i hi
  · rw [upd_other _ _ _ _ (by omega)]; exact h.held i hi
  · rw [upd_other _ _ _ _ (by omega)]; exact h.rxf i hi
  · rw [upd_other _ _ _ _ (by omega)]; exact h.bad i hi
theorem Rep.setPosted (hL : L.Ok) (h : Rep L A W V D) (k : Nat) (hk : k < 16) (x : Int) : Rep L A W (upd V (L.ot + k * 2 + 1) (.int .i64 x)) { D with posted := upd D.posted k x } := by
  unfold Lay.Ok at hL
  refine ⟨fun i hi => ?_, ?_, fun i hi => ?_, fun i hi => ?_, fun i hi => ?_, fun i hi => ?_, fun i hi => ?_, fun i hi => ?_⟩
  · rw [upd_other _ _ _ _ (by omega)]; exact h.reg i hi
  · rw [upd_other _ _ _ _ (by omega)]; exact h.clock
  · rw [upd_other _ _ _ _ (by omega)]; exact h.txf i hi
  · by_cases e : i = k
    · subst e; simp only [upd_same]
    · rw [upd_other _ _ _ _ (by omega)]; simp only [upd_other _ _ _ _ e]; exact h.posted i hi
  · rw [upd_other _ _ _ _ (by omega)]; exact h.room i hi
  · rw [upd_other _ _ _ _ (by omega)]; exact h.held i hi
  · rw [upd_other _ _ _ _ (by omega)]; exact h.rxf i hi
  · rw [upd_other _ _ _ _ (by omega)]; exact h.bad i hi
theorem Rep.setRoom (hL : L.Ok) (h : Rep L A W V D) (k : Nat) (hk : k < 16) (x : Int) : Rep L A W (upd V (L.oq + k * 4) (.int .i64 x)) { D with room := upd D.room k x } := by
  unfold Lay.Ok at hL
  refine ⟨fun i hi => ?_, ?_, fun i hi => ?_, fun i hi => ?_, fun i hi => ?_, fun i hi => ?_, fun i hi => ?_, fun i hi => ?_⟩
  · rw [upd_other _ _ _ _ (by omega)]; exact h.reg i hi
  · rw [upd_other _ _ _ _ (by omega)]; exact h.clock
  · rw [upd_other _ _ _ _ (by omega)]; exact h.txf i hi
  · rw [upd_other _ _ _ _ (by omega)]; exact h.posted i hi
  · by_cases e : i = k
    · subst e; simp only [upd_same]
    · rw [upd_other _ _ _ _ (by omega)]; simp only [upd_other _ _ _ _ e]; exact h.room i hi
  · rw [upd_other _ _ _ _ (by omega)]; exact h.held i hi
  · rw [upd_other _ _ _ _ (by omega)]; exact h.rxf i hi
  · rw [upd_other _ _ _ _ (by omega)]; exact h.bad i hi
theorem Rep.setHeld (hL : L.Ok) (h : Rep L A W V D) (k : Nat) (hk : k < 16) (x : Bool) : Rep L A W (upd V (L.oq + k * 4 + 1) (.bool x)) { D with held := upd D.held k x } := by
  unfold Lay.Ok at hL
  refine ⟨fun i hi => ?_, ?_, fun i hi => ?_, fun i hi => ?_, fun i hi => ?_, fun i hi => ?_, fun i hi => ?_, fun i hi => ?_⟩
  · rw [upd_other _ _ _ _ (by omega)]; exact h.reg i hi
  · rw [upd_other _ _ _ _ (by omega)]; exact h.clock
  · rw [upd_other _ _ _ _ (by omega)]; exact h.txf i hi
  · rw [upd_other _ _ _ _ (by omega)]; exact h.posted i hi
  · rw [upd_other _ _ _ _ (by omega)]; exact h.room i hi
  · by_cases e : i = k
    · subst e; simp only [upd_same]
    · rw [upd_other _ _ _ _ (by omega)]; simp only [upd_other _ _ _ _ e]; exact h.held i hi
  · rw [upd_other _ _ _ _ (by omega)]; exact h.rxf i hi
  · rw [upd_other _ _ _ _ (by omega)]; exact h.bad i hi
theorem Rep.setRxf (hL : L.Ok) (h : Rep L A W V D) (k : Nat) (hk : k < 16) (v : Value) (bs : List Int) (hv : IsF A W v bs) : Rep L A W (upd V (L.oq + k * 4 + 2) v) { D with rxf := upd D.rxf k bs } := by
  unfold Lay.Ok at hL
  refine ⟨fun i hi => ?_, ?_, fun i hi => ?_, fun i hi => ?_, fun i hi => ?_, fun i hi => ?_, fun i hi => ?_, fun i hi => ?_⟩
  · rw [upd_other _ _ _ _ (by omega)]; exact h.reg i hi
  · rw [upd_other _ _ _ _ (by omega)]; exact h.clock
  · rw [upd_other _ _ _ _ (by omega)]; exact h.txf i hi
  · rw [upd_other _ _ _ _ (by omega)]; exact h.posted i hi
  · rw [upd_other _ _ _ _ (by omega)]; exact h.room i hi
  · rw [upd_other _ _ _ _ (by omega)]; exact h.held i hi
  · by_cases e : i = k
    · subst e; simp only [upd_same]; exact hv
    · rw [upd_other _ _ _ _ (by omega)]; simp only [upd_other _ _ _ _ e]; exact h.rxf i hi
  · rw [upd_other _ _ _ _ (by omega)]; exact h.bad i hi
theorem Rep.setBad (hL : L.Ok) (h : Rep L A W V D) (k : Nat) (hk : k < 16) (x : Bool) : Rep L A W (upd V (L.oq + k * 4 + 3) (.bool x)) { D with bad := upd D.bad k x } := by
  unfold Lay.Ok at hL
  refine ⟨fun i hi => ?_, ?_, fun i hi => ?_, fun i hi => ?_, fun i hi => ?_, fun i hi => ?_, fun i hi => ?_, fun i hi => ?_⟩
  · rw [upd_other _ _ _ _ (by omega)]; exact h.reg i hi
  · rw [upd_other _ _ _ _ (by omega)]; exact h.clock
  · rw [upd_other _ _ _ _ (by omega)]; exact h.txf i hi
  · rw [upd_other _ _ _ _ (by omega)]; exact h.posted i hi
  · rw [upd_other _ _ _ _ (by omega)]; exact h.room i hi
  · rw [upd_other _ _ _ _ (by omega)]; exact h.held i hi
  · rw [upd_other _ _ _ _ (by omega)]; exact h.rxf i hi
  · by_cases e : i = k
    · subst e; simp only [upd_same]
    · rw [upd_other _ _ _ _ (by omega)]; simp only [upd_other _ _ _ _ e]; exact h.bad i hi
end

/-- THE DEVICE D LIES IN BLOCK b; no block of A (b is one of these) holds one of its frames -/
def DevAt (L : Lay) (A : Nat → Prop) (W : World) (b : Nat) (D : Dev) : Prop := A b ∧ ∃ V, Blk W b V ∧ Rep L A W V D

section
variable {L : Lay} {A : Nat → Prop} {W : World} {b : Nat} {D : Dev}
theorem DevAt.mem (h : DevAt L A W b D) : A b := h.1
theorem DevAt.lt (h : DevAt L A W b D) : b < W.heap.size := by obtain ⟨_, V, hB, _⟩ := h; exact hB.lt
theorem DevAt.but {K : Nat → Prop} {W' : World} (h : DevAt L A W b D) (hb : But K W W') (hk : ∀ g, K g → A g) (hn : ¬ K b) : DevAt L A W' b D := by
  obtain ⟨ha, V, hB, hR⟩ := h
  exact ⟨ha, V, hB.but hb hn, hR.but hb hk⟩
theorem DevAt.avoid {A' : Nat → Prop} (h : DevAt L A W b D) (hk : ∀ g, g < W.heap.size → A' g → A g) (hb : A' b) : DevAt L A' W b D := by
  obtain ⟨ha, V, hB, hR⟩ := h
  exact ⟨hb, V, hB, hR.avoid hk⟩
theorem DevAt.drew (h : DevAt L A W b D) : DevAt L A W.drew b D := h.but (K := fun _ => False) ((But.refl _ _).drew) (fun _ e => e.elim) id
theorem DevAt.frozen (h : DevAt L A W b D) (i : Nat) : W.frozen? ⟨b, i, none⟩ = false := by obtain ⟨_, V, hB, _⟩ := h; exact hB.frozen i
theorem DevAt.creg (h : DevAt L A W b D) (k : Nat) (hk : k < 8) : W.cell? ⟨b, k, none⟩ = some (.int .i64 (D.r k)) := by obtain ⟨_, V, hB, hR⟩ := h; rw [hB.cell k (by omega), hR.reg k hk]
theorem DevAt.cclock (hL : L.Ok) (h : DevAt L A W b D) : W.cell? ⟨b, L.oc, none⟩ = some (.int .i64 D.clock) := by
  obtain ⟨_, V, hB, hR⟩ := h; rw [hB.cell _ (by unfold Lay.Ok at hL; omega), hR.clock]
theorem DevAt.cposted (hL : L.Ok) (h : DevAt L A W b D) (i : Nat) (hi : i < 16) : W.cell? ⟨b, L.ot + i * 2 + 1, none⟩ = some (.int .i64 (D.posted i)) := by
  obtain ⟨_, V, hB, hR⟩ := h; rw [hB.cell _ (by unfold Lay.Ok at hL; omega), hR.posted i hi]
theorem DevAt.ctxf (hL : L.Ok) (h : DevAt L A W b D) (i : Nat) (hi : i < 16) : ∃ v, W.cell? ⟨b, L.ot + i * 2, none⟩ = some v ∧ IsF A W v (D.txf i) := by
  obtain ⟨_, V, hB, hR⟩ := h; exact ⟨_, hB.cell _ (by unfold Lay.Ok at hL; omega), hR.txf i hi⟩
theorem DevAt.croom (hL : L.Ok) (h : DevAt L A W b D) (i : Nat) (hi : i < 16) : W.cell? ⟨b, L.oq + i * 4, none⟩ = some (.int .i64 (D.room i)) := by
  obtain ⟨_, V, hB, hR⟩ := h; rw [hB.cell _ (by unfold Lay.Ok at hL; omega), hR.room i hi]
theorem DevAt.cheld (hL : L.Ok) (h : DevAt L A W b D) (i : Nat) (hi : i < 16) : W.cell? ⟨b, L.oq + i * 4 + 1, none⟩ = some (.bool (D.held i)) := by
  obtain ⟨_, V, hB, hR⟩ := h; rw [hB.cell _ (by unfold Lay.Ok at hL; omega), hR.held i hi]
theorem DevAt.crxf (hL : L.Ok) (h : DevAt L A W b D) (i : Nat) (hi : i < 16) : ∃ v, W.cell? ⟨b, L.oq + i * 4 + 2, none⟩ = some v ∧ IsF A W v (D.rxf i) := by
  obtain ⟨_, V, hB, hR⟩ := h; exact ⟨_, hB.cell _ (by unfold Lay.Ok at hL; omega), hR.rxf i hi⟩
theorem DevAt.cbad (hL : L.Ok) (h : DevAt L A W b D) (i : Nat) (hi : i < 16) : W.cell? ⟨b, L.oq + i * 4 + 3, none⟩ = some (.bool (D.bad i)) := by
  obtain ⟨_, V, hB, hR⟩ := h; rw [hB.cell _ (by unfold Lay.Ok at hL; omega), hR.bad i hi]

theorem DevAt.store (h : DevAt L A W b D) {D' : Dev} (k : Nat) (hk : k < 105) (v : Value) (hv : v.oneCell' = true) (hR : ∀ V, Rep L A W V D → Rep L A W (upd V k v) D') : DevAt L A (W.setCell ⟨b, k, none⟩ v) b D' := by
  obtain ⟨ha, V, hB, hr⟩ := h
  exact ⟨ha, _, hB.set k hk v hv, (hR V hr).but (K := fun g => g = b) (But.setCell (K := fun g => g = b) (But.refl _ W) (p := ⟨b, k, none⟩) (.inr rfl) v) (fun g e => e ▸ ha)⟩
theorem DevAt.setReg (hL : L.Ok) (h : DevAt L A W b D) (k : Nat) (hk : k < 8) (x : Int) : DevAt L A (W.setCell ⟨b, k, none⟩ (.int .i64 x)) b { D with r := upd D.r k x } :=
  h.store k (by omega) _ rfl (fun _ hr => hr.setReg hL k hk x)
theorem DevAt.setClock (hL : L.Ok) (h : DevAt L A W b D) (x : Int) : DevAt L A (W.setCell ⟨b, L.oc, none⟩ (.int .i64 x)) b { D with clock := x } :=
  h.store _ (by unfold Lay.Ok at hL; omega) _ rfl (fun _ hr => hr.setClock hL x)
theorem DevAt.setTxf (hL : L.Ok) (h : DevAt L A W b D) (k : Nat) (hk : k < 16) (v : Value) (bs : List Int) (hv : IsF A W v bs) : DevAt L A (W.setCell ⟨b, L.ot + k * 2, none⟩ v) b { D with txf := upd D.txf k bs } :=
  h.store _ (by unfold Lay.Ok at hL; omega) _ hv.one (fun _ hr => hr.setTxf hL k hk v bs hv)
theorem DevAt.setPosted (hL : L.Ok) (h : DevAt L A W b D) (k : Nat) (hk : k < 16) (x : Int) : DevAt L A (W.setCell ⟨b, L.ot + k * 2 + 1, none⟩ (.int .i64 x)) b { D with posted := upd D.posted k x } :=
  h.store _ (by unfold Lay.Ok at hL; omega) _ rfl (fun _ hr => hr.setPosted hL k hk x)
theorem DevAt.setRoom (hL : L.Ok) (h : DevAt L A W b D) (k : Nat) (hk : k < 16) (x : Int) : DevAt L A (W.setCell ⟨b, L.oq + k * 4, none⟩ (.int .i64 x)) b { D with room := upd D.room k x } :=
  h.store _ (by unfold Lay.Ok at hL; omega) _ rfl (fun _ hr => hr.setRoom hL k hk x)
theorem DevAt.setHeld (hL : L.Ok) (h : DevAt L A W b D) (k : Nat) (hk : k < 16) (x : Bool) : DevAt L A (W.setCell ⟨b, L.oq + k * 4 + 1, none⟩ (.bool x)) b { D with held := upd D.held k x } :=
  h.store _ (by unfold Lay.Ok at hL; omega) _ rfl (fun _ hr => hr.setHeld hL k hk x)
theorem DevAt.setRxf (hL : L.Ok) (h : DevAt L A W b D) (k : Nat) (hk : k < 16) (v : Value) (bs : List Int) (hv : IsF A W v bs) : DevAt L A (W.setCell ⟨b, L.oq + k * 4 + 2, none⟩ v) b { D with rxf := upd D.rxf k bs } :=
  h.store _ (by unfold Lay.Ok at hL; omega) _ hv.one (fun _ hr => hr.setRxf hL k hk v bs hv)
theorem DevAt.setBad (hL : L.Ok) (h : DevAt L A W b D) (k : Nat) (hk : k < 16) (x : Bool) : DevAt L A (W.setCell ⟨b, L.oq + k * 4 + 3, none⟩ (.bool x)) b { D with bad := upd D.bad k x } :=
  h.store _ (by unfold Lay.Ok at hL; omega) _ rfl (fun _ hr => hr.setBad hL k hk x)
theorem But.dev (h : A b) {w : World} (hb : But A w W) (k : Nat) (v : Value) : But A w (W.setCell ⟨b, k, none⟩ v) := hb.setCell (p := ⟨b, k, none⟩) (.inr h) v
end

/-- the program's layout, the reference's -/
def LN : Lay := ⟨8, 9, 41⟩
def LR : Lay := ⟨104, 8, 40⟩
theorem LN_ok : LN.Ok := .inl ⟨rfl, rfl, rfl⟩
theorem LR_ok : LR.Ok := .inr ⟨rfl, rfl, rfl⟩

/-- what holds of a device at any time -/
structure Dev.Ok (D : Dev) : Prop where
  ctl : D.r 0 = 0 ∨ D.r 0 = 1
  link : D.r 1 = 0 ∨ D.r 1 = 1
  ring : ∀ k, 2 ≤ k → k ≤ 5 → 0 ≤ D.r k ∧ D.r k ≤ 15
  ev : 0 ≤ D.r 6 ∧ D.r 6 ≤ 7
  txf : ∀ i, i < 16 → (D.txf i).length ≤ 274
  room : ∀ i, i < 16 → D.room i ≤ 65535
  rxf : ∀ i, i < 16 → (D.rxf i).length ≤ 65535

def Dev.new : Dev := { r := upd (fun _ => 0) 1 1, clock := 0, txf := fun _ => [], posted := fun _ => 0, room := fun _ => 0, held := fun _ => false, rxf := fun _ => [], bad := fun _ => false }
def Dev.reset (D : Dev) : Dev := { Dev.new with r := upd (fun _ => 0) 1 (D.r 1), clock := D.clock }

/-- one more event -/
def evor (e x : Int) : Int := if e / x % 2 = 0 then e + x else e
theorem evor_bits (e x : Int) (h0 : 0 ≤ e) (h1 : e ≤ 7) (hx : x = 1 ∨ x = 2 ∨ x = 4) : bits .or .i64 e x = evor e x := by
  have : e = 0 ∨ e = 1 ∨ e = 2 ∨ e = 3 ∨ e = 4 ∨ e = 5 ∨ e = 6 ∨ e = 7 := by omega
  rcases hx with rfl | rfl | rfl <;> rcases this with rfl | rfl | rfl | rfl | rfl | rfl | rfl | rfl <;> decide
theorem evor_bd (e x : Int) (h0 : 0 ≤ e) (h1 : e ≤ 7) (hx : x = 1 ∨ x = 2 ∨ x = 4) : 0 ≤ evor e x ∧ evor e x ≤ 7 := by
  have : e = 0 ∨ e = 1 ∨ e = 2 ∨ e = 3 ∨ e = 4 ∨ e = 5 ∨ e = 6 ∨ e = 7 := by omega
  rcases hx with rfl | rfl | rfl <;> rcases this with rfl | rfl | rfl | rfl | rfl | rfl | rfl | rfl <;> decide

/-- is place i one of those from h up to t? -/
def own (h t i : Nat) : Bool := decide ((i + 16 - h) % 16 < (t + 16 - h) % 16)
/-- the place behind -/
def nxt (h : Int) : Int := (h + 1) % 16

def place (i : Int) : Bool := decide (0 ≤ i ∧ i ≤ 15)
def Dev.owns (D : Dev) (h t : Nat) (i : Int) : Bool := own (D.r h).toNat (D.r t).toNat i.toNat
def Dev.post (D : Dev) (v : Int) : Dev := { D with r := upd D.r 5 v, posted := fun i => if own (D.r 5).toNat v.toNat i then D.clock else D.posted i }

def rdE (reg : Int) : Int := if 0 ≤ reg ∧ reg ≤ 7 then 0 else 1
def Dev.rdV (D : Dev) (reg : Int) : Int := if 0 ≤ reg ∧ reg ≤ 7 then D.r reg.toNat else 0
def Dev.rdD (D : Dev) (reg : Int) : Dev := if reg = 6 then { D with r := upd D.r 6 0 } else D
def wrE (reg v : Int) : Int := if reg = 0 ∧ (v = 0 ∨ v = 1 ∨ v = 2) ∨ (reg = 3 ∨ reg = 5) ∧ place v = true then 0 else 1
def Dev.wrD (D : Dev) (reg v : Int) : Dev :=
  if reg = 0 ∧ v = 2 then D.reset else if reg = 0 ∧ (v = 0 ∨ v = 1) then { D with r := upd D.r 0 v }
  else if reg = 3 ∧ place v = true then { D with r := upd D.r 3 v } else if reg = 5 ∧ place v = true then D.post v else D
def Dev.stE (D : Dev) (i : Int) (f : List Int) : Int := if (!place i || D.owns 4 5 i) = true then 1 else if f.length = 0 then 3 else if 274 < f.length then 2 else 0
def Dev.stD (D : Dev) (i : Int) (f : List Int) : Dev := if D.stE i f = 0 then { D with txf := upd D.txf i.toNat f } else D
def Dev.srE (D : Dev) (i room : Int) : Int := if (!place i || D.owns 2 3 i) = true ∨ room < 0 ∨ 65535 < room then 1 else 0
def Dev.srD (D : Dev) (i room : Int) : Dev :=
  if D.srE i room = 0 then { D with room := upd D.room i.toNat room, held := upd D.held i.toNat false, rxf := upd D.rxf i.toNat [], bad := upd D.bad i.toNat false } else D
def Dev.rxE (D : Dev) (i : Int) : Int := if place i = true then (if D.held i.toNat = true then 0 else 7) else 1
def Dev.rxF (D : Dev) (i : Int) : List Int := if D.rxE i = 0 then D.rxf i.toNat else []
def Dev.rxB (D : Dev) (i : Int) : Bool := if D.rxE i = 0 then D.bad i.toNat else false
def Dev.runs (D : Dev) : Bool := decide (D.r 0 = 1 ∧ D.r 1 = 1)
def Dev.tkE (D : Dev) : Int := if D.runs = true then (if D.r 4 = D.r 5 then 7 else 0) else 20
def Dev.tkF (D : Dev) : List Int := if D.tkE = 0 then D.txf (D.r 4).toNat else []
def Dev.tkT (D : Dev) : Int := if D.tkE = 0 then D.posted (D.r 4).toNat else 0
def Dev.tkD (D : Dev) : Dev := if D.tkE = 0 then { D with r := upd (upd D.r 4 (nxt (D.r 4))) 6 (evor (D.r 6) 2) } else D
def Dev.miss (D : Dev) : Dev := { D with r := upd D.r 7 (wrap64 (D.r 7 + 1)) }
def Dev.gvE (D : Dev) (f : List Int) : Int := if D.runs = true then (if D.r 2 = D.r 3 then 21 else if D.room (D.r 2).toNat < f.length then 2 else 0) else 20
def Dev.fill (D : Dev) (f : List Int) (x : Bool) : Dev :=
  { D with held := upd D.held (D.r 2).toNat true, rxf := upd D.rxf (D.r 2).toNat f, bad := upd D.bad (D.r 2).toNat x, r := upd (upd D.r 2 (nxt (D.r 2))) 6 (evor (D.r 6) 1) }
def Dev.gvD (D : Dev) (f : List Int) (x : Bool) : Dev := if D.gvE f = 20 then D else if D.gvE f = 0 then D.fill f x else D.miss
def bit (x : Bool) : Int := if x = true then 1 else 0
def Dev.lkD (D : Dev) (x : Bool) : Dev := if D.r 1 = bit x then D else { D with r := upd (upd D.r 1 (bit x)) 6 (evor (D.r 6) 4) }
def Dev.tick (D : Dev) : Dev := { D with clock := wrap64 (D.clock + 1) }
def Dev.olB (D : Dev) : Bool := decide (¬ D.r 4 = D.r 5)
def Dev.olT (D : Dev) : Int := if D.r 4 = D.r 5 then 0 else D.posted (D.r 4).toNat

end Go.Proofs.Ytjkfjijnjkpbbaa
