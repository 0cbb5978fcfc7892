
/-
  ArpOnce: the law's cache beside three arrays of its own.
-/
import Derived.Test.YtjaodjlgnclkhaaA48
import Derived.Test.YtjaodjlgnclkhaaAX
namespace Go.Proofs.Ytjaodjlgnclkhaa
open Go.RowKit Go.Shelf

/-- 'append' of nothing, wherever it lies -/
theorem run_app_zero (W : World) (a : Option Addr) (n c : Nat) (hc : n ≤ c) (a2 : Option Addr) (c2 : Nat) : (Builtin.append_ #[54, 54] 54 #[.slice a n c, .slice a2 0 c2]).run Try.prog W = .ok (.slice a n c) W := by
  obtain ⟨i, hi, hz0, hz1, hz2⟩ := info_parts info_int
  have hs : (loadCells (a2.getD ⟨0, 0, none⟩) 0).run Try.prog W = .ok #[] W := rfl
  cases a2 with
  | none => cases a with
    | none => simp [Builtin.append_, run_underlying Try.underlying54, sizeOf, typeInfo, hi, hc, Builtin.lenOf, Builtin.firstCells]
    | some ad => simp [Builtin.append_, run_underlying Try.underlying54, sizeOf, typeInfo, hi, hc, Builtin.lenOf, Builtin.firstCells, storeCells]
  | some a2 =>
    simp only [Option.getD_some] at hs
    cases a with
    | none => simp [Builtin.append_, run_underlying Try.underlying54, sizeOf, typeInfo, hi, hc, Builtin.lenOf, Builtin.firstCells, hs]
    | some ad => simp [Builtin.append_, run_underlying Try.underlying54, sizeOf, typeInfo, hi, hc, Builtin.lenOf, Builtin.firstCells, storeCells, hs]
/-- one row of numbers behind another -/
theorem RowN.app {O O2 : Nat → Prop} {W : World} {v x : Value} {L M : List Int} (h : RowN O W v L) (hM : RowN O2 W x M) (hl : L.length + M.length ≤ 8796093022208) :
    ∃ a' c' w2, (Builtin.append_ #[54, 54] 54 #[v, x]).run Try.prog W = .ok (.slice a' (L ++ M).length c') w2 ∧ RowN (fun g => O g ∨ W.heap.size ≤ g ∧ g < w2.heap.size) w2 (.slice a' (L ++ M).length c') (L ++ M) ∧ But O W w2 := by
  by_cases he : M = []
  · subst he
    obtain ⟨xa, xc, rfl⟩ := hM.shape
    obtain ⟨a9, c9, e9, l9, rest⟩ := h
    refine ⟨a9, c9, W, by rw [e9, List.append_nil]; exact run_app_zero W a9 _ c9 l9 _ _, ?_, But.refl _ _⟩
    rw [List.append_nil]
    exact RowN.own (O := O) ⟨a9, c9, rfl, l9, rest⟩ (fun _ _ e => .inl e)
  · have hpp : 0 < M.length := by cases hq : M with
      | nil => exact absurd hq he
      | cons y ys => simp
    obtain ⟨xa, xc, rfl⟩ := hM.shape
    obtain ⟨pg, po, hva, _, _, hcs⟩ := hM.at hpp
    have src := src_ints (W := W) pg po xc M hcs
    rw [← hva] at src
    exact h.more _ M src hpp hl

/-- blocks of the law's own, but the three arrays -/
def Own (n0 sw sn st : Nat) (ρ : Nat → Role) (g : Nat) : Prop := n0 ≤ g ∧ ρ g = (0, 0, 0) ∧ g ≠ sw ∧ g ≠ sn ∧ g ≠ st
structure Oq (n0 : Nat) (w0 : World) (c sw sn st : Nat) (L : List Nb) (WH WN : Nat → Int) (TD : Nat → Bool) (ρ : Nat → Role) (W : World) : Prop where
  ca : Ca ρ 1 W c hostM hostI L
  fit : Fit ρ W
  clear : Clear n0 ρ
  bel : Below n0 w0 W
  sz : n0 ≤ W.heap.size
  d : n0 ≤ sw ∧ n0 ≤ sn ∧ n0 ≤ st ∧ sw ≠ sn ∧ sn ≠ st ∧ sw ≠ st
  r : ρ sw = (0, 0, 0) ∧ ρ sn = (0, 0, 0) ∧ ρ st = (0, 0, 0)
  l : sw < W.heap.size ∧ sn < W.heap.size ∧ st < W.heap.size
  cw : ∀ q, q < 200 → W.cell? ⟨sw, q, none⟩ = some (.int .u8 (WH q))
  cn : ∀ q, q < 200 → W.cell? ⟨sn, q, none⟩ = some (.int .i64 (WN q))
  ct : ∀ q, q < 200 → W.cell? ⟨st, q, none⟩ = some (.bool (TD q))
  fw : ∀ y, W.frozen? ⟨sw, y, none⟩ = false
  fn : ∀ y, W.frozen? ⟨sn, y, none⟩ = false
  ft : ∀ y, W.frozen? ⟨st, y, none⟩ = false
section
variable {n0 : Nat} {w0 W W' : World} {c sw sn st : Nat} {L L' : List Nb} {WH WN : Nat → Int} {TD : Nat → Bool} {ρ ρ' : Nat → Role}
theorem Oq.off {K : Nat → Prop} (h : Oq n0 w0 c sw sn st L WH WN TD ρ W) (hb : But K W W') (hK : ∀ g, g < W.heap.size → K g → Own n0 sw sn st ρ g) : Oq n0 w0 c sw sn st L WH WN TD ρ W' := by
  have ⟨l1, l2, l3⟩ := h.l
  have k1 : ¬ K sw := fun e => (hK sw l1 e).2.2.1 rfl
  have k2 : ¬ K sn := fun e => (hK sn l2 e).2.2.2.1 rfl
  have k3 : ¬ K st := fun e => (hK st l3 e).2.2.2.2 rfl
  have hs := hb.size
  refine ⟨h.ca.but hb (fun g e e2 => ?_), h.fit.below hs, h.clear, h.bel.trans (hb.below h.sz (fun g hg e => ?_)), by have := h.sz; omega, h.d, h.r, ⟨by omega, by omega, by omega⟩, fun q hq => (hb.cell (p := ⟨sw, q, none⟩) l1 k1).trans (h.cw q hq), fun q hq => (hb.cell (p := ⟨sn, q, none⟩) l2 k2).trans (h.cn q hq), fun q hq => (hb.cell (p := ⟨st, q, none⟩) l3 k3).trans (h.ct q hq), fun y => (hb.frozen (p := ⟨sw, y, none⟩) l1 k1).trans (h.fw y), fun y => (hb.frozen (p := ⟨sn, y, none⟩) l2 k2).trans (h.fn y), fun y => (hb.frozen (p := ⟨st, y, none⟩) l3 k3).trans (h.ft y)⟩
  · by_cases hg : g < W.heap.size
    · rw [(hK g hg e2).2.1] at e
      simp at e
    · rw [h.fit g (by omega)] at e
      simp at e
  · have := (hK g (by have := h.sz; omega) e).1
    omega
theorem Oq.later (h : Oq n0 w0 c sw sn st L WH WN TD ρ W) (hb : Below W.heap.size W W') : Oq n0 w0 c sw sn st L WH WN TD ρ W' := h.off (K := fun _ => False) (But.of_below hb) (fun _ _ e => e.elim)
theorem Oq.step (h : Oq n0 w0 c sw sn st L WH WN TD ρ W) (hc : Ca ρ' 1 W' c hostM hostI L') (hF : Fit ρ' W') (hm : Mv 1 ρ ρ' W W') : Oq n0 w0 c sw sn st L' WH WN TD ρ' W' := by
  obtain ⟨hcl, hbl⟩ := h.clear.move h.sz (by omega) hm
  have ⟨l1, l2, l3⟩ := h.l
  have ⟨r1, r2, r3⟩ := h.r
  have k1 : ¬ (ρ sw).1 = 1 := by rw [r1]; simp
  have k2 : ¬ (ρ sn).1 = 1 := by rw [r2]; simp
  have k3 : ¬ (ρ st).1 = 1 := by rw [r3]; simp
  have hb := hm.but
  have hs := hb.size
  exact ⟨hc, hF, hcl, h.bel.trans hbl, by have := h.sz; omega, h.d, ⟨by rw [hm.keep sw l1 k1]; exact r1, by rw [hm.keep sn l2 k2]; exact r2, by rw [hm.keep st l3 k3]; exact r3⟩, ⟨by omega, by omega, by omega⟩, fun q hq => (hb.cell (p := ⟨sw, q, none⟩) l1 k1).trans (h.cw q hq), fun q hq => (hb.cell (p := ⟨sn, q, none⟩) l2 k2).trans (h.cn q hq), fun q hq => (hb.cell (p := ⟨st, q, none⟩) l3 k3).trans (h.ct q hq), fun y => (hb.frozen (p := ⟨sw, y, none⟩) l1 k1).trans (h.fw y), fun y => (hb.frozen (p := ⟨sn, y, none⟩) l2 k2).trans (h.fn y), fun y => (hb.frozen (p := ⟨st, y, none⟩) l3 k3).trans (h.ft y)⟩
/-- what is freed is the law's own -/
theorem Oq.free (h : Oq n0 w0 c sw sn st L WH WN TD ρ W) {g : Nat} (hf : Free ρ ρ' 1 W g) : Own n0 sw sn st ρ' g := by
  have ⟨l1, l2, l3⟩ := h.l
  have ⟨r1, r2, r3⟩ := h.r
  have hs := h.sz
  have no : ∀ x, x < W.heap.size → ρ x = (0, 0, 0) → g ≠ x := fun x hx hr e => by
    rcases hf.2 with h1 | h1
    · omega
    · rw [e, hr] at h1; simp at h1
  refine ⟨?_, hf.1, no sw l1 r1, no sn l2 r2, no st l3 r3⟩
  by_cases e : n0 ≤ g
  · exact e
  · exact absurd rfl (no g (by omega) (h.clear g (by omega)))
/-- a row of the law's own stays -/
theorem Oq.row (_ : Oq n0 w0 c sw sn st L WH WN TD ρ W) (hm : Mv 1 ρ ρ' W W') {v : Value} {G : List Int} (hr : RowN (Own n0 sw sn st ρ) W v G) : RowN (Own n0 sw sn st ρ') W' v G := by
  have hr1 : RowN (fun g => Own n0 sw sn st ρ g ∧ g < W.heap.size) W v G := hr.own (fun g hg e => ⟨e, hg⟩)
  refine (hr1.but hm.but (fun g e e2 => ?_)).own (fun g _ e => ⟨e.1.1, ?_, e.1.2.2⟩)
  · rw [e.1.2.1] at e2; simp at e2
  · rw [hm.keep g e.2 (by rw [e.1.2.1]; simp)]
    exact e.1.2.1
theorem Oq.setW (h : Oq n0 w0 c sw sn st L WH WN TD ρ W) {q : Nat} (hq : q < 200) (d : Int) : Oq n0 w0 c sw sn st L (at1 WH q d) WN TD ρ (W.setCell ⟨sw, q, none⟩ (.int .u8 d)) := by
  have bo : But (Only sw) W (W.setCell ⟨sw, q, none⟩ (.int .u8 d)) := But.cellb (K := Only sw) (b := sw) (But.refl _ _) rfl q _
  have ⟨l1, l2, l3⟩ := h.l
  have ⟨d1, d2, d3, d4, d5, d6⟩ := h.d
  have k2 : ¬ Only sw sn := fun e => d4 (by have e : sn = sw := e; omega)
  have k3 : ¬ Only sw st := fun e => d6 (by have e : st = sw := e; omega)
  have hs := bo.size
  refine ⟨h.ca.but bo (fun g e e2 => by have e2 : g = sw := e2; rw [e2, h.r.1] at e; simp at e), h.fit.below hs, h.clear, h.bel.trans (bo.below h.sz (fun g hg e => by have e : g = sw := e; omega)), by have := h.sz; omega, h.d, h.r, ⟨by omega, by omega, by omega⟩, fun k hk => ?_, fun k hk => (bo.cell (p := ⟨sn, k, none⟩) l2 k2).trans (h.cn k hk), fun k hk => (bo.cell (p := ⟨st, k, none⟩) l3 k3).trans (h.ct k hk), fun y => by rw [World.frozen?_setCell]; exact h.fw y, fun y => by rw [World.frozen?_setCell]; exact h.fn y, fun y => by rw [World.frozen?_setCell]; exact h.ft y⟩
  by_cases e : k = q
  · subst e
    rw [at1_same]
    exact World.cell?_setCell_same _ _ _ (h.cw k hk)
  · rw [at1_ne _ _ e, World.cell?_setCell_other (h := by intro e2; cases e2; exact e rfl)]
    exact h.cw k hk
theorem Oq.setN (h : Oq n0 w0 c sw sn st L WH WN TD ρ W) {q : Nat} (hq : q < 200) (d : Int) : Oq n0 w0 c sw sn st L WH (at1 WN q d) TD ρ (W.setCell ⟨sn, q, none⟩ (.int .i64 d)) := by
  have bo : But (Only sn) W (W.setCell ⟨sn, q, none⟩ (.int .i64 d)) := But.cellb (K := Only sn) (b := sn) (But.refl _ _) rfl q _
  have ⟨l1, l2, l3⟩ := h.l
  have ⟨d1, d2, d3, d4, d5, d6⟩ := h.d
  have k2 : ¬ Only sn sw := fun e => d4 (by have e : sw = sn := e; omega)
  have k3 : ¬ Only sn st := fun e => d5 (by have e : st = sn := e; omega)
  have hs := bo.size
  refine ⟨h.ca.but bo (fun g e e2 => by have e2 : g = sn := e2; rw [e2, h.r.2.1] at e; simp at e), h.fit.below hs, h.clear, h.bel.trans (bo.below h.sz (fun g hg e => by have e : g = sn := e; omega)), by have := h.sz; omega, h.d, h.r, ⟨by omega, by omega, by omega⟩, fun k hk => (bo.cell (p := ⟨sw, k, none⟩) l1 k2).trans (h.cw k hk), fun k hk => ?_, fun k hk => (bo.cell (p := ⟨st, k, none⟩) l3 k3).trans (h.ct k hk), fun y => by rw [World.frozen?_setCell]; exact h.fw y, fun y => by rw [World.frozen?_setCell]; exact h.fn y, fun y => by rw [World.frozen?_setCell]; exact h.ft y⟩
  by_cases e : k = q
  · subst e
    rw [at1_same]
    exact World.cell?_setCell_same _ _ _ (h.cn k hk)
  · rw [at1_ne _ _ e, World.cell?_setCell_other (h := by intro e2; cases e2; exact e rfl)]
    exact h.cn k hk
theorem Oq.setT (h : Oq n0 w0 c sw sn st L WH WN TD ρ W) {q : Nat} (hq : q < 200) (d : Bool) : Oq n0 w0 c sw sn st L WH WN (at1 TD q d) ρ (W.setCell ⟨st, q, none⟩ (.bool d)) := by
  have bo : But (Only st) W (W.setCell ⟨st, q, none⟩ (.bool d)) := But.cellb (K := Only st) (b := st) (But.refl _ _) rfl q _
  have ⟨l1, l2, l3⟩ := h.l
  have ⟨d1, d2, d3, d4, d5, d6⟩ := h.d
  have k2 : ¬ Only st sn := fun e => d5 (by have e : sn = st := e; omega)
  have k3 : ¬ Only st sw := fun e => d6 (by have e : sw = st := e; omega)
  have hs := bo.size
  refine ⟨h.ca.but bo (fun g e e2 => by have e2 : g = st := e2; rw [e2, h.r.2.2] at e; simp at e), h.fit.below hs, h.clear, h.bel.trans (bo.below h.sz (fun g hg e => by have e : g = st := e; omega)), by have := h.sz; omega, h.d, h.r, ⟨by omega, by omega, by omega⟩, fun k hk => (bo.cell (p := ⟨sw, k, none⟩) l1 k3).trans (h.cw k hk), fun k hk => (bo.cell (p := ⟨sn, k, none⟩) l2 k2).trans (h.cn k hk), fun k hk => ?_, fun y => by rw [World.frozen?_setCell]; exact h.fw y, fun y => by rw [World.frozen?_setCell]; exact h.fn y, fun y => by rw [World.frozen?_setCell]; exact h.ft y⟩
  by_cases e : k = q
  · subst e
    rw [at1_same]
    exact World.cell?_setCell_same _ _ _ (h.ct k hk)
  · rw [at1_ne _ _ e, World.cell?_setCell_other (h := by intro e2; cases e2; exact e rfl)]
    exact h.ct k hk
theorem Oq.tick (h : Oq n0 w0 c sw sn st L WH WN TD ρ W) (now : Int) (hok : LOk now L) (h1 : now ≤ 4611686018427387904) :
    Calls Try.prog 18 #[.pointer (some ⟨c, 0, none⟩), .int .i64 now] W fun e w' => ∃ ρ' aa an ac ga gc, e = .returned (.tuple #[.slice aa an ac, .slice ga (tkG now L).length gc]) ∧ Oq n0 w0 c sw sn st (tkL now L) WH WN TD ρ' w' ∧ RowN (Own n0 sw sn st ρ') w' (.slice ga (tkG now L).length gc) (tkG now L) := by
  refine (Tick_any h.ca h.fit now hok h1).mono ?_
  rintro _ w' ⟨ρ', av, gv, rfl, hc, hF, hM, hg, hr⟩
  obtain ⟨ga, gc, rfl⟩ := hg.shape
  obtain ⟨aa, ac, rfl⟩ := hr.shape
  exact ⟨ρ', aa, _, ac, ga, gc, rfl, h.step hc hF hM, hg.own (fun g _ e => h.free e)⟩
theorem Oq.find (h : Oq n0 w0 c sw sn st L WH WN TD ρ W) (ip : I4) (buf now : Int) (hok : LOk now L) (h1 : now ≤ 4611686018427387904) {gv : Value} {G : List Int} (hG : RowN (Own n0 sw sn st ρ) W gv G) :
    Calls Try.prog 19 #[.pointer (some ⟨c, 0, none⟩), ip.val, .int .i64 buf, .int .i64 now] W fun e w' => ∃ ρ' aa an ac la lc, e = .returned (.tuple #[(fd ip buf now L).mac.val, .slice la (fd ip buf now L).gone.length lc, .slice aa an ac, .int .i64 (fd ip buf now L).err]) ∧ Oq n0 w0 c sw sn st (fd ip buf now L).L WH WN TD ρ' w' ∧ RowN (Own n0 sw sn st ρ') w' gv G ∧ RowN (Own n0 sw sn st ρ') w' (.slice la (fd ip buf now L).gone.length lc) (fd ip buf now L).gone := by
  refine (Find_any h.ca h.fit now buf hok h1 ip).mono ?_
  rintro _ w' ⟨ρ', lv, av, rfl, hc, hF, hM, hg, hr⟩
  obtain ⟨la, lc, rfl⟩ := hg.shape
  obtain ⟨aa, ac, rfl⟩ := hr.shape
  exact ⟨ρ', aa, _, ac, la, lc, rfl, h.step hc hF hM, h.row hM hG, hg.own (fun g _ e => h.free e)⟩
theorem Oq.heard (h : Oq n0 w0 c sw sn st L WH WN TD ρ W) (a : Ar) (now : Int) (hok : LOk now L) {gv : Value} {G : List Int} (hG : RowN (Own n0 sw sn st ρ) W gv G) {s : Nat} (hs : Own n0 sw sn st ρ s) (hl : s < W.heap.size) (hc : CellsAt W s 0 a.vals) :
    Calls Try.prog 20 #[.pointer (some ⟨c, 0, none⟩), a.val, .int .i64 now] W fun e w' => ∃ ρ' aa an ac ma mc, e = .returned (.tuple #[.slice aa an ac, .slice ma (hd hostI a now L).may.length mc, (hd hostI a now L).mac.val]) ∧ Oq n0 w0 c sw sn st (hd hostI a now L).L WH WN TD ρ' w' ∧ RowN (Own n0 sw sn st ρ') w' gv G ∧ RowN (Own n0 sw sn st ρ') w' (.slice ma (hd hostI a now L).may.length mc) (hd hostI a now L).may ∧ CellsAt w' s 0 a.vals ∧ s < w'.heap.size := by
  refine (Heard_any h.ca h.fit now hok a).mono ?_
  rintro _ w' ⟨ρ', av, lv, rfl, hc2, hF, hM, hg, hr⟩
  obtain ⟨la, lc, rfl⟩ := hg.shape
  obtain ⟨aa, ac, rfl⟩ := hr.shape
  exact ⟨ρ', aa, _, ac, la, lc, rfl, h.step hc2 hF hM, h.row hM hG, hg.own (fun g _ e => h.free e), hc.but hl hM.but (by rw [hs.2.1]; simp), Nat.lt_of_lt_of_le hl hM.but.size⟩
end
end Go.Proofs.Ytjaodjlgnclkhaa
