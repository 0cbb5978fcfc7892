
/-
  Package arp: the contract of neighbour.
-/
import Derived.Test.YtdcpnjlldocdcaaA3
namespace Go.Proofs.Ytdcpnjlldocdcaa
open Go.RowKit Go.Shelf
attribute [local go_sem] Oper.semAt_some

theorem put_but (W : World) (l : Nat) (o : Obj) : But (fun g => g = l) W (W.putObj l o) := by
  have hg := grownBy_putObj' W l o
  exact ⟨hg.os, hg.tape, hg.output, hg.size, fun k hk hn => hg.block k hk (fun e => hn (Option.some.inj e))⟩
theorem But.put {K : Nat → Prop} {a W : World} (h : But K a W) {l : Nat} (hl : a.heap.size ≤ l) (o : Obj) : But K a (W.putObj l o) :=
  h.trans' (put_but W l o) (fun g hg e => by omega)
theorem KeepsFrom.of_but {B : Nat} {K : Nat → Prop} {W W' : World} (hb : But K W W') (hk : ∀ g, K g → ∃ o, W.heap[g]? = some o ∧ o.isCells = true) : KeepsFrom B W W' :=
  ⟨hb.size, fun k o _ ho hc => (hb.block k (Array.getElem?_eq_some_iff.1 ho).1 (fun e => by
    obtain ⟨o', h1, h2⟩ := hk k e
    rw [ho] at h1; cases h1; rw [hc] at h2; cases h2)).trans ho⟩
theorem cells_of_cell {W : World} {p : Addr} {v : Value} (h : W.cell? p = some v) : ∃ o, W.heap[p.block]? = some o ∧ o.isCells = true := by
  unfold World.cell? at h
  cases ho : W.heap[p.block]? with
  | none => rw [ho] at h; simp at h
  | some o => refine ⟨o, rfl, ?_⟩; rw [ho] at h; cases o <;> simp_all [Obj.isCells]

/-- the first one that has this address -/
def fndI (ip : I4) (L : List Nb) : Option Nat := L.findIdx? (fun x => eqI x.ip ip)
/-- no one before the k-th has it -/
def Not (ip : I4) (L : List Nb) (k : Nat) : Prop := ∀ j x, j < k → L[j]? = some x → eqI x.ip ip = false
theorem fndI_none {ip : I4} {L : List Nb} (h : Not ip L L.length) : fndI ip L = none := by
  unfold fndI
  rw [List.findIdx?_eq_none_iff]
  intro x hx
  obtain ⟨j, hj⟩ := List.getElem?_of_mem hx
  exact h j x (List.getElem?_eq_some_iff.1 hj).1 hj
theorem fndI_some {ip : I4} {L : List Nb} {k : Nat} {x : Nb} (h : Not ip L k) (hk : L[k]? = some x) (he : eqI x.ip ip = true) : fndI ip L = some k := by
  unfold fndI
  obtain ⟨hk1, hk2⟩ := List.getElem?_eq_some_iff.1 hk
  rw [List.findIdx?_eq_some_iff_getElem]
  refine ⟨hk1, by rw [hk2]; exact he, fun j hj => ?_⟩
  rw [h j _ hj (List.getElem?_eq_getElem (by omega))]
  simp

/-- between two rounds; where it is left -/
def NbI (w1 : World) (ip : I4) (L : List Nb) (k : Nat) (W : World) : Prop := But (fun _ => False) w1 W ∧ Not ip L k
def NbX (w1 : World) (r g : Nat) (ip : I4) (L : List Nb) (c : Code) (W : World) : Prop :=
  c = .ret ∧ ∃ k x, L[k]? = some x ∧ eqI x.ip ip = true ∧ Not ip L k ∧ But (Only r) w1 W ∧ W.cell? ⟨r, 0, none⟩ = some (.pointer (some ⟨g, k * 15, none⟩))
theorem NbX.keep {w1 : World} {r g : Nat} {ip : I4} {L : List Nb} {c : Code} {W W' : World} {K : Nat → Prop} (h : NbX w1 r g ip L c W) (hr : r < w1.heap.size) (hb : But K W W') (hk : ∀ g, K g → w1.heap.size ≤ g) : NbX w1 r g ip L c W' := by
  obtain ⟨h1, k, x, h2, h3, h4, h5, h6⟩ := h
  refine ⟨h1, k, x, h2, h3, h4, h5.trans' hb (fun q hq e => by have := hk q e; omega), ?_⟩
  exact (hb.cell (p := ⟨r, 0, none⟩) (Nat.lt_of_lt_of_le hr h5.size) (fun e => by have : w1.heap.size ≤ r := hk _ e; omega)).trans h6

set_option maxRecDepth 100000 in
set_option maxHeartbeats 2000000 in
theorem neighbour_in (n : Nat) (hn : 3 ≤ n) {w : World} (b g c : Nat) (a0 : Option Addr) (L : List Nb) (cL : w.cell? ⟨b, 10, none⟩ = some (.slice a0 L.length c)) (hR : ∀ k x, L[k]? = some x → a0 = some ⟨g, 0, none⟩ ∧ CellsAt w g (k * 15) x.ip.vals) (hl : L.length ≤ 1000) (ip : I4) :
    CallsIn Fence.wide n Try.prog 36 #[.pointer (some ⟨b, 0, none⟩), ip.val] w fun e w' => e = .returned (.pointer ((fndI ip L).map fun k => ⟨g, k * 15, none⟩)) ∧ Below w.heap.size w w' := by
  have h1 : 1 ≤ n := by omega
  obtain ⟨i0, i1, i2, i3⟩ := ip
  obtain ⟨ip, hip⟩ : ∃ ip : I4, ip = ⟨i0, i1, i2, i3⟩ := ⟨_, rfl⟩
  have HIP := hide hip
  rw [← hip]
  rw [show ip.val = .agg #[.int .u8 i0, .int .u8 i1, .int .u8 i2, .int .u8 i3] by rw [hip]; rfl]
  clear hip
  have hblt : b < w.heap.size := World.block_lt_of_cell? w _ cL
  refine callsIn_of_wp_marks Try.func36 rfl trivial ?_ rfl
  simp only [Try.ntmps36, List.size_toArray, List.length_cons, List.length_nil, Nat.reduceAdd, Nat.reduceSub, Array.replicate_succ, Array.replicate_zero, List.push_toArray, List.append_toArray, List.nil_append, List.cons_append]
  gi_wp2_with fail
  refine ⟨trivial, ?_⟩
  refine (neighbours_in (n - 1) b _).mono ?_
  rintro e w' ⟨rfl, rfl⟩
  obtain ⟨s, hs⟩ : ∃ s, s = w.heap.size := ⟨_, rfl⟩
  simp only [World.size_alloc]
  rw [← hs]
  obtain ⟨w1, hw1⟩ : ∃ w1, w1 = ((w.alloc (.cells #[.int .u8 i0, .int .u8 i1, .int .u8 i2, .int .u8 i3] 25)).alloc (.cells #[.pointer none] 82)).alloc (.cells #[.pointer (some ⟨b, 0, none⟩)] 37) := ⟨_, rfl⟩
  rw [← hw1]
  have hb0 : Below w.heap.size w w1 := by rw [hw1]; exact ((((Below.refl _ w).alloc (Nat.le_refl _) _).alloc (by simp) _).alloc (by simp; omega) _)
  have hsz : w1.heap.size = s + 3 := by rw [hw1]; simp [hs]
  have cI : CellsAt w1 s 0 [.int .u8 i0, .int .u8 i1, .int .u8 i2, .int .u8 i3] := by
    rw [hw1, hs]
    exact (((CellsAt.new w [.int .u8 i0, .int .u8 i1, .int .u8 i2, .int .u8 i3] 25).but (by simp) ((But.refl (fun _ => False) _).alloc (.cells #[.pointer none] 82)) id)).but (by simp; omega) ((But.refl (fun _ => False) _).alloc _) id
  have bB := (Boxed.new (w.alloc (.cells #[.int .u8 i0, .int .u8 i1, .int .u8 i2, .int .u8 i3] 25)) 82 (.pointer none)).alloc (.cells #[.pointer (some ⟨b, 0, none⟩)] 37)
  have bC := Boxed.new ((w.alloc (.cells #[.int .u8 i0, .int .u8 i1, .int .u8 i2, .int .u8 i3] 25)).alloc (.cells #[.pointer none] 82)) 37 (.pointer (some ⟨b, 0, none⟩))
  simp only [World.size_alloc] at bB bC
  rw [← hw1, ← hs] at bB bC
  have cB := bB.cell
  have fB := bB.frozen
  have cC : w1.cell? ⟨s + 2, 0, none⟩ = some (.pointer (some ⟨b, 0, none⟩)) := bC.cell
  have cL1 := (hb0.cell (p := ⟨b, 10, none⟩) hblt).trans cL
  have hR1 : ∀ k x, L[k]? = some x → a0 = some ⟨g, 0, none⟩ ∧ CellsAt w1 g (k * 15) x.ip.vals ∧ g < w.heap.size := fun k x hx => ⟨(hR k x hx).1, (hR k x hx).2.later ((hR k x hx).2.lt (by simp [I4.vals])) hb0, (hR k x hx).2.lt (by simp [I4.vals])⟩
  have HB0 := hide hb0
  have HS := hide hs
  clear hs hw1 bB bC cL hR hb0
  gi_wp2
  refine wpIn_range h1 (gf := 46) (lb := #[.pointer (some ⟨s + 2, 0, none⟩)]) rfl (enters_of Try.func46 (by kernel_rfl) rfl) (NbI w1 ip L) (NbX w1 (s + 1) g ip L) 0
    (neighbours_tells (n - 1) (by omega) (s + 2) b g L.length c a0 (fun h0 => (hR1 0 _ (List.getElem?_eq_getElem h0)).1) (by omega) _ (fun k W h => ⟨(h.1.cell (p := ⟨s + 2, 0, none⟩) (by show s + 2 < _; omega) id).trans cC, (h.1.cell (p := ⟨b, 10, none⟩) (by have := HS.out; show b < _; omega) id).trans cL1⟩))
    (fun k args ⟨_, e⟩ => by rw [e]; rfl) (fun k W o h => ⟨h.1.alloc o, h.2⟩) (fun k W l o o' hl ho hc h => ⟨h.1.put hl o', h.2⟩) (fun c W o h => h.keep (by omega) ((But.refl (fun _ => False) W).alloc o) (fun _ e => e.elim)) (fun c W l o o' hl ho hc h => h.keep (by omega) (put_but W l o') (fun q e => by omega)) (fun c W h => h.keep (by omega) ((But.refl (fun _ => False) W).drew) (fun _ e => e.elim)) ⟨But.refl _ _, fun j x hj => by omega⟩ ?round ?done ?stop
  case round =>
    rintro l k args W' hlS hI ⟨hk, rfl⟩
    obtain ⟨x, hx⟩ : ∃ x, L[k]? = some x := ⟨_, List.getElem?_eq_getElem hk⟩
    obtain ⟨_, cX, hg⟩ := hR1 k x hx
    have HI := hide hI
    have HX := hide hx
    clear hI hx hR1
    gi_wp2
    refine ⟨KeepsFrom.refl _ _, ?_⟩
    intro o o' hoo hc
    have hI2 : NbI w1 ip L k (W'.putObj l o') := ⟨HI.out.1.put hlS o', HI.out.2⟩
    clear hoo hc HI
    generalize W'.putObj l o' = W2 at *
    have hb := hI2.1
    have hHS := HS.out
    have cX2 := cX.but (by omega) hb id
    have cI2 := cI.but (by omega) hb id
    have r2 : W2.cell? ⟨s + 1, 0, none⟩ = some (.pointer none) := (hb.cell (p := ⟨s + 1, 0, none⟩) (by show s + 1 < _; omega) id).trans cB
    have f2 : W2.frozen? ⟨s + 1, 0, none⟩ = false := (hb.frozen (p := ⟨s + 1, 0, none⟩) (by show s + 1 < _; omega) id).trans fB
    have x0 := cX2 0 _ rfl
    have x1 := cX2 1 _ rfl
    have x2 := cX2 2 _ rfl
    have x3 := cX2 3 _ rfl
    have y0 := cI2 0 _ rfl
    have y1 := cI2 1 _ rfl
    have y2 := cI2 2 _ rfl
    have y3 := cI2 3 _ rfl
    simp only [Nat.add_zero, Nat.zero_add] at x0 y0 y1 y2 y3
    have HI2 := hide hI2
    obtain ⟨q, hq⟩ : ∃ q, q = eqI x.ip ip := ⟨_, rfl⟩
    have HQ := hide hq
    have EM := eq_ip
    clear hI2 hb hq cX cI cX2 cI2 hHS
    have hqq : eqI ⟨x.ip.a, x.ip.b, x.ip.c, x.ip.d⟩ ⟨i0, i1, i2, i3⟩ = q := by rw [HQ.out, HIP.out]
    gi_wp2
    refine wpIn_mono (Q := fun e a w' => match e with
      | .normal => a = { tmps := #[.pointer (some ⟨b, 0, none⟩), .agg #[.int .u8 i0, .int .u8 i1, .int .u8 i2, .int .u8 i3], undef, .pointer (some ⟨s, 0, none⟩), .pointer (some ⟨s + 1, 0, none⟩), .pointer (some ⟨g, k * 15, none⟩), .pointer (some ⟨b, 0, none⟩), .func (.func 46) #[] #[.pointer (some ⟨s + 2, 0, none⟩)], .pointer (some ⟨g, k * 15, none⟩), .pointer (some ⟨g, k * 15, none⟩), .pointer (some ⟨g, k * 15, none⟩), .pointer (some ⟨g, k * 15, none⟩), .agg #[.int .u8 x.ip.a, .int .u8 x.ip.b, .int .u8 x.ip.c, .int .u8 x.ip.d], .agg #[.int .u8 i0, .int .u8 i1, .int .u8 i2, .int .u8 i3], .bool q, undef], defers := [] } ∧ w' = W2.drew
      | _ => False) ?_ ?_
    · subst hqq
      gi_region_with (fail)
      all_goals exact ⟨rfl, rfl⟩
    rintro e a1 w3 hq3
    cases e with
    | normal => ?_
    | _ => exact hq3.elim
    obtain ⟨rfl, rfl⟩ := hq3
    clear EM hqq x0 x1 x2 x3 y0 y1 y2 y3
    have hb2 := HI2.out.1
    have r3 : W2.drew.cell? ⟨s + 1, 0, none⟩ = some (.pointer none) := r2
    have f3 : W2.drew.frozen? ⟨s + 1, 0, none⟩ = false := f2
    have hb3 : But (fun _ => False) w1 W2.drew := hb2.drew
    have bD : But (fun _ => False) W2 W2.drew := (But.refl _ _).drew
    have HBD := hide bD
    have HB3 := hide hb3
    clear hb2 hb3 bD r2 f2
    obtain ⟨W3, hW3⟩ : ∃ W3, W3 = W2.drew := ⟨_, rfl⟩
    rw [← hW3] at r3 f3 HB3 HBD ⊢
    clear hW3
    cases q with
    | true =>
      gi_wp2
      refine ⟨?_, rfl, k, x, HX.out, HQ.out.symm, HI2.out.2, But.cellb (K := Only (s + 1)) (b := s + 1) (HB3.out.mono (fun _ e => e.elim)) rfl 0 _, ?_⟩
      · exact (KeepsFrom.of_but HBD.out (fun _ e => e.elim)).trans (KeepsFrom.of_but (K := Only (s + 1)) ((But.refl (Only (s + 1)) _).cellb (b := s + 1) rfl 0 _) (fun g e => by have e : g = s + 1 := e; subst e; exact cells_of_cell r3))
      · exact World.cell?_setCell_same' _ _ _ (by rw [r3]; rfl)
    | false =>
      gi_wp2
      refine ⟨KeepsFrom.of_but HBD.out (fun _ e => e.elim), HB3.out, fun j y hj hy => ?_⟩
      by_cases e : j = k
      · subst e
        rw [HX.out] at hy
        cases hy
        exact HQ.out.symm
      · exact HI2.out.2 j y (by omega) hy
  case done =>
    rintro D' k W hD rfl hI hK
    have hHS := HS.out
    have hb := hI.1
    have r2 : W.cell? ⟨s + 1, 0, none⟩ = some (.pointer none) := (hb.cell (p := ⟨s + 1, 0, none⟩) (by show s + 1 < _; omega) id).trans cB
    have f2 : W.frozen? ⟨s + 1, 0, none⟩ = false := (hb.frozen (p := ⟨s + 1, 0, none⟩) (by show s + 1 < _; omega) id).trans fB
    have HB : Hid (Below w.heap.size w W) := HB0.out.trans (hb.below (by omega) (fun _ _ e => e))
    have HN := hide hI.2
    clear hI hb hR1 cI cL1 cC cB fB hHS
    gi_wp2
    have hHS := HS.out
    have hK2 : (W.setCell ⟨s + 1, 0, none⟩ (.pointer none)).heap[D']? = some (Obj.deferred (some [])) := (Below.heap_setCell _ _ _ _ (by simp; omega)).trans hK
    have hc2 : (W.setCell ⟨s + 1, 0, none⟩ (.pointer none)).cell? ⟨s + 1, 0, none⟩ = some (.pointer none) := World.cell?_setCell_same' _ _ _ (by rw [r2]; rfl)
    have hc3 := cell_kept hc2 (grownBy_putObj' _ D' (.deferred none)) (fun r e => by cases e; exact ⟨_, hK2, rfl⟩)
    have hb3 := (HB.out.setCell (p := ⟨s + 1, 0, none⟩) (by simp; omega) (.pointer none)).grown (grownBy_putObj' _ D' (.deferred none)) (by have := HB.out.size; simp; omega) (fun r e => by cases e; omega)
    refine ⟨by simp, .inl ⟨_, _, rfl, run_takeDeferred hK2, ?_⟩⟩
    refine ⟨.pointer none, ?_, ?_, hb3⟩
    · simp [results, asAddr, go_sem, hc3]
    · rw [fndI_none HN.out]; rfl
  case stop =>
    rintro D' c W hD ⟨rfl, k, x, hx, he, hN, hb, hc⟩ hK
    have hHS := HS.out
    have HB : Hid (Below w.heap.size w W) := HB0.out.trans (hb.below (by omega) (fun q hq e => by have e : q = s + 1 := e; omega))
    have HF := hide (fndI_some hN hx he)
    clear hx he hN hb hR1 cI cL1 cC cB fB hHS
    gi_wp2
    have hHS := HS.out
    have hc3 := cell_kept hc (grownBy_putObj' _ D' (.deferred none)) (fun r e => by cases e; exact ⟨_, hK, rfl⟩)
    have hb3 := HB.out.grown (grownBy_putObj' _ D' (.deferred none)) (by have := HB.out.size; omega) (fun r e => by cases e; omega)
    refine ⟨by simp, .inl ⟨_, _, rfl, run_takeDeferred hK, ?_⟩⟩
    refine ⟨.pointer (some ⟨g, k * 15, none⟩), ?_, ?_, hb3⟩
    · simp [results, asAddr, go_sem, hc3]
    · rw [HF.out]; rfl

theorem neighbour_any {w : World} (b g c : Nat) (a0 : Option Addr) (L : List Nb) (cL : w.cell? ⟨b, 10, none⟩ = some (.slice a0 L.length c)) (hR : ∀ k x, L[k]? = some x → a0 = some ⟨g, 0, none⟩ ∧ CellsAt w g (k * 15) x.ip.vals) (hl : L.length ≤ 1000) (ip : I4) :
    Calls Try.prog 36 #[.pointer (some ⟨b, 0, none⟩), ip.val] w fun e w' => e = .returned (.pointer ((fndI ip L).map fun k => ⟨g, k * 15, none⟩)) ∧ Below w.heap.size w w' :=
  callsIn_wide.1 (neighbour_in 3 (Nat.le_refl _) b g c a0 L cL hR hl ip)
end Go.Proofs.Ytdcpnjlldocdcaa
