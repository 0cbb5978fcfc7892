
/-
  Package frag: overlaps.
-/
import Derived.Test.YtgempelfamjabaaF7
namespace Go.Proofs.Ytgempelfamjabaa
open Go.RowKit Go.Shelf
attribute [local go_sem] Oper.semAt_some

/-- none of the first k is at odds with x -/
def NoO (x : Pc) (L : List Pc) (k : Nat) : Prop := ∀ j y, j < k → L[j]? = some y → odds x y = false
def OvI (w1 : World) (x : Pc) (L : List Pc) (k : Nat) (W : World) : Prop := But (fun _ => False) w1 W ∧ NoO x L k
def OvX (w1 : World) (r : Nat) (x : Pc) (L : List Pc) (c : Code) (W : World) : Prop :=
  c = .ret ∧ (∃ y ∈ L, odds x y = true) ∧ But (Only r) w1 W ∧ W.cell? ⟨r, 0, none⟩ = some (.bool true)
theorem OvX.keep {w1 : World} {r : Nat} {x : Pc} {L : List Pc} {c : Code} {W W' : World} {K : Nat → Prop} (h : OvX w1 r x L c W) (hr : r < w1.heap.size) (hb : But K W W') (hk : ∀ g, K g → w1.heap.size ≤ g) : OvX w1 r x L c W' := by
  obtain ⟨h1, h2, h5, h6⟩ := h
  refine ⟨h1, h2, h5.trans' hb (fun q hq e => by have := hk q e; omega), ?_⟩
  exact (hb.cell (p := ⟨r, 0, none⟩) (Nat.lt_of_lt_of_le hr h5.size) (fun e => by have : w1.heap.size ≤ r := hk _ e; omega)).trans h6
theorem any_none {x : Pc} {L : List Pc} (h : NoO x L L.length) : L.any (odds x) = false := by
  rw [List.any_eq_false]
  intro y hy
  obtain ⟨j, hj⟩ := List.getElem?_of_mem hy
  rw [h j y (List.getElem?_eq_some_iff.1 hj).1 hj]
  decide
set_option maxRecDepth 100000 in
set_option maxHeartbeats 4000000 in
theorem overlaps_in (n : Nat) (hn : 3 ≤ n) {w : World} {b : Nat} {RO CO P : Nat → Prop} {m : Gm} (h : GmAt w b RO CO m) (x : Pc) (hx : x.Ok P w) :
    CallsIn Fence.wide n Try.prog 36 #[.pointer (some ⟨b, 0, none⟩), .agg x.cells.toArray] w fun e w' => e = .returned (.bool (m.L.any (odds x))) ∧ Below w.heap.size w w' := by
  have h1 : 1 ≤ n := by omega
  have hblt := h.lt
  obtain ⟨a0, c0, g, cL, hga, hcs, hdv⟩ := h.it
  have hlen := h.len
  have hcon := h.con
  obtain ⟨L, hL⟩ : ∃ L, L = m.L := ⟨_, rfl⟩
  rw [← hL] at cL hga hcs hdv hlen hcon ⊢
  obtain ⟨ea, ec, eX⟩ := hx.d.shape
  obtain ⟨en, hen⟩ : ∃ en, en = x.D.length := ⟨_, rfl⟩
  rw [← hen] at eX
  rw [show (Value.agg x.cells.toArray) = .agg #[.int .i64 x.at_, x.dv, .bool x.last, .int .i64 x.buf] from rfl, eX]
  obtain ⟨w1, hw1⟩ : ∃ w1, w1 = ((w.alloc (.cells #[.int .i64 x.at_, .slice ea en ec, .bool x.last, .int .i64 x.buf] 80)).alloc (.cells #[.bool false] 4)).alloc (.cells #[.pointer (some ⟨b, 0, none⟩)] 65) := ⟨_, rfl⟩
  obtain ⟨s, hs⟩ : ∃ s, s = w.heap.size := ⟨_, rfl⟩
  have hb0 : Below w.heap.size w w1 := by rw [hw1]; exact ((((Below.refl _ w).alloc (Nat.le_refl _) _).alloc (by simp) _).alloc (by simp; omega) _)
  have hsz : w1.heap.size = s + 3 := by rw [hw1]; simp [hs]
  obtain ⟨X, hX⟩ : ∃ X, X = x.cells := ⟨_, rfl⟩
  have LX : Hid (X.length = 4) := by rw [hX]; exact rfl
  have cI : CellsAt w1 s 0 X := by
    have e : X = [.int .i64 x.at_, .slice ea en ec, .bool x.last, .int .i64 x.buf] := by rw [hX, ← eX]; rfl
    rw [hw1, hs, e]
    exact (((CellsAt.new w [.int .i64 x.at_, .slice ea en ec, .bool x.last, .int .i64 x.buf] 80).but (by simp) ((But.refl (fun _ => False) _).alloc (.cells #[.bool false] 4)) id)).but (by simp; omega) ((But.refl (fun _ => False) _).alloc _) id
  have bB := (Boxed.new (w.alloc (.cells #[.int .i64 x.at_, .slice ea en ec, .bool x.last, .int .i64 x.buf] 80)) 4 (.bool false)).alloc (.cells #[.pointer (some ⟨b, 0, none⟩)] 65)
  have bC := Boxed.new ((w.alloc (.cells #[.int .i64 x.at_, .slice ea en ec, .bool x.last, .int .i64 x.buf] 80)).alloc (.cells #[.bool false] 4)) 65 (.pointer (some ⟨b, 0, none⟩))
  simp only [World.size_alloc] at bB bC
  rw [← hw1, ← hs] at bB bC
  have cB := bB.cell
  have fB := bB.frozen
  have cC : w1.cell? ⟨s + 2, 0, none⟩ = some (.pointer (some ⟨b, 0, none⟩)) := bC.cell
  have cL1 := (hb0.cell (p := ⟨b, 27, none⟩) hblt).trans cL
  have HXO : Hid (x.Ok P w1) := hx.later hb0
  have HCON : Hid (∀ y ∈ L, y.Ok CO w1) := fun y hy => (hcon y hy).later hb0
  have HR1 : Hid (∀ k y, L[k]? = some y → CellsAt w1 g (k * 4) y.cells) := fun k y hy => (hcs k y hy).later (hga (by have := (List.getElem?_eq_some_iff.1 hy).1; omega)).2 hb0
  have HG : Hid (∀ k y, L[k]? = some y → g < w1.heap.size) := fun k y hy => Nat.lt_of_lt_of_le (hga (by have := (List.getElem?_eq_some_iff.1 hy).1; omega)).2 hb0.size
  have HGA := hide hga
  have HDV := hide hdv
  have HLEN := hide hlen
  have HX := hide hX
  refine callsIn_of_wp_marks Try.func36 rfl trivial ?_ rfl
  simp only [Try.ntmps36, List.size_toArray, List.length_cons, List.length_nil, Nat.reduceAdd, Nat.reduceSub, Array.replicate_succ, Array.replicate_zero, List.push_toArray, List.append_toArray, List.nil_append, List.cons_append]
  have HS := hide hs
  have HB0 := hide hb0
  have HW1 := hide hw1
  clear hL h hx hcs hdv hga hcon hlen bB bC cL hX hb0 hw1 hs eX hen
  gi_wp2_with fail
  refine ⟨trivial, ?_⟩
  refine (pieces_in (n - 1) b _).mono ?_
  rintro e w' ⟨rfl, rfl⟩
  simp only [World.size_alloc]
  rw [← HS.out, ← HW1.out]
  clear HW1
  gi_wp2
  refine wpIn_range h1 (gf := 51) (lb := #[.pointer (some ⟨s + 2, 0, none⟩)]) rfl (enters_of Try.func51 (by kernel_rfl) rfl) (OvI w1 x L) (OvX w1 (s + 1) x L) 0
    (pieces_tells (n - 1) (by omega) (s + 2) b g L.length c0 a0 (fun hl => (HGA.out hl).1) (by have := HLEN.out; omega) L rfl HDV.out _ (fun j W o hI => ⟨hI.1.alloc o, hI.2⟩) (fun k W h => ⟨(h.1.cell (p := ⟨s + 2, 0, none⟩) (by show s + 2 < _; omega) id).trans cC, (h.1.cell (p := ⟨b, 27, none⟩) (by have := HS.out; show b < _; omega) id).trans cL1, fun q y hy => (HR1.out q y hy).but (HG.out q y hy) h.1 id⟩))
    (fun k args ⟨_, _, e⟩ => by rw [e]; rfl) (fun k W o h => ⟨h.1.alloc o, h.2⟩) (fun k W l o o' hl ho hc h => ⟨h.1.put hl o', h.2⟩) (fun c W o h => h.keep (by omega) ((But.refl (fun _ => False) W).alloc o) (fun _ e => e.elim)) (fun c W l o o' hl ho hc h => h.keep (by omega) (put_but W l o') (fun q e => by omega)) (fun c W h => h.keep (by omega) ((But.refl (fun _ => False) W).drew) (fun _ e => e.elim)) ⟨But.refl _ _, fun j x hj => by omega⟩ ?round ?done ?stop
  case round =>
    rintro l k args W' hlS hI ⟨y, hy, rfl⟩
    obtain ⟨da, dn, dc, edv⟩ := HDV.out y (List.mem_of_getElem? hy)
    have ey : (Value.agg y.cells.toArray) = .agg #[.int .i64 y.at_, .slice da dn dc, .bool y.last, .int .i64 y.buf] := by rw [← edv]; rfl
    obtain ⟨Y, hY⟩ : ∃ Y, Y = y.cells := ⟨_, rfl⟩
    have eY : Y = [.int .i64 y.at_, .slice da dn dc, .bool y.last, .int .i64 y.buf] := by rw [hY, ← edv]; rfl
    have LY : Hid (Y.length = 4) := by rw [hY]; exact rfl
    rw [ey]
    have HI := hide hI
    clear hI ey
    gi_wp2
    refine ⟨KeepsFrom.of_but ((But.refl (fun _ => False) W').alloc _) (fun _ e => e.elim), ?_⟩
    intro o o' hoo hc
    obtain ⟨p, hp⟩ : ∃ p, p = W'.heap.size := ⟨_, rfl⟩
    rw [← hp]
    have cA : CellsAt (W'.alloc (.cells #[.int .i64 y.at_, .slice da dn dc, .bool y.last, .int .i64 y.buf] 80)) p 0 Y := by rw [hp, eY]; exact CellsAt.new W' _ _
    have bA : But (fun _ => False) w1 (W'.alloc (.cells #[.int .i64 y.at_, .slice da dn dc, .bool y.last, .int .i64 y.buf] 80)) := HI.out.1.alloc _
    generalize W'.alloc (.cells #[.int .i64 y.at_, .slice da dn dc, .bool y.last, .int .i64 y.buf] 80) = WA at *
    have pl : p ≠ l := (show Cel WA p from cells_of_cell (cA 0 (.int .i64 y.at_) (by rw [eY]; rfl))).ne hoo hc
    have lA : p < WA.heap.size := cA.lt (by rw [LY.out]; decide)
    have hb : But (fun _ => False) w1 (WA.putObj l o') := bA.put hlS o'
    have c2 : CellsAt (WA.putObj l o') p 0 Y := cA.but lA (put_but WA l o') pl
    have HNO := hide HI.out.2
    clear hoo hc HI cA lA bA
    generalize WA.putObj l o' = W2 at *
    have cX2 := cI.but (by omega) hb id
    have r2 : W2.cell? ⟨s + 1, 0, none⟩ = some (.bool false) := (hb.cell (p := ⟨s + 1, 0, none⟩) (by show s + 1 < _; omega) id).trans cB
    have f2 : W2.frozen? ⟨s + 1, 0, none⟩ = false := (hb.frozen (p := ⟨s + 1, 0, none⟩) (by show s + 1 < _; omega) id).trans fB
    have xo : x.Ok P W2 := ⟨HXO.out.d.but hb (fun _ _ => id), HXO.out.lo, HXO.out.hi⟩
    have yo0 := HCON.out y (List.mem_of_getElem? hy)
    have yo : y.Ok CO W2 := ⟨yo0.d.but hb (fun _ _ => id), yo0.lo, yo0.hi⟩
    have CL := odds_any x y W2 xo yo
    rw [← HX.out, ← hY] at CL
    obtain ⟨q, hq⟩ : ∃ q, q = odds x y := ⟨_, rfl⟩
    rw [← hq] at CL
    refine wpIn_block ?_
    refine wpIn_seq ?_
    refine wpIn_region_lit ?_
    refine listV (w' := W2) 9 (.agg X.toArray) rfl rfl rfl (exec_loadA 80 4 aggPc sizPc _ rfl s 0 rfl X LX.out cX2) ?_
    try simp only [Act.put, List.setIfInBounds_toArray, List.set_cons_zero, List.set_cons_succ]
    refine listV (w' := W2) 10 (.agg Y.toArray) rfl rfl rfl (exec_loadA 80 4 aggPc sizPc _ rfl p 0 rfl Y LY.out c2) ?_
    try simp only [Act.put, List.setIfInBounds_toArray, List.set_cons_zero, List.set_cons_succ]
    refine listC 11 47 #[.agg X.toArray, .agg Y.toArray] rfl rfl rfl (by kernel_rfl) (fun v' w2 => v' = .bool q ∧ Below W2.heap.size W2 w2) (CL.mono (fun e w2 h => ⟨_, h.1, rfl, h.2⟩)) ?_
    rintro _ W3 ⟨rfl, b3⟩
    simp only [Act.put, List.setIfInBounds_toArray, List.set_cons_zero, List.set_cons_succ]
    have r3 : W3.cell? ⟨s + 1, 0, none⟩ = some (.bool false) := (b3.cell (p := ⟨s + 1, 0, none⟩) (World.block_lt_of_cell? W2 _ r2)).trans r2
    have f3 : W3.frozen? ⟨s + 1, 0, none⟩ = false := (b3.frozen (p := ⟨s + 1, 0, none⟩) (World.block_lt_of_cell? W2 _ r2)).trans f2
    have HB3 : Hid (But (fun _ => False) w1 W3) := hb.trans (But.of_below b3)
    have HBD : Hid (But (fun _ => False) W2 W3) := But.of_below b3
    have HQ := hide hq
    have HY := hide hy
    clear CL b3 hb xo yo yo0 r2 f2 hq cX2 c2 hY eY edv hy
    cases q with
    | true =>
      gi_wp2
      refine ⟨?_, rfl, ⟨y, List.mem_of_getElem? HY.out, HQ.out.symm⟩, But.cellb (K := Only (s + 1)) (b := s + 1) (HB3.out.mono (fun _ e => e.elim)) rfl 0 _, ?_⟩
      · exact (KeepsFrom.of_but HBD.out (fun _ e => e.elim)).trans (KeepsFrom.of_but (K := Only (s + 1)) ((But.refl (Only (s + 1)) _).cellb (b := s + 1) rfl 0 _) (fun g e => by have e : g = s + 1 := e; subst e; exact cells_of_cell r3))
      · exact World.cell?_setCell_same' _ _ _ (by rw [r3]; rfl)
    | false =>
      gi_wp2
      refine ⟨KeepsFrom.of_but HBD.out (fun _ e => e.elim), k + 1, rfl, HB3.out, fun j z hj hz => ?_⟩
      by_cases e : j = k
      · subst e
        rw [HY.out] at hz
        cases hz
        exact HQ.out.symm
      · exact HNO.out j z (by omega) hz
  case done =>
    rintro D' k W hD rfl hI hK
    have hHS := HS.out
    have hb := hI.1
    have r2 : W.cell? ⟨s + 1, 0, none⟩ = some (.bool false) := (hb.cell (p := ⟨s + 1, 0, none⟩) (by show s + 1 < _; omega) id).trans cB
    have f2 : W.frozen? ⟨s + 1, 0, none⟩ = false := (hb.frozen (p := ⟨s + 1, 0, none⟩) (by show s + 1 < _; omega) id).trans fB
    have HB : Hid (Below w.heap.size w W) := HB0.out.trans (hb.below (by omega) (fun _ _ e => e))
    have HN := hide hI.2
    clear hI hb cI cL1 cC cB fB hHS
    gi_wp2
    have hHS := HS.out
    have hK2 : (W.setCell ⟨s + 1, 0, none⟩ (.bool false)).heap[D']? = some (Obj.deferred (some [])) := (Below.heap_setCell _ _ _ _ (by simp; omega)).trans hK
    have hc2 : (W.setCell ⟨s + 1, 0, none⟩ (.bool false)).cell? ⟨s + 1, 0, none⟩ = some (.bool false) := World.cell?_setCell_same' _ _ _ (by rw [r2]; rfl)
    have hc3 := cell_kept hc2 (grownBy_putObj' _ D' (.deferred none)) (fun r e => by cases e; exact ⟨_, hK2, rfl⟩)
    have hb3 := (HB.out.setCell (p := ⟨s + 1, 0, none⟩) (by simp; omega) (.bool false)).grown (grownBy_putObj' _ D' (.deferred none)) (by have := HB.out.size; simp; omega) (fun r e => by cases e; omega)
    refine ⟨by simp, .inl ⟨_, _, rfl, run_takeDeferred hK2, ?_⟩⟩
    refine ⟨.bool false, ?_, ?_, hb3⟩
    · simp [results, asAddr, go_sem, hc3]
    · rw [any_none HN.out]
  case stop =>
    rintro D' c W hD ⟨rfl, hex, hb, hc⟩ hK
    have hHS := HS.out
    have HB : Hid (Below w.heap.size w W) := HB0.out.trans (hb.below (by omega) (fun q hq e => by have e : q = s + 1 := e; omega))
    have HF : Hid (L.any (odds x) = true) := List.any_eq_true.2 hex
    clear hex hb cI cL1 cC cB fB hHS
    gi_wp2
    have hHS := HS.out
    have hc3 := cell_kept hc (grownBy_putObj' _ D' (.deferred none)) (fun r e => by cases e; exact ⟨_, hK, rfl⟩)
    have hb3 := HB.out.grown (grownBy_putObj' _ D' (.deferred none)) (by have := HB.out.size; omega) (fun r e => by cases e; omega)
    refine ⟨by simp, .inl ⟨_, _, rfl, run_takeDeferred hK, ?_⟩⟩
    refine ⟨.bool true, ?_, ?_, hb3⟩
    · simp [results, asAddr, go_sem, hc3]
    · rw [HF.out]
theorem overlaps_any {w : World} {b : Nat} {RO CO P : Nat → Prop} {m : Gm} (h : GmAt w b RO CO m) (x : Pc) (hx : x.Ok P w) : Calls Try.prog 36 #[.pointer (some ⟨b, 0, none⟩), .agg x.cells.toArray] w fun e w' => e = .returned (.bool (m.L.any (odds x))) ∧ Below w.heap.size w w' :=
  callsIn_wide.1 (overlaps_in 3 (Nat.le_refl _) h x hx)
end Go.Proofs.Ytgempelfamjabaa
