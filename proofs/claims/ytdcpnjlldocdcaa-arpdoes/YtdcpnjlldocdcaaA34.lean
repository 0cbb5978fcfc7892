
/-
  Package arp: the contract of All.
-/
import Derived.Test.YtdcpnjlldocdcaaA31
namespace Go.Proofs.Ytdcpnjlldocdcaa
open Go.RowKit Go.Shelf
attribute [local go_sem] Oper.semAt_some

section
variable {l n : Nat} {ops : Array Oper} {rest : List Oper} {o : Oper} {a : Act} {w w' : World} {Q : Exit → Act → World → Prop}
/-- an operation of a region that keeps its order, in a round: a value, a store, a call -/
theorem listV (d : Tmp) (v : Value) (hgd : o.guard = none) (hnd : noDefer o = true) (hd : o.dst = some d) (hrun : (execOp a.eval o).run Try.prog w = .ok (.value v) w') (h : wpListIn (Fence.wide.inRound l) n Try.prog ops Q rest (a.put (some d) v) w') : wpListIn (Fence.wide.inRound l) n Try.prog ops Q (o :: rest) a w := by
  refine wpListIn_plain hgd fun K hK => ⟨fun _ _ => trivial, ?_⟩
  rw [Oper.semAt_eq _ _ _ (fun c e => by unfold noDefer at hnd; rw [e] at hnd; cases hnd), hrun]
  simp only [Oper.uponIn, hd]
  exact hK _ _ h
theorem listS (hgd : o.guard = none) (hnd : noDefer o = true) (hd : o.dst = none) (hrun : (execOp a.eval o).run Try.prog w = .ok .skip w') (h : wpListIn (Fence.wide.inRound l) n Try.prog ops Q rest a w') : wpListIn (Fence.wide.inRound l) n Try.prog ops Q (o :: rest) a w := by
  refine wpListIn_plain hgd fun K hK => ⟨fun _ _ => trivial, ?_⟩
  rw [Oper.semAt_eq _ _ _ (fun c e => by unfold noDefer at hnd; rw [e] at hnd; cases hnd), hrun]
  simp only [Oper.uponIn, hd, Act.put]
  exact hK _ _ h
theorem listC (d : Tmp) (F : FuncId) (vals : Array Value) (hgd : o.guard = none) (hnd : noDefer o = true) (hd : o.dst = some d) (hrun : (execOp a.eval o).run Try.prog w = .ok (.enter F vals) w') (R : Value → World → Prop) (hC : Calls Try.prog F vals w' fun e w2 => ∃ v, e = .returned v ∧ R v w2)
    (h : ∀ v w2, R v w2 → wpListIn (Fence.wide.inRound l) n Try.prog ops Q rest (a.put (some d) v) w2) : wpListIn (Fence.wide.inRound l) n Try.prog ops Q (o :: rest) a w := by
  refine wpListIn_plain hgd fun K hK => ⟨fun _ _ => trivial, ?_⟩
  rw [Oper.semAt_eq _ _ _ (fun c e => by unfold noDefer at hnd; rw [e] at hnd; cases hnd), hrun]
  simp only [Oper.uponIn, hd]
  refine ⟨fun h => by simp [Fence.wide] at h, callsIn_round (hC.mono ?_)⟩
  rintro _ w2 ⟨v, rfl, hR⟩
  exact hK _ _ (h v w2 hR)
end
theorem exec_allocN {o : Oper} {w : World} {ev : Operand → Value} (ho : o.op = .alloc 66) : (execOp ev o).run Try.prog w = .ok (.value (.pointer (some ⟨w.heap.size, 0, none⟩))) (w.alloc (.cells zN.toArray 66)) := by
  unfold execOp
  rw [ho]
  kernel_rfl
/-- between two rounds; τ: 1 the list's block, q + 2 those that wait for the q-th -/
def AlI (w1 : World) (s : Nat) (L : List Nb) (j : Nat) (W : World) : Prop :=
  But (Only s) w1 W ∧ W.frozen? ⟨s, 0, none⟩ = false ∧ ∃ (τ : Nat → Nat) (v : Value) (V : Nat → Value), W.cell? ⟨s, 0, none⟩ = some v ∧ (∀ h, τ h ≠ 0 → w1.heap.size ≤ h ∧ h < W.heap.size) ∧ RowF 15 (fun h => τ h = 1 ∧ Cel W h) W v j (nbl L V) ∧
    ∀ q x, q < j → L[q]? = some x → RowN (fun h => τ h = q + 2 ∧ Cel W h) W (V q) x.pd ∧ (x.pd = [] → V q = .slice none 0 0)
theorem AlI.keep {w1 : World} {s : Nat} {L : List Nb} {j : Nat} {W W' : World} {K : Nat → Prop} (h : AlI w1 s L j W) (hs : s < w1.heap.size) (hb : But K W W') (hk : ∀ g, K g → w1.heap.size ≤ g ∧ ¬ Cel W g) : AlI w1 s L j W' := by
  obtain ⟨h1, h2, τ, v, V, h3, h4, h5, h6⟩ := h
  have ns : ¬ K s := fun e => by have := (hk s e).1; omega
  have hl : s < W.heap.size := by have := h1.size; omega
  have hz := hb.size
  refine ⟨h1.trans' hb (fun q hq e => by have := (hk q e).1; omega), (hb.frozen (p := ⟨s, 0, none⟩) hl ns).trans h2, τ, v, V, (hb.cell (p := ⟨s, 0, none⟩) hl ns).trans h3, fun g hg => ⟨(h4 g hg).1, by have := (h4 g hg).2; omega⟩, (h5.but hb (fun g e e2 => (hk g e2).2 e.2)).own (fun g _ e => ⟨e.1, e.2.but hb (fun e2 => (hk g e2).2 e.2)⟩), fun q x hq hx => ⟨((h6 q x hq hx).1.but hb (fun g e e2 => (hk g e2).2 e.2)).own (fun g _ e => ⟨e.1, e.2.but hb (fun e2 => (hk g e2).2 e.2)⟩), (h6 q x hq hx).2⟩⟩
set_option maxRecDepth 100000 in
set_option maxHeartbeats 4000000 in
theorem all_in (n : Nat) (hn : 3 ≤ n) {ρ : Nat → Role} {k : Nat} {w : World} {b : Nat} {m : M6} {i : I4} {lv0 : Value} {Lt : List (Nat × Nb)} (h : CAt ρ k w b m i lv0 Lt) (hl : Lt.length ≤ 8) (hpd : ∀ x ∈ Lt.map Prod.snd, x.pd.length ≤ 2) :
    CallsIn Fence.wide n Try.prog 22 #[.pointer (some ⟨b, 0, none⟩)] w fun e w' => ∃ (v : Value) (V : Nat → Value) (τ : Nat → Nat), e = .returned v ∧ RowF 15 (fun g => w.heap.size ≤ g ∧ τ g = 1) w' v Lt.length (nbl (Lt.map Prod.snd) V) ∧ (∀ q x, (Lt.map Prod.snd)[q]? = some x → RowN (fun g => w.heap.size ≤ g ∧ τ g = q + 2) w' (V q) x.pd) ∧ Below w.heap.size w w' := by
  have h1 : 1 ≤ n := by omega
  have hblt : b < w.heap.size := h.lt
  obtain ⟨V0, hR0, hP0⟩ := h.row.parts
  obtain ⟨a0, c0, rfl⟩ := hR0.shape
  obtain ⟨g, hg⟩ : ∃ g, 0 < Lt.length → a0 = some ⟨g, 0, none⟩ ∧ g < w.heap.size ∧ ∀ q, q < Lt.length → CellsAt w g (q * 15) (nbc Lt V0 q) := by
    by_cases e : 0 < Lt.length
    · obtain ⟨g, h1, h2, h3, h4, h5⟩ := hR0.at e
      exact ⟨g, fun _ => ⟨h1, h2, h5⟩⟩
    · exact ⟨0, fun e' => absurd e' e⟩
  have cL := h.lst
  refine callsIn_of_wp_marks Try.func22 rfl trivial ?_ rfl
  simp only [Try.ntmps22, List.size_toArray, List.length_cons, List.length_nil, Nat.reduceAdd, Nat.reduceSub, Array.replicate_succ, Array.replicate_zero, List.push_toArray, List.append_toArray, List.nil_append, List.cons_append]
  have HG := hide hg
  have HP0 := hide hP0
  have HPD := hide hpd
  clear hg hR0 hP0 hpd
  gi_wp2_with fail
  refine ⟨trivial, ?_⟩
  refine (neighbours_in (n - 1) b _).mono ?_
  rintro e w' ⟨rfl, rfl⟩
  simp only [World.size_alloc]
  obtain ⟨s, hs⟩ : ∃ s, s = w.heap.size := ⟨_, rfl⟩
  rw [← hs]
  obtain ⟨w1, hw1⟩ : ∃ w1, w1 = boxes [(.slice none 0 0, 41), (.pointer (some ⟨b, 0, none⟩), 37)] w := ⟨_, rfl⟩
  have hbx := boxes_at [(.slice none 0 0, 41), (.pointer (some ⟨b, 0, none⟩), 37)] w
  obtain ⟨hb1, hz0⟩ := boxes_below [(.slice none 0 0, 41), (.pointer (some ⟨b, 0, none⟩), 37)] w
  rw [← hw1, ← hs] at hbx
  rw [← hw1] at hb1 hz0
  have hz1 : w1.heap.size = s + 2 := by rw [hz0, hs]; rfl
  clear hz0
  have k0 := hbx 0 _ _ rfl
  have cB : w1.cell? ⟨s + 1, 0, none⟩ = some (.pointer (some ⟨b, 0, none⟩)) := (hbx 1 _ _ rfl).1
  have hw1' := hw1.symm
  simp only [boxes] at hw1'
  rw [hw1']
  have cL1 := (hb1.cell (p := ⟨b, 10, none⟩) hblt).trans cL
  have I0 : AlI w1 s (Lt.map Prod.snd) 0 w1 := ⟨But.refl _ _, k0.2, fun _ => 0, _, V0, k0.1, fun h e => absurd rfl e, RowF.nil _ _ _ _, fun q x hq => by omega⟩
  have HB1 := hide hb1
  have HS := hide hs
  have HZ1 := hide hz1
  have HW := hide hblt
  have sl : Hid (s < w1.heap.size) := by unfold Hid; omega
  have CL1 := hide cL1
  have CB := hide cB
  clear hs hw1 hw1' hbx hb1 k0 cL hz1 hblt cL1 cB
  gi_wp2
  refine wpIn_range h1 (gf := 46) (lb := #[.pointer (some ⟨s + 1, 0, none⟩)]) rfl (enters_of Try.func46 (by kernel_rfl) rfl) (AlI w1 s (Lt.map Prod.snd)) (fun _ _ => False) 0
    (neighbours_tells (n - 1) (by omega) (s + 1) b g Lt.length c0 a0 (fun hl => (HG.out hl).1) (by omega) _ (fun j W hI => ⟨(hI.1.cell (p := ⟨s + 1, 0, none⟩) (by have := HZ1.out; show s + 1 < _; omega) (fun e => by have e : s + 1 = s := e; omega)).trans CB.out, (hI.1.cell (p := ⟨b, 10, none⟩) (by have := HS.out; have := HW.out; have := HZ1.out; show b < _; omega) (fun e => by have e : b = s := e; have := HS.out; have := HW.out; omega)).trans CL1.out⟩))
    (fun j args ⟨_, e⟩ => by rw [e]; rfl) (fun j W o hI => hI.keep sl.out ((But.refl (fun _ => False) W).alloc o) (fun _ e => e.elim)) (fun j W l o o' hl ho hc hI => hI.keep sl.out (put_but W l o') (fun q e => by subst e; exact ⟨hl, fun hcc => hcc.ne ho hc rfl⟩)) (fun c W o h => h.elim) (fun c W l o o' hl ho hc h => h.elim) (fun c W h => h.elim) I0 ?round ?done ?stop
  case stop => intro D c W _ h; exact h.elim
  case done =>
    intro D j W hD hj hI hDW
    subst hj
    obtain ⟨hbW, hfz, τ, v, V, cv, hτ, rv, rp⟩ := hI
    have z1 := HZ1.out
    have hsW := HS.out
    obtain ⟨xa, xc, hxv⟩ := rv.shape
    have nD : ¬ Cel W D := fun e => e.ne hDW rfl rfl
    have zW := hbW.size
    have bp := put_but W D (.deferred none)
    have FE : Hid (RowF 15 (fun q => w.heap.size ≤ q ∧ τ q = 1) (W.putObj D (.deferred none)) v Lt.length (nbl (Lt.map Prod.snd) V) ∧ (∀ q x, (Lt.map Prod.snd)[q]? = some x → RowN (fun g => w.heap.size ≤ g ∧ τ g = q + 2) (W.putObj D (.deferred none)) (V q) x.pd) ∧ Below w.heap.size w (W.putObj D (.deferred none))) :=
      ⟨(rv.but bp (fun q e e2 => by rw [e2] at e; exact nD e.2)).own (fun q _ e => ⟨by have := (hτ q (by rw [e.1]; omega)).1; omega, e.1⟩), fun q x hx => ((rp q x (by have := (List.getElem?_eq_some_iff.1 hx).1; simpa using this) hx).1.but bp (fun q e e2 => by rw [e2] at e; exact nD e.2)).own (fun g _ e => ⟨by have := (hτ g (by rw [e.1]; omega)).1; omega, e.1⟩), (HB1.out.trans (hbW.below HB1.out.size (fun q hq e => by have e : q = s := e; omega))).trans (bp.below (by have := HB1.out.size; omega) (fun q hq e => by omega))⟩
    have HDW := hide hDW
    rw [hxv] at cv FE
    clear hbW hfz rv rp hτ hDW nD bp z1 hsW zW hD
    gi_wp2
    refine ⟨by simp, .inl ⟨_, _, rfl, run_takeDeferred HDW.out, ?_⟩⟩
    exact ⟨_, by simp [results, go_sem], _, V, τ, rfl, FE.out⟩
  case round =>
    rintro l j args W' hlS hI ⟨hj, rfl⟩
    obtain ⟨⟨t, x⟩, hx⟩ : ∃ p, Lt[j]? = some p := ⟨_, List.getElem?_eq_getElem hj⟩
    have HI := hide hI
    clear hI
    gi_wp2
    refine ⟨KeepsFrom.refl _ _, ?_⟩
    intro o o' hoo hc
    have hI2 : AlI w1 s (Lt.map Prod.snd) j (W'.putObj l o') := HI.out.keep sl.out (put_but W' l o') (fun q e => by subst e; exact ⟨hlS, fun hcc => hcc.ne hoo hc rfl⟩)
    clear hoo hc HI
    generalize W'.putObj l o' = W2 at *
    refine wpIn_block ?_
    refine wpIn_seq ?_
    obtain ⟨hbW, hfz, τ, v, V, cv, hτ, rv, rp⟩ := hI2
    have hl0 : 0 < Lt.length := by omega
    have z1 := HZ1.out
    have zW := hbW.size
    have hgs := (HG.out hl0).2.1
    have hsW := HS.out
    have h5 := (HG.out hl0).2.2 j hj
    rw [nbc_at hx] at h5
    have ngs : ¬ Only s g := fun e => by have e : g = s := e; omega
    have cx := (h5.later hgs HB1.out).but (by omega) hbW ngs
    have hX2 := HPD.out x (List.mem_map.2 ⟨_, List.mem_of_getElem? hx, rfl⟩)
    obtain ⟨hrow0, hnil⟩ := HP0.out j t x hx
    have hrow : RowN (fun q => q < w.heap.size) W2 (V0 j) x.pd := ((hrow0.own (O' := fun q => q < w.heap.size) (fun q hq _ => hq)).later HB1.out).but hbW (fun q e e2 => by have e2 : q = s := e2; omega)
    obtain ⟨va, vc, hV⟩ := hrow.shape
    have hxm : (Lt.map Prod.snd)[j]? = some x := by rw [List.getElem?_map, hx]; rfl
    have hls : s < W2.heap.size := World.block_lt_of_cell? W2 _ cv
    -- the copy
    obtain ⟨p, hp⟩ : ∃ p, p = W2.heap.size := ⟨_, rfl⟩
    obtain ⟨wA, hwA⟩ : ∃ z, z = W2.alloc (.cells zN.toArray 66) := ⟨_, rfl⟩
    have bA : Below W2.heap.size W2 wA := by rw [hwA]; exact (Below.refl _ _).alloc (Nat.le_refl _) _
    have zA : wA.heap.size = p + 1 := by rw [hwA, hp]; simp
    have cA : CellsAt wA p 0 zN := by rw [hwA, hp]; exact CellsAt.new W2 zN 66
    have fA : ∀ y, wA.frozen? ⟨p, y, none⟩ = false := fun y => by rw [hwA, hp]; exact frozen_new W2 _ _ _
    have one1 := nb_one x (V0 j) hrow.one
    obtain ⟨wB, hwB⟩ : ∃ z, z = wA.setCells p 0 (x.cells (V0 j)) := ⟨_, rfl⟩
    have nB : But (Only p) wA wB := by rw [hwB]; exact But.cells p _ 0 wA
    have zB : wB.heap.size = p + 1 := by rw [hwB, size_setCells]; exact zA
    have cB : CellsAt wB p 0 (x.cells (V0 j)) := by rw [hwB]; exact cA.stored rfl
    have fB : ∀ y, wB.frozen? ⟨p, y, none⟩ = false := fun y => by rw [hwB, World.frozen?_setCells]; exact fA y
    have bB : But (fun _ => False) W2 wB := ⟨nB.os.trans bA.os, nB.tape.trans bA.tape, nB.output.trans bA.output, Nat.le_trans bA.size nB.size, fun q hq _ => (nB.block q (Nat.lt_of_lt_of_le hq bA.size) (fun e => by have e : q = p := e; omega)).trans (bA.block q hq)⟩
    have cxB : wB.cell? ⟨g, j * 15 + 14, none⟩ = some (V0 j) := (bB.cell (p := ⟨g, j * 15 + 14, none⟩) (by show g < _; omega) id).trans (cx 14 _ rfl)
    have CL := Clone_any (hrow.but bB (fun _ _ => id)) hnil (by omega)
    refine wpIn_region_lit ?_
    refine listV (w' := W2) 9 (.pointer (some ⟨g, j * 15, none⟩)) rfl rfl rfl (exec_move _ _ rfl rfl) ?_
    try simp only [Act.put, List.setIfInBounds_toArray, List.set_cons_zero, List.set_cons_succ]
    refine listV (w' := W2) 10 (.pointer (some ⟨g, j * 15, none⟩)) rfl rfl rfl (exec_nil _ _ rfl rfl) ?_
    try simp only [Act.put, List.setIfInBounds_toArray, List.set_cons_zero, List.set_cons_succ]
    refine listV (w' := W2) 11 (.agg (x.cells (V0 j)).toArray) rfl rfl rfl (exec_loadA 66 15 aggN sizN _ rfl g (j * 15) rfl (x.cells (V0 j)) rfl (cx)) ?_
    try simp only [Act.put, List.setIfInBounds_toArray, List.set_cons_zero, List.set_cons_succ]
    refine listV (w' := wA) 5 (.pointer (some ⟨p, 0, none⟩)) rfl rfl rfl (by rw [hwA, hp]; exact exec_allocN rfl) ?_
    try simp only [Act.put, List.setIfInBounds_toArray, List.set_cons_zero, List.set_cons_succ]
    refine listS (w' := wB) rfl rfl rfl (by rw [hwB]; exact exec_storeA 66 15 sizN _ _ rfl p 0 rfl (x.cells (V0 j)) zN rfl rfl rfl cA fA one1) ?_
    refine wpIn_seq ?_
    refine wpIn_region_lit ?_
    refine listV (w' := wB) 12 (.pointer (some ⟨g, j * 15, none⟩)) rfl rfl rfl (exec_move _ _ rfl rfl) ?_
    try simp only [Act.put, List.setIfInBounds_toArray, List.set_cons_zero, List.set_cons_succ]
    refine listV (w' := wB) 13 (.pointer (some ⟨g, j * 15, none⟩)) rfl rfl rfl (exec_nil _ _ rfl rfl) ?_
    try simp only [Act.put, List.setIfInBounds_toArray, List.set_cons_zero, List.set_cons_succ]
    refine listV (w' := wB) 14 (.pointer (some ⟨g, j * 15 + 14, none⟩)) rfl rfl rfl (exec_fieldO 66 _ 6 g (j * 15) (j * 15 + 14) rfl rfl (fun w => by kernel_rfl)) ?_
    try simp only [Act.put, List.setIfInBounds_toArray, List.set_cons_zero, List.set_cons_succ]
    refine listV (w' := wB) 15 (V0 j) rfl rfl rfl (exec_load1 54 oneI _ rfl g (j * 15 + 14) rfl (V0 j) (cxB)) ?_
    try simp only [Act.put, List.setIfInBounds_toArray, List.set_cons_zero, List.set_cons_succ]
    refine listC 16 40 #[V0 j] rfl rfl rfl (by kernel_rfl) (fun v' w2 => RowN (fun g => wB.heap.size ≤ g) w2 v' x.pd ∧ (x.pd = [] → v' = .slice none 0 0) ∧ Below wB.heap.size wB w2) (CL.mono (fun e w2 h => h)) ?_
    rintro v' wC ⟨rC, nilC, bC⟩
    simp only [Act.put, List.setIfInBounds_toArray, List.set_cons_zero, List.set_cons_succ]
    obtain ⟨ca, cc, hvC⟩ := rC.shape
    have cC : CellsAt wC p 0 (x.cells (V0 j)) := cB.later (by omega) bC
    have fC : ∀ y, wC.frozen? ⟨p, y, none⟩ = false := fun y => (bC.frozen (p := ⟨p, y, none⟩) (by show p < _; omega)).trans (fB y)
    have zC := bC.size
    obtain ⟨wD, hwD⟩ : ∃ z, z = wC.setCell ⟨p, 14, none⟩ v' := ⟨_, rfl⟩
    have nD : But (Only p) wC wD := by rw [hwD]; exact (But.refl (Only p) wC).setCell (p := ⟨p, 14, none⟩) (.inr rfl) _
    have zD : wD.heap.size = wC.heap.size := by rw [hwD]; simp
    have cD : CellsAt wD p 0 (x.cells v') := by
      have := cC.put 14 v' (by rw [Nb.cells_len]; omega)
      rw [Nat.zero_add] at this
      rw [hwD]; exact this
    have rD := rC.but nD (fun q e e2 => by have e2 : q = p := e2; omega)
    have bD : But (fun _ => False) W2 wD := ⟨nD.os.trans ((But.of_below (K := fun _ => False) bC).os.trans bB.os), nD.tape.trans ((But.of_below (K := fun _ => False) bC).tape.trans bB.tape), nD.output.trans ((But.of_below (K := fun _ => False) bC).output.trans bB.output), Nat.le_trans bB.size (Nat.le_trans bC.size nD.size), fun q hq _ => (nD.block q (by have := bB.size; omega) (fun e => by have e : q = p := e; omega)).trans ((bC.block q (by have := bB.size; omega)).trans (bB.block q hq id))⟩
    have cvD : wD.cell? ⟨s, 0, none⟩ = some v := (bD.cell (p := ⟨s, 0, none⟩) hls id).trans cv
    obtain ⟨p2, hp2⟩ : ∃ p2, p2 = wD.heap.size := ⟨_, rfl⟩
    obtain ⟨wE, hwE⟩ : ∃ z, z = wD.alloc (.cells (x.cells (.slice ca x.pd.length cc)).toArray 66) := ⟨_, rfl⟩
    have zE : wE.heap.size = p2 + 1 := by rw [hwE, hp2]; simp
    have nE : But (fun _ => False) wD wE := by rw [hwE]; exact (But.refl _ _).alloc _
    have bE : But (fun _ => False) W2 wE := bD.trans nE
    have cE : CellsAt wE p2 0 (x.cells (.slice ca x.pd.length cc)) := by rw [hwE, hp2]; exact CellsAt.new wD _ 66
    have one2 := nb_one x (.slice ca x.pd.length cc) rfl
    obtain ⟨i0, hi, hz0, hz1, hz2⟩ := info_parts info_nb
    have hjl : ∀ q, q < j → q < (Lt.map Prod.snd).length := fun q hq => by rw [List.length_map]; omega
    obtain ⟨a', c', wF, hrun, rF, hbF⟩ := (rv.but bE (fun _ _ => id)).push 41 66 i0 _ Try.underlying41 hi hz0 hz1 (by omega) rfl (fun q hq => nbl_len (hjl q hq)) (fun q hq => by
      rw [nbl_at (List.getElem?_eq_getElem (hjl q hq))]
      exact nb_one _ _ (rp q _ hq (List.getElem?_eq_getElem (hjl q hq))).1.one) (x.cells (.slice ca x.pd.length cc)) rfl one2 p2 cE (by omega)
    have zF := hbF.size
    have zBs := bB.size
    have ns1 : ¬ (τ s = 1 ∧ Cel W2 s) := fun e => by have := (hτ s (by rw [e.1]; omega)).1; omega
    have cvE : wE.cell? ⟨s, 0, none⟩ = some v := (nE.cell (p := ⟨s, 0, none⟩) (by have := bD.size; show s < _; omega) id).trans cvD
    have cvF : wF.cell? ⟨s, 0, none⟩ = some v := (hbF.cell (p := ⟨s, 0, none⟩) (by have := bE.size; show s < _; omega) ns1).trans cvE
    have fvF : wF.frozen? ⟨s, 0, none⟩ = false := (hbF.frozen (p := ⟨s, 0, none⟩) (by have := bE.size; show s < _; omega) ns1).trans ((bE.frozen (p := ⟨s, 0, none⟩) hls id).trans hfz)
    obtain ⟨wG, hwG⟩ : ∃ z, z = wF.setCell ⟨s, 0, none⟩ (.slice a' (j + 1) c') := ⟨_, rfl⟩
    have nG : But (Only s) wF wG := by rw [hwG]; exact (But.refl (Only s) wF).setCell (p := ⟨s, 0, none⟩) (.inr rfl) _
    have zG : wG.heap.size = wF.heap.size := by rw [hwG]; simp
    have FIN : KeepsFrom w1.heap.size W2 wG ∧ AlI w1 s (Lt.map Prod.snd) (j + 1) wG := by
      refine ⟨keeps_trans (KeepsFrom.of_but bE (fun _ e => e.elim)) (keeps_trans (KeepsFrom.of_but hbF (fun q e => e.2.but bE id)) (KeepsFrom.of_but nG (fun q e => by have e : q = s := e; rw [e]; exact cells_of_cell cvF))), ((hbW.trans (bE.mono (fun _ e => e.elim))).trans' hbF (fun q hq e => by have := (hτ q (by rw [e.1]; omega)).1; omega)).trans nG, by rw [hwG, setCell_one, World.frozen?_setCells]; exact fvF, ?_⟩
      have bEG : But (fun q => (τ q = 1 ∧ Cel W2 q) ∨ q = s) wE wG := (hbF.mono (fun _ e => .inl e)).trans (nG.mono (fun _ e => .inr e))
      have bWG : But (fun q => (τ q = 1 ∧ Cel W2 q) ∨ q = s) W2 wG := (bE.mono (fun _ e => e.elim)).trans bEG
      obtain ⟨τ', hτ'⟩ : ∃ τ' : Nat → Nat, ∀ h, τ' h = if wB.heap.size ≤ h ∧ h < wC.heap.size then j + 2 else if h = wE.heap.size ∧ h < wF.heap.size then 1 else τ h := ⟨_, fun _ => rfl⟩
      have tk : ∀ h, τ h ≠ 0 → τ' h = τ h := fun h e => by have := (hτ h e).2; rw [hτ', if_neg (by omega), if_neg (by omega)]
      refine ⟨τ', _, fun q => if q = j then .slice ca x.pd.length cc else V q, by rw [hwG]; exact World.cell?_setCell_same _ _ _ cvF, fun h e => ?_, ?_, fun q y hq hy => ?_⟩
      · rw [hτ'] at e
        split at e
        · omega
        · split at e
          · omega
          · have := hτ h e; omega
      · have r1 := (rF.own (O' := fun h => τ' h = 1 ∧ h ≠ s) (fun h hh e => by
          rcases e with e | e
          · exact ⟨(tk h (by rw [e.1]; omega)).trans e.1, fun e2 => ns1 (e2 ▸ e)⟩
          · exact ⟨by rw [hτ', if_neg (by omega), if_pos ⟨e, hh⟩], by omega⟩)).but nG (fun h e e2 => e.2 e2)
        refine ((r1.cel (by omega) (by omega)).own (fun h _ e => ⟨e.1.1, e.2⟩)).cong (fun q hq => ?_)
        by_cases eq : q < j
        · rw [if_pos eq]
          unfold nbl
          cases (Lt.map Prod.snd)[q]? with
          | none => rfl
          | some y => simp only [if_neg (show ¬ q = j by omega)]
        · have : q = j := by omega
          subst this
          rw [if_neg eq, nbl_at hxm]
          simp
      · by_cases eq : q = j
        · subst eq
          rw [hxm] at hy
          cases hy
          simp only [if_true]
          rw [← hvC]
          refine ⟨?_, nilC⟩
          by_cases he : x.pd = []
          · rw [nilC he, he]; exact RowN.nil _ _
          · have hpp : 0 < x.pd.length := by cases hq' : x.pd with
              | nil => exact absurd hq' he
              | cons y ys => simp
            have r2 := ((rC.own (O' := fun h => wB.heap.size ≤ h ∧ h < wC.heap.size) (fun h hh e => ⟨e, hh⟩)).but nD (fun h e e2 => by have e2 : h = p := e2; omega)).but nE (fun _ _ => id)
            have r3 := r2.but bEG (fun h e e2 => by
              rcases e2 with e2 | e2
              · have := (hτ h (by rw [e2.1]; omega)).2; omega
              · omega)
            exact (r3.cel hpp).own (fun h _ e => ⟨by rw [hτ', if_pos e.1], e.2⟩)
        · simp only [if_neg eq]
          have hq2 : q < j := by omega
          obtain ⟨r1, r2⟩ := rp q y hq2 hy
          have no : ∀ h, τ h = q + 2 ∧ Cel W2 h → ¬ ((τ h = 1 ∧ Cel W2 h) ∨ h = s) := fun h e e2 => by
            have := (hτ h (by rw [e.1]; omega)).1
            rcases e2 with e2 | e2
            · have := e2.1; have := e.1; omega
            · omega
          exact ⟨(r1.but bWG no).own (fun h _ e => ⟨(tk h (by rw [e.1]; omega)).trans e.1, e.2.but bWG (no h e)⟩), r2⟩
    refine listV (w' := wC) 17 (.pointer (some ⟨p, 14, none⟩)) rfl rfl rfl (exec_fieldO 66 _ 6 p 0 14 rfl rfl (fun w => by kernel_rfl)) ?_
    try simp only [Act.put, List.setIfInBounds_toArray, List.set_cons_zero, List.set_cons_succ]
    refine listS (w' := wD) rfl rfl rfl (by rw [hwD]; exact exec_store1 54 s1I _ _ rfl p 14 rfl (V0 j) _ rfl (by have := cC 14 _ rfl; rw [Nat.zero_add] at this; exact this) (fC _) (by rw [hvC]; rfl)) ?_
    refine wpIn_region_lit ?_
    rw [hvC] at cD
    refine listV (w' := wD) 18 (v) rfl rfl rfl (exec_load1 41 oneL _ rfl s 0 rfl (v) (cvD)) ?_
    try simp only [Act.put, List.setIfInBounds_toArray, List.set_cons_zero, List.set_cons_succ]
    refine listV (w' := wD) 19 (.agg (x.cells (.slice ca x.pd.length cc)).toArray) rfl rfl rfl (exec_loadA 66 15 aggN sizN _ rfl p 0 rfl (x.cells (.slice ca x.pd.length cc)) rfl (cD)) ?_
    try simp only [Act.put, List.setIfInBounds_toArray, List.set_cons_zero, List.set_cons_succ]
    refine listV (w' := wE) 20 (.slice (some ⟨p2, 0, none⟩) 1 1) rfl rfl rfl (by rw [hwE, hp2]; exact exec_bsN _ _ _ _ _ rfl rfl) ?_
    try simp only [Act.put, List.setIfInBounds_toArray, List.set_cons_zero, List.set_cons_succ]
    refine listV (w' := wF) 21 (.slice a' (j + 1) c') rfl rfl rfl (exec_app _ _ 41 41 rfl v (.slice (some ⟨p2, 0, none⟩) 1 1) rfl rfl 41 rfl hrun) ?_
    try simp only [Act.put, List.setIfInBounds_toArray, List.set_cons_zero, List.set_cons_succ]
    refine listS (w' := wG) rfl rfl rfl (by rw [hwG]; exact exec_store1 41 s1L _ _ rfl s 0 rfl v _ rfl cvF fvF rfl) ?_
    exact ⟨FIN.1, _, rfl, FIN.2⟩
theorem All_any {ρ : Nat → Role} {k : Nat} {w : World} {b : Nat} {m : M6} {i : I4} {L : List Nb} (h : Ca ρ k w b m i L) {now : Int} (hok : LOk now L) :
    Calls Try.prog 22 #[.pointer (some ⟨b, 0, none⟩)] w fun e w' => ∃ (v : Value) (V : Nat → Value) (τ : Nat → Nat), e = .returned v ∧ RowF 15 (fun g => w.heap.size ≤ g ∧ τ g = 1) w' v L.length (nbl L V) ∧ (∀ q x, L[q]? = some x → RowN (fun g => w.heap.size ≤ g ∧ τ g = q + 2) w' (V q) x.pd) ∧ Below w.heap.size w w' := by
  obtain ⟨lv, Lt, rfl, h⟩ := h
  rw [List.length_map]
  exact callsIn_wide.1 (all_in 3 (Nat.le_refl _) h (by have := hok.len; simpa using this) (fun x hx => (hok.all x hx).pd2))
end Go.Proofs.Ytdcpnjlldocdcaa
