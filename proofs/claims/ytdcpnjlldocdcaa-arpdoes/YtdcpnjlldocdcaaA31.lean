
/-
  Package arp: the contract of Pending.
-/
import Derived.Test.YtdcpnjlldocdcaaA30
namespace Go.Proofs.Ytdcpnjlldocdcaa
open Go.RowKit Go.Shelf
attribute [local go_sem] Oper.semAt_some

/-- between two rounds -/
def PdI (w1 : World) (s : Nat) (L : List Nb) (j : Nat) (W : World) : Prop :=
  But (Only s) w1 W ∧ W.frozen? ⟨s, 0, none⟩ = false ∧ ∃ v, W.cell? ⟨s, 0, none⟩ = some v ∧ RowN (fun h => w1.heap.size ≤ h ∧ Cel W h) W v (pnd (L.take j))
theorem PdI.keep {w1 : World} {s : Nat} {L : List Nb} {j : Nat} {W W' : World} {K : Nat → Prop} (h : PdI w1 s L j W) (hs : s < w1.heap.size) (hb : But K W W') (hk : ∀ g, K g → w1.heap.size ≤ g ∧ ¬ Cel W g) : PdI w1 s L j W' := by
  obtain ⟨h1, h2, v, h3, h4⟩ := h
  have ns : ¬ K s := fun e => by have := (hk s e).1; omega
  have hl : s < W.heap.size := by have := h1.size; omega
  refine ⟨h1.trans' hb (fun q hq e => by have := (hk q e).1; omega), (hb.frozen (p := ⟨s, 0, none⟩) hl ns).trans h2, v, (hb.cell (p := ⟨s, 0, none⟩) hl ns).trans h3, (h4.but hb (fun g e e2 => (hk g e2).2 e.2)).own (fun g _ e => ⟨e.1, e.2.but hb (fun e2 => (hk g e2).2 e.2)⟩)⟩
theorem pnd_take {L : List Nb} {j : Nat} {x : Nb} (h : L[j]? = some x) : pnd (L.take (j + 1)) = pnd (L.take j) ++ x.pd := by
  rw [take_one h]
  unfold pnd
  rw [List.flatMap_append]
  simp
theorem pnd_len {L : List Nb} (h : ∀ x ∈ L, x.pd.length ≤ 2) : (pnd L).length ≤ 2 * L.length := by
  induction L with
  | nil => simp [pnd]
  | cons x L ih =>
    have h1 := ih (fun y hy => h y (List.mem_cons_of_mem _ hy))
    have h2 := h x (by simp)
    unfold pnd at h1 ⊢
    rw [List.flatMap_cons, List.length_append, List.length_cons]
    omega
set_option maxRecDepth 100000 in
set_option maxHeartbeats 4000000 in
theorem pending_in (n : Nat) (hn : 3 ≤ n) {ρ : Nat → Role} {k : Nat} {w : World} {b : Nat} {m : M6} {i : I4} {lv0 : Value} {Lt : List (Nat × Nb)} (h : CAt ρ k w b m i lv0 Lt) (hl : Lt.length ≤ 8) (hpd : ∀ x ∈ Lt.map Prod.snd, x.pd.length ≤ 2) :
    CallsIn Fence.wide n Try.prog 21 #[.pointer (some ⟨b, 0, none⟩)] w fun e w' => ∃ v, e = .returned v ∧ RowN (fun g => w.heap.size ≤ g) w' v (pnd (Lt.map Prod.snd)) ∧ Below w.heap.size w w' := by
  have h1 : 1 ≤ n := by omega
  have hblt : b < w.heap.size := h.lt
  obtain ⟨V0, hR0, hP0⟩ := h.row.parts
  obtain ⟨a0, c0, rfl⟩ := hR0.shape
  obtain ⟨g, hg⟩ : ∃ g, 0 < Lt.length → a0 = some ⟨g, 0, none⟩ ∧ g < w.heap.size ∧ ∀ q, q < Lt.length → CellsAt w g (q * 15) (nbc Lt V0 q) := by
    by_cases e : 0 < Lt.length
    · obtain ⟨g, h1, h2, h3, h4, h5⟩ := hR0.at e
      exact ⟨g, fun _ => ⟨h1, h2, h5⟩⟩
    · exact ⟨0, fun e' => absurd e' e⟩
  have cL := h.lst
  refine callsIn_of_wp_marks Try.func21 rfl trivial ?_ rfl
  simp only [Try.ntmps21, List.size_toArray, List.length_cons, List.length_nil, Nat.reduceAdd, Nat.reduceSub, Array.replicate_succ, Array.replicate_zero, List.push_toArray, List.append_toArray, List.nil_append, List.cons_append]
  have HG := hide hg
  have HP0 := hide hP0
  have HPD := hide hpd
  clear hg hR0 hP0 hpd
  gi_wp2_with fail
  refine ⟨trivial, ?_⟩
  refine (neighbours_in (n - 1) b _).mono ?_
  rintro e w' ⟨rfl, rfl⟩
  simp only [World.size_alloc]
  obtain ⟨s, hs⟩ : ∃ s, s = w.heap.size := ⟨_, rfl⟩
  rw [← hs]
  obtain ⟨w1, hw1⟩ : ∃ w1, w1 = boxes [(.slice none 0 0, 54), (.pointer (some ⟨b, 0, none⟩), 37)] w := ⟨_, rfl⟩
  have hbx := boxes_at [(.slice none 0 0, 54), (.pointer (some ⟨b, 0, none⟩), 37)] w
  obtain ⟨hb1, hz0⟩ := boxes_below [(.slice none 0 0, 54), (.pointer (some ⟨b, 0, none⟩), 37)] w
  rw [← hw1, ← hs] at hbx
  rw [← hw1] at hb1 hz0
  have hz1 : w1.heap.size = s + 2 := by rw [hz0, hs]; rfl
  clear hz0
  have k0 := hbx 0 _ _ rfl
  have cB : w1.cell? ⟨s + 1, 0, none⟩ = some (.pointer (some ⟨b, 0, none⟩)) := (hbx 1 _ _ rfl).1
  have hw1' := hw1.symm
  simp only [boxes] at hw1'
  rw [hw1']
  have cL1 := (hb1.cell (p := ⟨b, 10, none⟩) hblt).trans cL
  have I0 : PdI w1 s (Lt.map Prod.snd) 0 w1 := ⟨But.refl _ _, k0.2, _, k0.1, RowN.nil _ _⟩
  have HB1 := hide hb1
  have HS := hide hs
  have HZ1 := hide hz1
  have HW := hide hblt
  have sl : Hid (s < w1.heap.size) := by unfold Hid; omega
  have CL1 := hide cL1
  have CB := hide cB
  clear hs hw1 hw1' hbx hb1 k0 cL hz1 hblt cL1 cB
  gi_wp2
  refine wpIn_range h1 (gf := 46) (lb := #[.pointer (some ⟨s + 1, 0, none⟩)]) rfl (enters_of Try.func46 (by kernel_rfl) rfl) (PdI w1 s (Lt.map Prod.snd)) (fun _ _ => False) 0
    (neighbours_tells (n - 1) (by omega) (s + 1) b g Lt.length c0 a0 (fun hl => (HG.out hl).1) (by omega) _ (fun j W hI => ⟨(hI.1.cell (p := ⟨s + 1, 0, none⟩) (by have := HZ1.out; show s + 1 < _; omega) (fun e => by have e : s + 1 = s := e; omega)).trans CB.out, (hI.1.cell (p := ⟨b, 10, none⟩) (by have := HS.out; have := HW.out; have := HZ1.out; show b < _; omega) (fun e => by have e : b = s := e; have := HS.out; have := HW.out; omega)).trans CL1.out⟩))
    (fun j args ⟨_, e⟩ => by rw [e]; rfl) (fun j W o hI => hI.keep sl.out ((But.refl (fun _ => False) W).alloc o) (fun _ e => e.elim)) (fun j W l o o' hl ho hc hI => hI.keep sl.out (put_but W l o') (fun q e => by subst e; exact ⟨hl, fun hcc => hcc.ne ho hc rfl⟩)) (fun c W o h => h.elim) (fun c W l o o' hl ho hc h => h.elim) (fun c W h => h.elim) I0 ?round ?done ?stop
  case stop => intro D c W _ h; exact h.elim
  case round =>
    rintro l j args W' hlS hI ⟨hj, rfl⟩
    obtain ⟨⟨t, x⟩, hx⟩ : ∃ p, Lt[j]? = some p := ⟨_, List.getElem?_eq_getElem hj⟩
    have HI := hide hI
    clear hI
    gi_wp2
    refine ⟨KeepsFrom.refl _ _, ?_⟩
    intro o o' hoo hc
    have hI2 : PdI w1 s (Lt.map Prod.snd) j (W'.putObj l o') := HI.out.keep sl.out (put_but W' l o') (fun q e => by subst e; exact ⟨hlS, fun hcc => hcc.ne hoo hc rfl⟩)
    clear hoo hc HI
    generalize W'.putObj l o' = W2 at *
    gi_wp2
    obtain ⟨hbW, hfz, v, cv, rv⟩ := hI2
    have hl0 : 0 < Lt.length := by omega
    have z1 := HZ1.out
    have zW := hbW.size
    have hgs := (HG.out hl0).2.1
    have hsW := HS.out
    have h5 := (HG.out hl0).2.2 j hj
    rw [nbc_at hx] at h5
    have ngs : ¬ Only s g := fun e => by have e : g = s := e; omega
    have cx := (h5.later hgs HB1.out).but (by omega) hbW ngs
    have hX2 := HPD.out x (List.mem_map.2 ⟨_, List.mem_of_getElem? hx, rfl⟩)
    obtain ⟨hrow0, hnil⟩ := HP0.out j t x hx
    have klt : ∀ q, ρ q = (k, 2, t) → True := fun _ _ => trivial
    have hrow : RowN (fun q => q < w.heap.size) W2 (V0 j) x.pd := ((hrow0.own (O' := fun q => q < w.heap.size) (fun q hq _ => hq)).later HB1.out).but hbW (fun q e e2 => by have e2 : q = s := e2; omega)
    obtain ⟨va, vc, hV⟩ := hrow.shape
    rw [hV] at cx hrow hnil
    have hxm : (Lt.map Prod.snd)[j]? = some x := by rw [List.getElem?_map, hx]; rfl
    obtain ⟨P0, hP0'⟩ : ∃ P0, P0 = pnd ((Lt.map Prod.snd).take j) := ⟨_, rfl⟩
    have lP : P0.length ≤ 1000 := by
      rw [hP0']
      exact Nat.le_trans (pnd_len (fun y hy => HPD.out y (List.mem_of_mem_take hy))) (by rw [List.length_take]; omega)
    rw [← hP0'] at rv
    obtain ⟨wd, hwd⟩ : ∃ z, z = W2.drew := ⟨_, rfl⟩
    have nwd : But (fun _ => False) W2 wd := by rw [hwd]; exact (But.refl _ _).drew
    have zd := nwd.size
    have ls : s < W2.heap.size := World.block_lt_of_cell? W2 _ cv
    have cvd : wd.cell? ⟨s, 0, none⟩ = some v := (nwd.cell (p := ⟨s, 0, none⟩) ls id).trans cv
    have fzd : wd.frozen? ⟨s, 0, none⟩ = false := (nwd.frozen (p := ⟨s, 0, none⟩) ls id).trans hfz
    have cxd := cx.but (by omega) nwd id
    have rvd := rv.but nwd (fun _ _ => id)
    have rpd := hrow.but nwd (fun _ _ => id)
    have cpd : wd.cell? ⟨g, j * 15 + 14, none⟩ = some (.slice va x.pd.length vc) := cxd 14 _ rfl
    obtain ⟨w3, v3, hv3, hrun, b3, r3⟩ : ∃ w3 v3, (∃ a n c, v3 = .slice a n c) ∧ (Builtin.append_ #[54, 54] 54 #[v, .slice va x.pd.length vc]).run Try.prog wd = .ok v3 w3 ∧ But (fun q => w1.heap.size ≤ q ∧ Cel wd q) wd w3 ∧ RowN (fun q => w1.heap.size ≤ q ∧ Cel w3 q) w3 v3 (P0 ++ x.pd) := by
      by_cases he : x.pd = []
      · have ev := hnil he
        rw [he] at ev ⊢
        simp only [List.length_nil] at ev ⊢
        rw [ev]
        obtain ⟨a9, c9, e9, l9, rest⟩ := rvd
        refine ⟨wd, v, ⟨_, _, _, e9⟩, by rw [e9]; exact run_app_nil wd a9 _ c9 l9, But.refl _ _, ?_⟩
        rw [List.append_nil]
        exact RowN.own (O := fun h => w1.heap.size ≤ h ∧ Cel W2 h) ⟨a9, c9, e9, l9, rest⟩ (fun q _ e => ⟨e.1, e.2.but nwd id⟩)
      · have hpp : 0 < x.pd.length := by cases hq : x.pd with
          | nil => exact absurd hq he
          | cons y ys => simp
        obtain ⟨pg, po, hva, _, _, hcs⟩ := rpd.at hpp
        have src := src_ints (W := wd) pg po vc x.pd hcs
        rw [← hva] at src
        obtain ⟨a', c', w3, hrun, hR, hb⟩ := (rvd.own (O' := fun q => w1.heap.size ≤ q ∧ Cel wd q) (fun q _ e => ⟨e.1, e.2.but nwd id⟩)).more _ x.pd src hpp (by omega)
        refine ⟨w3, _, ⟨_, _, _, rfl⟩, hrun, hb, ((hR.own (O' := fun q => w1.heap.size ≤ q) (fun q _ e => ?_)).cel (by rw [List.length_append]; omega))⟩
        rcases e with e | e
        · exact e.1
        · omega
    have ns3 : ¬ (w1.heap.size ≤ s ∧ Cel wd s) := fun e => by omega
    have ng3 : ¬ (w1.heap.size ≤ g ∧ Cel wd g) := fun e => by omega
    have l3 : w3.cell? ⟨s, 0, none⟩ = some v := (b3.cell (p := ⟨s, 0, none⟩) (by show s < _; omega) ns3).trans cvd
    have f3 : w3.frozen? ⟨s, 0, none⟩ = false := (b3.frozen (p := ⟨s, 0, none⟩) (by show s < _; omega) ns3).trans fzd
    have cp3 : w3.cell? ⟨g, j * 15 + 14, none⟩ = some (.slice va x.pd.length vc) := (b3.cell (p := ⟨g, j * 15 + 14, none⟩) (by show g < _; omega) ng3).trans cpd
    obtain ⟨xa, xn, xc, rfl⟩ := hv3
    obtain ⟨w4, hw4⟩ : ∃ z, z = w3.setCell ⟨s, 0, none⟩ (.slice xa xn xc) := ⟨_, rfl⟩
    have n4 : But (Only s) w3 w4 := by rw [hw4]; exact (But.refl (Only s) w3).setCell (p := ⟨s, 0, none⟩) (.inr rfl) _
    have FIN : Hid (KeepsFrom w1.heap.size W2 w4 ∧ PdI w1 s (Lt.map Prod.snd) (j + 1) w4) := by
      refine ⟨keeps_trans (KeepsFrom.of_but nwd (fun _ e => e.elim)) (keeps_trans (KeepsFrom.of_but b3 (fun q e => e.2)) (KeepsFrom.of_but n4 (fun q e => by have e : q = s := e; rw [e]; exact cells_of_cell l3))), ((hbW.trans (nwd.mono (fun _ e => e.elim))).trans' b3 (fun q hq e => by have := e.1; omega)).trans n4, by rw [hw4, setCell_one, World.frozen?_setCells]; exact f3, _, by rw [hw4]; exact World.cell?_setCell_same _ _ _ l3, ?_⟩
      rw [pnd_take hxm, ← hP0']
      exact (r3.but n4 (fun q e e2 => by have e2 : q = s := e2; have := e.1; omega)).own (fun q _ e => ⟨e.1, e.2.but n4 (fun e2 => by have e2 : q = s := e2; have := e.1; omega)⟩)
    refine regionJ_in (fun q => q != 6) (fun X => X.cell? ⟨s, 0, none⟩ = some v ∧ X.cell? ⟨g, j * 15 + 14, none⟩ = some (.slice va x.pd.length vc)) (by kernel_rfl) (by kernel_rfl) ?_
    rw [← hwd]
    refine takeJ (i := 0) (v := v) 8 rfl rfl (by kernel_rfl) (by kernel_rfl) (by kernel_rfl) (by kernel_rfl) (fun _ _ _ h => h) (.inl ⟨by rfl, fun W hW => exec_load1 54 oneI _ rfl s 0 rfl (v) (hW.1)⟩) (⟨cvd, cpd⟩) ?_
    try simp only [Act.put, List.setIfInBounds_toArray, List.set_cons_zero, List.set_cons_succ]
    refine takeJ (i := 1) (v := .pointer (some ⟨g, j * 15, none⟩)) 9 rfl rfl (by kernel_rfl) (by kernel_rfl) (by kernel_rfl) (by kernel_rfl) (fun _ _ _ h => h) (.inl ⟨by rfl, fun W hW => exec_move _ _ rfl rfl⟩) (⟨cvd, cpd⟩) ?_
    try simp only [Act.put, List.setIfInBounds_toArray, List.set_cons_zero, List.set_cons_succ]
    refine takeJ (i := 2) (v := .pointer (some ⟨g, j * 15, none⟩)) 10 rfl rfl (by kernel_rfl) (by kernel_rfl) (by kernel_rfl) (by kernel_rfl) (fun _ _ _ h => h) (.inl ⟨by rfl, fun W hW => exec_nil _ _ rfl rfl⟩) (⟨cvd, cpd⟩) ?_
    try simp only [Act.put, List.setIfInBounds_toArray, List.set_cons_zero, List.set_cons_succ]
    refine takeJ (i := 3) (v := .pointer (some ⟨g, j * 15 + 14, none⟩)) 11 rfl rfl (by kernel_rfl) (by kernel_rfl) (by kernel_rfl) (by kernel_rfl) (fun _ _ _ h => h) (.inl ⟨by rfl, fun W hW => exec_fieldO 66 _ 6 g (j * 15) (j * 15 + 14) rfl rfl (fun w => by kernel_rfl)⟩) (⟨cvd, cpd⟩) ?_
    try simp only [Act.put, List.setIfInBounds_toArray, List.set_cons_zero, List.set_cons_succ]
    refine takeJ (i := 4) (v := .slice va x.pd.length vc) 12 rfl rfl (by kernel_rfl) (by kernel_rfl) (by kernel_rfl) (by kernel_rfl) (fun _ _ _ h => h) (.inl ⟨by rfl, fun W hW => exec_load1 54 oneI _ rfl g (j * 15 + 14) rfl (.slice va x.pd.length vc) (hW.2)⟩) (⟨cvd, cpd⟩) ?_
    try simp only [Act.put, List.setIfInBounds_toArray, List.set_cons_zero, List.set_cons_succ]
    refine nextJ (w' := w3) 5 13 (.slice xa xn xc) (by kernel_rfl) rfl rfl (by rfl) (exec_app _ _ 54 54 rfl v (.slice va x.pd.length vc) rfl rfl 54 rfl hrun) (⟨l3, cp3⟩) ?_
    try simp only [Act.put, List.setIfInBounds_toArray, List.set_cons_zero, List.set_cons_succ]
    refine storeJ (w' := w4) 6 (by kernel_rfl) rfl rfl (by rfl) (by rw [hw4]; exact exec_store1 54 s1I _ _ rfl s 0 rfl v _ rfl l3 f3 rfl) ((fun e => by simp at e)) ?_
    try simp only [Act.put, List.setIfInBounds_toArray, List.set_cons_zero, List.set_cons_succ]
    refine doneJW (by kernel_rfl) _ ?_
    clear hrun b3 r3 l3 f3 cp3 hw4 n4 cvd fzd cxd rvd rpd cpd zd nwd hwd ls ns3 ng3 hrow hnil hV cx h5 cv rv hfz hbW hgs hsW z1 zW lP hX2 hrow0 klt ngs
    gi_wp2
    exact FIN.out
  case done =>
    intro D j W hD hj hI hDW
    subst hj
    obtain ⟨hbW, hfz, v, cv, rv⟩ := hI
    have z1 := HZ1.out
    have hsW := HS.out
    rw [List.take_of_length_le (by simp)] at rv
    obtain ⟨xa, xc, hxv⟩ := rv.shape
    have nD : ¬ Cel W D := fun e => e.ne hDW rfl rfl
    have zW := hbW.size
    have bp := put_but W D (.deferred none)
    have FE : Hid (RowN (fun q => w.heap.size ≤ q) (W.putObj D (.deferred none)) v (pnd (Lt.map Prod.snd)) ∧ Below w.heap.size w (W.putObj D (.deferred none))) :=
      ⟨(rv.but bp (fun q e e2 => by rw [e2] at e; exact nD e.2)).own (fun q _ e => by have := e.1; omega), (HB1.out.trans (hbW.below HB1.out.size (fun q hq e => by have e : q = s := e; omega))).trans (bp.below (by have := HB1.out.size; omega) (fun q hq e => by omega))⟩
    have HDW := hide hDW
    rw [hxv] at cv FE
    clear hbW hfz rv hDW nD bp z1 hsW zW hD
    gi_wp2
    refine ⟨by simp, .inl ⟨_, _, rfl, run_takeDeferred HDW.out, ?_⟩⟩
    exact ⟨_, by simp [results, go_sem], _, rfl, FE.out⟩
theorem Pending_any {ρ : Nat → Role} {k : Nat} {w : World} {b : Nat} {m : M6} {i : I4} {L : List Nb} (h : Ca ρ k w b m i L) {now : Int} (hok : LOk now L) :
    Calls Try.prog 21 #[.pointer (some ⟨b, 0, none⟩)] w fun e w' => ∃ v, e = .returned v ∧ RowN (fun g => w.heap.size ≤ g) w' v (pnd L) ∧ Below w.heap.size w w' := by
  obtain ⟨lv, Lt, rfl, h⟩ := h
  exact callsIn_wide.1 (pending_in 3 (Nat.le_refl _) h (by have := hok.len; simpa using this) (fun x hx => (hok.all x hx).pd2))
end Go.Proofs.Ytdcpnjlldocdcaa
