
/-
  The document's cache: Find, where the neighbour is asked for.
-/
import Derived.Test.YtdcpnjlldocdcaaC9
namespace Go.Proofs.Ytdcpnjlldocdcaa
open Go.RowKit Go.Shelf
section
variable {ρ : Nat → Role} {k : Nat} {W : World} {b : Nat} {m : M6} {i : I4} {lv : Value} {Lt : List (Nat × Nb)} {L : List Nb}
/-- one more waits: what the call leaves -/
theorem ask_fin {w2 w4 w5 : World} (H2 : CAt ρ k w2 b m i lv Lt) (F2 : Fit ρ w2) (HB2 : Below W.heap.size W w2) {q t : Nat} {x : Nb} (hq : Lt[q]? = some (t, x)) {g n c : Nat} (hlv : lv = .slice (some ⟨g, 0, none⟩) n c) (hrg : ρ g = (k, 1, 0)) {vq : Value} (cx : CellsAt w2 g (q * 15) (x.cells vq)) (hg2 : g < w2.heap.size) (b4 : Below w2.heap.size w2 w4) (b5 : Below w4.heap.size w4 w5) {v' gv : Value} {buf : Int} (r : RowN (fun j => w2.heap.size ≤ j ∧ j < w4.heap.size) w4 v' (wtP x.pd buf)) (gr : RowN (fun j => w4.heap.size ≤ j) w5 gv (wtG x.pd)) {s : Nat} (hs : W.heap.size ≤ s) (hs2 : s + 2 ≤ w2.heap.size) (rt : ρ (s + 1) = (0, 0, 0)) (ip : I4) :
    FdEnd ρ k W b m i ip ⟨zM, wtG x.pd, false, 80, (Lt.map Prod.snd).set q { x with pd := wtP x.pd buf }⟩ (.returned (.tuple #[zM.val, gv, .slice none 0 0, .int .i64 80])) ((w5.setCell ⟨g, q * 15 + 14, none⟩ v').setCells (s + 1) 0 zM.vals) := by
  have s4 := b4.size
  have s5 := b5.size
  have b25 : Below w2.heap.size w2 w5 := b4.trans (b5.mono s4)
  have c5 := cx.later hg2 b25
  obtain ⟨ρ', hρ'⟩ : ∃ ρ' : Nat → Role, ∀ j, ρ' j = if w2.heap.size ≤ j ∧ j < w4.heap.size then (k, 2, t) else ρ j := ⟨_, fun _ => rfl⟩
  have kp : ∀ j, j < w2.heap.size → ρ' j = ρ j := fun j hj => by rw [hρ', if_neg (by omega)]
  have n1 : Near w5 (w5.setCell ⟨g, q * 15 + 14, none⟩ v') g (q * 15) := (Near.refl _ _ _).cell 14 v' (by omega) (c5.is 14 (by rw [Nb.cells_len]; omega))
  have bs : But (Only g) w5 (w5.setCell ⟨g, q * 15 + 14, none⟩ v') := n1.but
  have r5 : RowN (fun j => ρ' j = (k, 2, t)) (w5.setCell ⟨g, q * 15 + 14, none⟩ v') v' (wtP x.pd buf) := ((r.later b5).but bs (fun j e e2 => by have e2 : j = g := e2; omega)).own (fun j _ e => by rw [hρ', if_pos e])
  have h6 : CAt ρ' k (w5.setCell ⟨g, q * 15 + 14, none⟩ v') b m i lv (Lt.set q (t, { x with pd := wtP x.pd buf })) := by
    refine H2.turn (v' := v') hq hlv (But.of_below b25) n1 ?_ (fun j hj _ => kp j hj) r5 ?_
    · exact c5.put 14 v' (by rw [Nb.cells_len]; omega)
    · intro e
      exfalso
      have e : wtP x.pd buf = [] := e
      unfold wtP at e
      split at e <;> simp at e
  have sz6 : (w5.setCell ⟨g, q * 15 + 14, none⟩ v').heap.size = w5.heap.size := by simp
  have sW := HB2.size
  refine FdEnd.put (ρ' := ρ') (r := ⟨zM, wtG x.pd, false, 80, (Lt.map Prod.snd).set q { x with pd := wtP x.pd buf }⟩) ⟨_, _, List.map_set, h6⟩ (fun j hj => ?_) ⟨fun j hj _ => kp j (by omega), ?_⟩ (s + 1) (by omega) (by rw [kp _ (by omega)]; exact rt) ?_ (RowF.nil _ _ _ _)
  · rw [hρ', if_neg (by omega)]; exact F2 j (by omega)
  · exact (But.of_below (HB2.trans (b25.mono sW))).trans' bs (fun j _ e => by have e : j = g := e; rw [e, hrg])
  · exact (gr.but bs (fun j e e2 => by have e2 : j = g := e2; omega)).own (fun j _ e => ⟨⟨by rw [hρ', if_neg (by omega)]; exact F2 j (by omega), .inl (by omega)⟩, by omega⟩)
set_option maxRecDepth 100000 in
set_option maxHeartbeats 2000000 in
theorem rfind_ask (h : CAt ρ k W b m i lv Lt) (hF : Fit ρ W) (now buf : Int) (hok : LOk now (Lt.map Prod.snd)) (ip : I4) (q t : Nat) (x : Nb) (hf : fndI ip (Lt.map Prod.snd) = some q) (hq : Lt[q]? = some (t, x)) (hst : x.st = 1) :
    Calls Try.prog 27 #[.pointer (some ⟨b, 0, none⟩), ip.val, .int .i64 buf, .int .i64 now] W (FdEnd ρ k W b m i ip (fd ip buf now (Lt.map Prod.snd))) := by
  have hlen : Lt.length ≤ 8 := by have := hok.len; simpa using this
  obtain ⟨s, hs⟩ : ∃ s, s = W.heap.size := ⟨_, rfl⟩
  obtain ⟨w1, hw1⟩ : ∃ w1, w1 = (W.alloc (.cells #[.int .u8 ip.a, .int .u8 ip.b, .int .u8 ip.c, .int .u8 ip.d] 25)).alloc (.cells #[.int .u8 0, .int .u8 0, .int .u8 0, .int .u8 0, .int .u8 0, .int .u8 0] 23) := ⟨_, rfl⟩
  have hb1 : Below W.heap.size W w1 := by rw [hw1]; exact ((Below.refl _ W).alloc (Nat.le_refl _) _).alloc (by simp) _
  have sz1 : w1.heap.size = s + 2 := by rw [hw1]; simp [hs]
  have ci1 : CellsAt w1 s 0 ip.vals := by
    rw [hw1, hs]
    exact (CellsAt.new W ip.vals 25).but (by simp) ((But.refl (fun _ => False) _).alloc _) id
  have cm1 : CellsAt w1 (s + 1) 0 zM.vals := by
    have := CellsAt.new (W.alloc (.cells #[.int .u8 ip.a, .int .u8 ip.b, .int .u8 ip.c, .int .u8 ip.d] 25)) zM.vals 23
    rw [World.size_alloc, ← hs] at this
    rw [hw1]; exact this
  have fm1 : ∀ j, w1.frozen? ⟨s + 1, j, none⟩ = false := fun j => by
    have := frozen_new (W.alloc (.cells #[.int .u8 ip.a, .int .u8 ip.b, .int .u8 ip.c, .int .u8 ip.d] 25)) #[.int .u8 0, .int .u8 0, .int .u8 0, .int .u8 0, .int .u8 0, .int .u8 0] 23 j
    rw [World.size_alloc, ← hs] at this
    rw [hw1]; exact this
  have NB := at_any (h.later hb1) (by omega) ip
  have HNB := hide NB
  have H1 := hide (h.later hb1)
  have F1 := hide (hF.below hb1.size)
  have HB1 := hide hb1
  have CI := hide ci1
  have CM := hide cm1
  have FM := hide fm1
  have SZ := hide sz1
  have HS := hide hs
  have HOK := hide hok
  have HF0 := hide hF
  clear NB hb1 ci1 cm1 fm1 sz1 hF
  rw [show ip.val = .agg #[.int .u8 ip.a, .int .u8 ip.b, .int .u8 ip.c, .int .u8 ip.d] from rfl] at HNB ⊢
  go_enter Try.func27, Try.ntmps27
  have hw1' := hw1.symm
  have hs' := hs.symm
  clear hw1 hs
  have i0 := CI.out 0 _ rfl
  have i1 := CI.out 1 _ rfl
  have i2 := CI.out 2 _ rfl
  have i3 := CI.out 3 _ rfl
  simp only [Nat.zero_add] at i0 i1 i2 i3
  go_wp2_with fail
  clear hw1' hs' i0 i1 i2 i3
  refine HNB.out.mono ?_
  rintro _ w2 ⟨rfl, hb2⟩
  have sL1 : s < w1.heap.size := by have := SZ.out; omega
  have tL1 : s + 1 < w1.heap.size := by have := SZ.out; omega
  have H2 := hide (H1.out.later hb2)
  have F2 := hide (F1.out.below hb2.size)
  have CI2 := hide (CI.out.later sL1 hb2)
  have CM2 := hide (CM.out.later tL1 hb2)
  have FM2 : Hid (∀ j, w2.frozen? ⟨s + 1, j, none⟩ = false) := fun j => (hb2.frozen (p := ⟨s + 1, j, none⟩) tL1).trans (FM.out j)
  have HB2 : Hid (Below W.heap.size W w2) := HB1.out.trans (hb2.mono HB1.out.size)
  have SZ2 : Hid (s + 2 ≤ w2.heap.size) := by have := SZ.out; have := hb2.size; unfold Hid; omega
  clear HNB H1 F1 CI CM FM hb2 sL1 tL1
  obtain ⟨V, hR2, hP2⟩ := H2.out.row.parts
  obtain ⟨a9, c, hlv, -⟩ := H2.out.row
  rw [hlv] at hR2
  have hql : q < Lt.length := (List.getElem?_eq_some_iff.1 hq).1
  obtain ⟨g, eg, hg2, hrg, hfz, hcs⟩ := hR2.at (by omega)
  cases eg
  obtain ⟨nl, hnl⟩ : ∃ nl, nl = Lt.length := ⟨_, rfl⟩
  have xl : w2.cell? ⟨b, 10, none⟩ = some (.slice (some ⟨g, 0, none⟩) nl c) := by rw [hnl, ← hlv]; exact H2.out.lst
  have zq : (q : Int) < (nl : Int) := by omega
  have HNL := hide hnl
  clear hnl
  have cx := hcs q hql
  rw [nbc_at hq] at cx
  obtain ⟨hrow, hnil⟩ := hP2 q t x hq
  have hX : NOk now x := HOK.out.all x (List.mem_of_getElem? (by rw [List.getElem?_map, hq]; rfl))
  have hgs : g < W.heap.size := Classical.byContradiction fun hn => by
    rw [HF0.out g (by omega)] at hrg
    simp at hrg
  have sg : g ≠ s := by have := HS.out; omega
  have tg : g ≠ s + 1 := by have := HS.out; omega
  have k0 := h.pos
  have rs : ρ s = (0, 0, 0) := HF0.out s (by have := HS.out; omega)
  have rt : ρ (s + 1) = (0, 0, 0) := HF0.out (s + 1) (by have := HS.out; omega)
  have EX : Hid ((Lt.map Prod.snd)[q]? = some x) := by unfold Hid; rw [List.getElem?_map, hq]; rfl
  have SETS : Hid (∀ x', (Lt.set q (t, x')).map Prod.snd = (Lt.map Prod.snd).set q x') := fun x' => List.map_set
  have ea : atI ip (Lt.map Prod.snd) = (q : Int) := by unfold atI; rw [hf]
  rw [ea]
  clear ea
  have EF : Hid (fd ip buf now (Lt.map Prod.snd) = ⟨zM, wtG x.pd, false, 80, (Lt.map Prod.snd).set q { x with pd := wtP x.pd buf }⟩) := by
    unfold Hid fd
    rw [hf]
    simp only [EX.out, if_pos hst]
  have c4 : w2.cell? ⟨g, q * 15 + 4, none⟩ = some (.int .i64 1) := by have := cx 4 _ rfl; rw [← hst]; exact this
  have P2 := hX.pd2
  obtain ⟨va, vc, hV⟩ := hrow.shape
  have sp := SZ2.out
  obtain ⟨a3, c3, w3, run3, row3, b3⟩ := (RowN.nil (fun _ => False) w2).appR hrow (by simp; omega)
  simp only [List.nil_append] at run3 row3
  have s3 := b3.size
  obtain ⟨a4, c4', w4, run4, row4, b4⟩ := row3.push buf (by omega)
  have s4 := b4.size
  have bw3 : Below w2.heap.size w2 w3 := b3.below (Nat.le_refl _) (fun _ _ e => e)
  have bw4 : Below w2.heap.size w2 w4 := bw3.trans (b4.below s3 (fun j hj e => by rcases e with e | e; exact e; omega))
  have row4' : RowN (fun j => w2.heap.size ≤ j ∧ j < w4.heap.size) w4 (.slice a4 (x.pd.length + 1) c4') (x.pd ++ [buf]) := row4.own (fun j hj e => by
    rcases e with (e | e) | e
    · exact e.elim
    · omega
    · omega)
  obtain ⟨pn, hpn⟩ : ∃ pn, pn = x.pd.length := ⟨_, rfl⟩
  have c14 : w2.cell? ⟨g, q * 15 + 14, none⟩ = some (.slice va pn vc) := by rw [hpn, ← hV]; exact cx 14 _ rfl
  rw [hV] at run3
  rw [← hpn] at run3 run4
  have G2 := hide hg2
  have HSW : Hid (W.heap.size ≤ s) := by have := HS.out; unfold Hid; omega
  have FN : Hid (∀ (w5 : World) (v' gv : Value), Below w4.heap.size w4 w5 → RowN (fun j => w2.heap.size ≤ j ∧ j < w4.heap.size) w4 v' (wtP x.pd buf) → RowN (fun j => w4.heap.size ≤ j) w5 gv (wtG x.pd) → FdEnd ρ k W b m i ip (fd ip buf now (Lt.map Prod.snd)) (.returned (.tuple #[zM.val, gv, .slice none 0 0, .int .i64 80])) ((w5.setCell ⟨g, q * 15 + 14, none⟩ v').setCells (s + 1) 0 zM.vals)) := fun w5 v' gv b5 r gr => by
    rw [EF.out]
    exact ask_fin H2.out F2.out HB2.out hq hlv hrg cx hg2 bw4 b5 r gr HSW.out sp rt ip
  have HB4 := hide bw4
  have LL := hide (H2.out.lst)
  have XL4 : Hid (∀ w', Below w2.heap.size w2 w' → w'.cell? ⟨b, 10, none⟩ = some (.slice (some ⟨g, 0, none⟩) nl c) ∧ w'.cell? ⟨g, q * 15 + 14, none⟩ = some (.slice va pn vc) ∧ w'.frozen? ⟨g, q * 15 + 14, none⟩ = false ∧ CellsAt w' (s + 1) 0 zM.vals ∧ ∀ j, w'.frozen? ⟨s + 1, j, none⟩ = false) := fun w' hb => ⟨(hb.cell (p := ⟨b, 10, none⟩) H2.out.lt).trans xl, (hb.cell (p := ⟨g, q * 15 + 14, none⟩) hg2).trans c14, (hb.frozen (p := ⟨g, q * 15 + 14, none⟩) hg2).trans (hfz _), CM2.out.later (by omega) hb, fun j => (hb.frozen (p := ⟨s + 1, j, none⟩) (by show s + 1 < _; omega)).trans (FM2.out j)⟩
  have RUN3 := hide run3
  have RUN4 := hide run4
  have ROW4 := hide row4'
  have HPN := hide hpn
  have zpn : (pn : Int) ≤ 2 := by omega
  have hpd : x.pd.length = 0 ∨ x.pd.length = 1 ∨ x.pd.length = 2 := by omega
  clear hf hst hR2 hP2 hcs cx hrow hnil hfz hrg hlv hq hX EX SETS rs rt run3 row3 b3 s3 run4 row4 b4 s4 bw3 bw4 row4' hpn hV P2 sp
  rcases hpd with hp | hp | hp
  · have e2 : pn = 0 := by rw [HPN.out, hp]
    subst e2
    have hp : x.pd.length < 2 := by omega
    have RUN4' : Hid ((Builtin.append_ #[54, 54] 54 #[.slice a3 0 c3, .slice (some ⟨w3.heap.size, 0, none⟩) 1 1]).run Try.prog (w3.alloc (.cells #[.int .i64 buf] 3)) = .ok (.slice a4 1 c4') w4) := RUN4.out
    have HP := hide hp
    clear hp
    obtain ⟨xl4, x144, f144, cm4, fm4⟩ := XL4.out w4 HB4.out
    have cm5 : CellsAt (w4.setCell ⟨g, q * 15 + 14, none⟩ (.slice a4 (1) c4')) (s + 1) 0 zM.vals := cm4.but (by have := HB4.out.size; have := SZ2.out; omega) ((But.refl (Only g) w4).setCell (p := ⟨g, q * 15 + 14, none⟩) (.inr rfl) _) (fun e => tg e.symm)
    have fm5 : ∀ j, (w4.setCell ⟨g, q * 15 + 14, none⟩ (.slice a4 (1) c4')).frozen? ⟨s + 1, j, none⟩ = false := fun j => by
      rw [World.frozen?_setCell]; exact fm4 j
    obtain ⟨w6, hw6⟩ : ∃ w6, w6 = w4.setCell ⟨g, q * 15 + 14, none⟩ (.slice a4 (1) c4') := ⟨_, rfl⟩
    rw [← hw6] at cm5 fm5
    have LV := hide (run_loadVarA 23 6 aggM sizM (s + 1) 0 zM.vals rfl (cm5.stored rfl))
    have FIN := hide (FN.out w4 (.slice a4 (1) c4') (.slice none 0 0) (Below.refl _ _) (by unfold wtP; rw [if_pos HP.out]; have := ROW4.out; rw [← HPN.out] at this; exact this) (by unfold wtG; rw [if_pos HP.out]; exact RowN.nil _ _))
    have z0 := cm5 0 _ rfl
    have z1 := cm5 1 _ rfl
    have z2' := cm5 2 _ rfl
    have z3 := cm5 3 _ rfl
    have z4 := cm5 4 _ rfl
    have z5 := cm5 5 _ rfl
    simp only [Nat.zero_add] at z0 z1 z2' z3 z4 z5
    rw [← hw6] at FIN
    have hw6' := hw6.symm
    clear cm4 cm5 fm4 hw6 RUN4
    go_upto_region 13 with (at_builtin; refine wpList_appI rfl _ _ rfl rfl _ _ rfl rfl RUN3.out ?_)
    go_upto_region 14 with (at_builtin; refine wpList_appI rfl _ _ rfl rfl _ _ rfl rfl RUN4'.out ?_)
    go_upto_region 18 with fail
    clear hw6'
    go_wp2
    refine bodyPost_ret (v := .tuple #[zM.val, .slice none 0 0, .slice none 0 0, .int .i64 80]) ?_ rfl FIN.out
    exact results_4 rfl _ _ (s + 1) _ _ _ _ rfl rfl rfl rfl LV.out
  · have e2 : pn = 1 := by rw [HPN.out, hp]
    subst e2
    have hp : x.pd.length < 2 := by omega
    have RUN4' : Hid ((Builtin.append_ #[54, 54] 54 #[.slice a3 1 c3, .slice (some ⟨w3.heap.size, 0, none⟩) 1 1]).run Try.prog (w3.alloc (.cells #[.int .i64 buf] 3)) = .ok (.slice a4 2 c4') w4) := RUN4.out
    have HP := hide hp
    clear hp
    obtain ⟨xl4, x144, f144, cm4, fm4⟩ := XL4.out w4 HB4.out
    have cm5 : CellsAt (w4.setCell ⟨g, q * 15 + 14, none⟩ (.slice a4 (2) c4')) (s + 1) 0 zM.vals := cm4.but (by have := HB4.out.size; have := SZ2.out; omega) ((But.refl (Only g) w4).setCell (p := ⟨g, q * 15 + 14, none⟩) (.inr rfl) _) (fun e => tg e.symm)
    have fm5 : ∀ j, (w4.setCell ⟨g, q * 15 + 14, none⟩ (.slice a4 (2) c4')).frozen? ⟨s + 1, j, none⟩ = false := fun j => by
      rw [World.frozen?_setCell]; exact fm4 j
    obtain ⟨w6, hw6⟩ : ∃ w6, w6 = w4.setCell ⟨g, q * 15 + 14, none⟩ (.slice a4 (2) c4') := ⟨_, rfl⟩
    rw [← hw6] at cm5 fm5
    have LV := hide (run_loadVarA 23 6 aggM sizM (s + 1) 0 zM.vals rfl (cm5.stored rfl))
    have FIN := hide (FN.out w4 (.slice a4 (2) c4') (.slice none 0 0) (Below.refl _ _) (by unfold wtP; rw [if_pos HP.out]; have := ROW4.out; rw [← HPN.out] at this; exact this) (by unfold wtG; rw [if_pos HP.out]; exact RowN.nil _ _))
    have z0 := cm5 0 _ rfl
    have z1 := cm5 1 _ rfl
    have z2' := cm5 2 _ rfl
    have z3 := cm5 3 _ rfl
    have z4 := cm5 4 _ rfl
    have z5 := cm5 5 _ rfl
    simp only [Nat.zero_add] at z0 z1 z2' z3 z4 z5
    rw [← hw6] at FIN
    have hw6' := hw6.symm
    clear cm4 cm5 fm4 hw6 RUN4
    go_upto_region 13 with (at_builtin; refine wpList_appI rfl _ _ rfl rfl _ _ rfl rfl RUN3.out ?_)
    go_upto_region 14 with (at_builtin; refine wpList_appI rfl _ _ rfl rfl _ _ rfl rfl RUN4'.out ?_)
    go_upto_region 18 with fail
    clear hw6'
    go_wp2
    refine bodyPost_ret (v := .tuple #[zM.val, .slice none 0 0, .slice none 0 0, .int .i64 80]) ?_ rfl FIN.out
    exact results_4 rfl _ _ (s + 1) _ _ _ _ rfl rfl rfl rfl LV.out
  · obtain ⟨y, z, eP⟩ : ∃ y z, x.pd = [y, z] := by
      match hh : x.pd, hp with
      | [y, z], _ => exact ⟨y, z, rfl⟩
    have e2 : pn = 2 := by rw [HPN.out, hp]
    subst e2
    have r4 := ROW4.out
    rw [eP] at r4
    obtain ⟨g4, off, cap, e4, d1, d2, d3, d4, d5⟩ := RowN.rest (x := y) (L := [z, buf]) r4
    have d1 : 3 ≤ cap := d1
    have e4 : Value.slice a4 3 c4' = .slice (some ⟨g4, off, none⟩) 3 cap := e4
    cases e4
    obtain ⟨a5, c5, w5, run5, row5, b5⟩ := (RowN.nil (fun _ => False) w4).push y (by simp)
    have s5 := b5.size
    have bw5 : Below w4.heap.size w4 w5 := b5.below (Nat.le_refl _) (fun _ _ e => e)
    have run5 : (Builtin.append_ #[54, 54] 54 #[.slice none 0 0, .slice (some ⟨w4.heap.size, 0, none⟩) 1 1]).run Try.prog (w4.alloc (.cells #[.int .i64 y] 3)) = .ok (.slice a5 1 c5) w5 := run5
    have RUN5 := hide run5
    have G4 := d4.2
    have FIN := hide (FN.out w5 (.slice (some ⟨g4, off + 1, none⟩) 2 (c4' - 1)) (.slice a5 1 c5) bw5 (by unfold wtP; rw [eP, if_neg (by simp)]; exact d5 ⟨g4, off + 1, none⟩ (fun _ => rfl)) (by unfold wtG; rw [eP, if_neg (by simp)]; exact row5.own (fun j _ e => by rcases e with e | e; exact e.elim; exact e.1)))
    obtain ⟨xl4, x144, f144, cm4, fm4⟩ := XL4.out w5 (HB4.out.trans (bw5.mono HB4.out.size))
    have cm5 : CellsAt (w5.setCell ⟨g, q * 15 + 14, none⟩ (.slice (some ⟨g4, off + 1, none⟩) 2 (c4' - 1))) (s + 1) 0 zM.vals := cm4.but (by have := HB4.out.size; have := SZ2.out; omega) ((But.refl (Only g) w5).setCell (p := ⟨g, q * 15 + 14, none⟩) (.inr rfl) _) (fun e => tg e.symm)
    have fm5 : ∀ j, (w5.setCell ⟨g, q * 15 + 14, none⟩ (.slice (some ⟨g4, off + 1, none⟩) 2 (c4' - 1))).frozen? ⟨s + 1, j, none⟩ = false := fun j => by
      rw [World.frozen?_setCell]; exact fm4 j
    obtain ⟨w6, hw6⟩ : ∃ w6, w6 = w5.setCell ⟨g, q * 15 + 14, none⟩ (.slice (some ⟨g4, off + 1, none⟩) 2 (c4' - 1)) := ⟨_, rfl⟩
    rw [← hw6] at cm5 fm5
    have LV := hide (run_loadVarA 23 6 aggM sizM (s + 1) 0 zM.vals rfl (cm5.stored rfl))
    have z0 := cm5 0 _ rfl
    have z1 := cm5 1 _ rfl
    have z2' := cm5 2 _ rfl
    have z3 := cm5 3 _ rfl
    have z4 := cm5 4 _ rfl
    have z5 := cm5 5 _ rfl
    simp only [Nat.zero_add] at z0 z1 z2' z3 z4 z5
    have n1 : ¬ c4' = 1 := by omega
    have RUN4' : Hid ((Builtin.append_ #[54, 54] 54 #[.slice a3 2 c3, .slice (some ⟨w3.heap.size, 0, none⟩) 1 1]).run Try.prog (w3.alloc (.cells #[.int .i64 buf] 3)) = .ok (.slice (some ⟨g4, off, none⟩) 3 c4') w4) := RUN4.out
    rw [← hw6] at FIN
    have hw6' := hw6.symm
    clear cm4 cm5 fm4 hw6 r4 d2 d4 d5 run5 row5 b5 s5 bw5 eP hp RUN4
    go_upto_region 13 with (at_builtin; refine wpList_appI rfl _ _ rfl rfl _ _ rfl rfl RUN3.out ?_)
    go_upto_region 14 with (at_builtin; refine wpList_appI rfl _ _ rfl rfl _ _ rfl rfl RUN4'.out ?_)
    go_upto_region 18 with (at_builtin; refine wpList_appI rfl _ _ rfl rfl _ _ rfl rfl RUN5.out ?_)
    clear hw6'
    go_wp2
    refine bodyPost_ret (v := .tuple #[zM.val, .slice a5 1 c5, .slice none 0 0, .int .i64 80]) ?_ rfl FIN.out
    exact results_4 rfl _ _ (s + 1) _ _ _ _ rfl rfl rfl rfl LV.out
end
end Go.Proofs.Ytdcpnjlldocdcaa
