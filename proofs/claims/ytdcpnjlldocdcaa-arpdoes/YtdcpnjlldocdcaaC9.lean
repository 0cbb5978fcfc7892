
/-
  The document's cache: Find, where the neighbour was known too long.
-/
import Derived.Test.YtdcpnjlldocdcaaC8
import Derived.Test.YtdcpnjlldocdcaaA25
namespace Go.Proofs.Ytdcpnjlldocdcaa
open Go.RowKit Go.Shelf
section
variable {ρ : Nat → Role} {k : Nat} {W : World} {b : Nat} {m : M6} {i : I4} {lv : Value} {Lt : List (Nat × Nb)} {L : List Nb}
set_option maxRecDepth 100000 in
set_option maxHeartbeats 2000000 in
theorem rfind_old (h : CAt ρ k W b m i lv Lt) (hF : Fit ρ W) (now buf : Int) (hok : LOk now (Lt.map Prod.snd)) (ip : I4) (q t : Nat) (x : Nb) (hf : fndI ip (Lt.map Prod.snd) = some q) (hq : Lt[q]? = some (t, x)) (hst : x.st = 2) (hnp : 64 ≤ now - x.since) (hn1 : now ≤ 4611686018427387904) :
    Calls Try.prog 27 #[.pointer (some ⟨b, 0, none⟩), ip.val, .int .i64 buf, .int .i64 now] W (FdEnd ρ k W b m i ip (fd ip buf now (Lt.map Prod.snd))) := by
  have hlen : Lt.length ≤ 8 := by have := hok.len; simpa using this
  obtain ⟨s, hs⟩ : ∃ s, s = W.heap.size := ⟨_, rfl⟩
  obtain ⟨w1, hw1⟩ : ∃ w1, w1 = (W.alloc (.cells #[.int .u8 ip.a, .int .u8 ip.b, .int .u8 ip.c, .int .u8 ip.d] 25)).alloc (.cells #[.int .u8 0, .int .u8 0, .int .u8 0, .int .u8 0, .int .u8 0, .int .u8 0] 23) := ⟨_, rfl⟩
  have hb1 : Below W.heap.size W w1 := by rw [hw1]; exact ((Below.refl _ W).alloc (Nat.le_refl _) _).alloc (by simp) _
  have sz1 : w1.heap.size = s + 2 := by rw [hw1]; simp [hs]
  have ci1 : CellsAt w1 s 0 ip.vals := by
    rw [hw1, hs]
    exact (CellsAt.new W ip.vals 25).but (by simp) ((But.refl (fun _ => False) _).alloc _) id
  have cm1 : CellsAt w1 (s + 1) 0 zM.vals := by
    have := CellsAt.new (W.alloc (.cells #[.int .u8 ip.a, .int .u8 ip.b, .int .u8 ip.c, .int .u8 ip.d] 25)) zM.vals 23
    rw [World.size_alloc, ← hs] at this
    rw [hw1]; exact this
  have fm1 : ∀ j, w1.frozen? ⟨s + 1, j, none⟩ = false := fun j => by
    have := frozen_new (W.alloc (.cells #[.int .u8 ip.a, .int .u8 ip.b, .int .u8 ip.c, .int .u8 ip.d] 25)) #[.int .u8 0, .int .u8 0, .int .u8 0, .int .u8 0, .int .u8 0, .int .u8 0] 23 j
    rw [World.size_alloc, ← hs] at this
    rw [hw1]; exact this
  have NB := at_any (h.later hb1) (by omega) ip
  have HNB := hide NB
  have H1 := hide (h.later hb1)
  have F1 := hide (hF.below hb1.size)
  have HB1 := hide hb1
  have CI := hide ci1
  have CM := hide cm1
  have FM := hide fm1
  have SZ := hide sz1
  have HS := hide hs
  have HOK := hide hok
  have HF0 := hide hF
  clear NB hb1 ci1 cm1 fm1 sz1 hF
  rw [show ip.val = .agg #[.int .u8 ip.a, .int .u8 ip.b, .int .u8 ip.c, .int .u8 ip.d] from rfl] at HNB ⊢
  go_enter Try.func27, Try.ntmps27
  have hw1' := hw1.symm
  have hs' := hs.symm
  clear hw1 hs
  have i0 := CI.out 0 _ rfl
  have i1 := CI.out 1 _ rfl
  have i2 := CI.out 2 _ rfl
  have i3 := CI.out 3 _ rfl
  simp only [Nat.zero_add] at i0 i1 i2 i3
  go_wp2_with fail
  clear hw1' hs' i0 i1 i2 i3
  refine HNB.out.mono ?_
  rintro _ w2 ⟨rfl, hb2⟩
  have sL1 : s < w1.heap.size := by have := SZ.out; omega
  have tL1 : s + 1 < w1.heap.size := by have := SZ.out; omega
  have H2 := hide (H1.out.later hb2)
  have F2 := hide (F1.out.below hb2.size)
  have CI2 := hide (CI.out.later sL1 hb2)
  have CM2 := hide (CM.out.later tL1 hb2)
  have FM2 : Hid (∀ j, w2.frozen? ⟨s + 1, j, none⟩ = false) := fun j => (hb2.frozen (p := ⟨s + 1, j, none⟩) tL1).trans (FM.out j)
  have HB2 : Hid (Below W.heap.size W w2) := HB1.out.trans (hb2.mono HB1.out.size)
  have SZ2 : Hid (s + 2 ≤ w2.heap.size) := by have := SZ.out; have := hb2.size; unfold Hid; omega
  clear HNB H1 F1 CI CM FM hb2 sL1 tL1
  obtain ⟨V, hR2, hP2⟩ := H2.out.row.parts
  obtain ⟨a9, c, hlv, -⟩ := H2.out.row
  rw [hlv] at hR2
  have hql : q < Lt.length := (List.getElem?_eq_some_iff.1 hq).1
  obtain ⟨g, eg, hg2, hrg, hfz, hcs⟩ := hR2.at (by omega)
  cases eg
  have hlv : lv = .slice (some ⟨g, 0, none⟩) Lt.length c := hlv
  obtain ⟨nl, hnl⟩ : ∃ nl, nl = Lt.length := ⟨_, rfl⟩
  have xl : w2.cell? ⟨b, 10, none⟩ = some (.slice (some ⟨g, 0, none⟩) nl c) := by rw [hnl, ← hlv]; exact H2.out.lst
  have zq : (q : Int) < (nl : Int) := by omega
  have HNL := hide hnl
  clear hnl
  have cx := hcs q hql
  rw [nbc_at hq] at cx
  obtain ⟨hrow, hnil⟩ := hP2 q t x hq
  have hX : NOk now x := HOK.out.all x (List.mem_of_getElem? (by rw [List.getElem?_map, hq]; rfl))
  have hgs : g < W.heap.size := Classical.byContradiction fun hn => by
    rw [HF0.out g (by omega)] at hrg
    simp at hrg
  have sg : g ≠ s := by have := HS.out; omega
  have tg : g ≠ s + 1 := by have := HS.out; omega
  have k0 := h.pos
  have rs : ρ s = (0, 0, 0) := HF0.out s (by have := HS.out; omega)
  have rt : ρ (s + 1) = (0, 0, 0) := HF0.out (s + 1) (by have := HS.out; omega)
  have EX : Hid ((Lt.map Prod.snd)[q]? = some x) := by unfold Hid; rw [List.getElem?_map, hq]; rfl
  have SETS : Hid (∀ x', (Lt.set q (t, x')).map Prod.snd = (Lt.map Prod.snd).set q x') := fun x' => List.map_set
  have ea : atI ip (Lt.map Prod.snd) = (q : Int) := by unfold atI; rw [hf]
  rw [ea]
  clear ea
  have EF : Hid (fd ip buf now (Lt.map Prod.snd) = ⟨x.mac, [], true, 0, (Lt.map Prod.snd).set q { x with st := 3, asked := now, tries := 1 }⟩) := by
    unfold Hid fd
    rw [hf]
    simp only [EX.out]
    rw [if_neg (by omega), if_pos ⟨hst, hnp⟩]
  have c4 : w2.cell? ⟨g, q * 15 + 4, none⟩ = some (.int .i64 2) := by have := cx 4 _ rfl; rw [← hst]; exact this
  have c11 : w2.cell? ⟨g, q * 15 + 11, none⟩ = some (.int .i64 x.since) := cx 11 _ rfl
  have c12 : w2.cell? ⟨g, q * 15 + 12, none⟩ = some (.int .i64 x.asked) := cx 12 _ rfl
  have c13 : w2.cell? ⟨g, q * 15 + 13, none⟩ = some (.int .i64 x.tries) := cx 13 _ rfl
  have x0 := hX.since0
  have x1 := hX.since1
  have EP : decide ((64 : Int) ≤ now - x.since) = true := decide_eq_true hnp
  obtain ⟨w3, hw3⟩ : ∃ w3, w3 = ((w2.setCell ⟨g, q * 15 + 4, none⟩ (.int .i64 3)).setCell ⟨g, q * 15 + 13, none⟩ (.int .i64 1)).setCell ⟨g, q * 15 + 12, none⟩ (.int .i64 now) := ⟨_, rfl⟩
  have p1 := cx.put 4 (.int .i64 3) (by rw [Nb.cells_len]; omega)
  have n1 : Near w2 (w2.setCell ⟨g, q * 15 + 4, none⟩ (.int .i64 3)) g (q * 15) := (Near.refl _ _ _).cell 4 _ (by omega) (cx.is 4 (by rw [Nb.cells_len]; omega))
  have p2 := p1.put 13 (.int .i64 1) (by rw [List.length_set, Nb.cells_len]; omega)
  have n2 := n1.cell 13 (.int .i64 1) (by omega) (p1.is 13 (by rw [List.length_set, Nb.cells_len]; omega))
  have p3 := p2.put 12 (.int .i64 now) (by rw [List.length_set, List.length_set, Nb.cells_len]; omega)
  have n3 := n2.cell 12 (.int .i64 now) (by omega) (p2.is 12 (by rw [List.length_set, List.length_set, Nb.cells_len]; omega))
  have p4 : CellsAt (((w2.setCell ⟨g, q * 15 + 4, none⟩ (.int .i64 3)).setCell ⟨g, q * 15 + 13, none⟩ (.int .i64 1)).setCell ⟨g, q * 15 + 12, none⟩ (.int .i64 now)) g (q * 15) (Nb.cells { x with st := 3, asked := now, tries := 1 } (V q)) := p3
  rw [← hw3] at p4 n3
  have rN := hrow.but (W' := w3) n3.but (fun j e e2 => by have e2 : j = g := e2; rw [e2, hrg] at e; simp at e)
  have h3 : CAt ρ k w3 b m i lv (Lt.set q (t, { x with st := 3, asked := now, tries := 1 })) := H2.out.turn hq hlv (But.refl _ _) n3 p4 (fun _ _ _ => rfl) rN hnil
  have z3 := n3.but.size
  have sp := SZ2.out
  have ci3 := CI2.out.but (by omega) n3.but (fun e => sg e.symm)
  have cm3 := CM2.out.but (by omega) n3.but (fun e => tg e.symm)
  have fm3 : ∀ j, w3.frozen? ⟨s + 1, j, none⟩ = false := fun j => (n3.but.frozen (p := ⟨s + 1, j, none⟩) (by show s + 1 < _; omega) (fun e => tg e.symm)).trans (FM2.out j)
  have F3 := hide (F2.out.below z3)
  have M3 : Hid (Mv k ρ ρ W w3) := (Mv.below HB2.out).trans ⟨fun _ _ _ => rfl, n3.but.mono (fun j e => by have e : j = g := e; rw [e, hrg])⟩
  have mm : CellsAt w3 g (q * 15 + 5) x.mac.vals := by
    have e : Nb.cells { x with st := 3, asked := now, tries := 1 } (V q) = (x.ip.vals ++ [.int .i64 3]) ++ (x.mac.vals ++ [.int .i64 x.since, .int .i64 now, .int .i64 1, V q]) := rfl
    rw [e] at p4
    exact (CellsAt.append.1 (CellsAt.append.1 p4).2).1
  have H3 := hide h3
  have CI3 := hide ci3
  have CM3 := hide cm3
  have FM3 := hide fm3
  have MM := hide mm
  have SP3 : Hid (s + 2 ≤ w3.heap.size) := by unfold Hid; omega
  have fzz := hfz
  have G3 : Hid (g < w3.heap.size) := by unfold Hid; omega
  have RT := hide rt
  have HLV := hide hlv
  have SG := hide sg
  have TG := hide tg
  have HBL := hide h.lt
  have RQ := hide (rrequest_any b m i ip h3.host)
  rw [show ip.val = .agg #[.int .u8 ip.a, .int .u8 ip.b, .int .u8 ip.c, .int .u8 ip.d] from rfl] at RQ
  have j0 := ci3 0 _ rfl
  have j1 := ci3 1 _ rfl
  have j2 := ci3 2 _ rfl
  have j3 := ci3 3 _ rfl
  simp only [Nat.zero_add] at j0 j1 j2 j3
  clear hf hst hR2 hP2 hcs cx hrow hnil hrg hlv hq hX EX rs rt p1 p2 p3 p4 n1 n2 n3 rN h3 z3 sp ci3 cm3 fm3 mm sg tg
  have hw3' := hw3.symm
  clear hw3
  go_wp2_with fail
  clear hw3' c4 c11 c12 c13 fzz hfz j0 j1 j2 j3 xl EP x0 x1 hn1 hnp
  refine RQ.out.mono ?_
  rintro _ w4 ⟨rfl, b4⟩
  have sp := SP3.out
  have sz4 := b4.size
  obtain ⟨r, hr⟩ : ∃ r : Ar, r = ⟨false, m, i, zM, ip⟩ := ⟨_, rfl⟩
  rw [← hr]
  obtain ⟨a6, c6, w6, hrun, hRF, b6⟩ := arp_one w4 r
  obtain ⟨p5, hp5⟩ : ∃ p5, p5 = w4.heap.size := ⟨_, rfl⟩
  obtain ⟨w5, hw5⟩ : ∃ w5, w5 = w4.alloc (.cells r.vals.toArray 27) := ⟨_, rfl⟩
  rw [← hw5, ← hp5] at hrun
  have HRUN := hide hrun
  have b36 : Below w3.heap.size w3 w6 := b4.trans (b6.mono sz4)
  have sz6 := b36.size
  have xl6 : w6.cell? ⟨b, 10, none⟩ = some (.slice (some ⟨g, 0, none⟩) nl c) := by
    rw [HNL.out, ← HLV.out]
    exact (H3.out.later b36).lst
  have mm6 := MM.out.later G3.out b36
  have m0 := mm6 0 _ rfl
  have m1 := mm6 1 _ rfl
  have m2 := mm6 2 _ rfl
  have m3 := mm6 3 _ rfl
  have m4 := mm6 4 _ rfl
  have m5 := mm6 5 _ rfl
  simp only [Nat.add_assoc, Nat.reduceAdd] at m0 m1 m2 m3 m4 m5
  have cm6 := CM3.out.later (by omega) b36
  have fm6 : ∀ j, w6.frozen? ⟨s + 1, j, none⟩ = false := fun j => (b36.frozen (p := ⟨s + 1, j, none⟩) (by show s + 1 < _; omega)).trans (FM3.out j)
  have z0 := cm6 0 _ rfl
  have z1 := cm6 1 _ rfl
  have z2 := cm6 2 _ rfl
  have z3 := cm6 3 _ rfl
  have z4 := cm6 4 _ rfl
  have z5 := cm6 5 _ rfl
  simp only [Nat.zero_add] at z0 z1 z2 z3 z4 z5
  have LV := hide (run_loadVarA 23 6 aggM sizM (s + 1) 0 x.mac.vals rfl (cm6.stored rfl))
  have FIN : Hid (FdEnd ρ k W b m i ip (fd ip buf now (Lt.map Prod.snd)) (.returned (.tuple #[x.mac.val, .slice none 0 0, .slice a6 1 c6, .int .i64 0])) (w6.setCells (s + 1) 0 x.mac.vals)) := by
    unfold Hid
    rw [EF.out]
    have hW3 := M3.out.but.size
    refine FdEnd.put (r := ⟨x.mac, [], true, 0, (Lt.map Prod.snd).set q { x with st := 3, asked := now, tries := 1 }⟩) (⟨_, _, SETS.out _, H3.out.later b36⟩) (F3.out.below b36.size) (M3.out.trans (Mv.below b36)) (s + 1) (by have := HS.out; omega) RT.out (RowN.nil _ _) ?_
    rw [hr] at hRF
    exact hRF.own (fun g _ e => ⟨⟨F3.out g (by omega), .inl (by omega)⟩, by omega⟩)
  have hw5' := hw5.symm
  have hp5' := hp5.symm
  have zf := fm6
  have TG' := TG.out
  clear hw5 hp5 hrun hRF b6 b36 b4 sz4 sz6 mm6 cm6 fm6 hr RQ sp
  rw [show r.val = .agg r.vals.toArray from rfl]
  go_wp2_with (first | (refine wpList_val rfl (exec_bsA (.tmp 81) r rfl rfl) ?_; rw [hw5', hp5']) | (at_builtin; refine wpList_appT rfl 53 _ _ rfl rfl _ _ rfl rfl HRUN.out ?_))
  refine bodyPost_ret (v := .tuple #[x.mac.val, .slice none 0 0, .slice a6 1 c6, .int .i64 0]) ?_ rfl FIN.out
  exact results_4 rfl _ _ (s + 1) _ _ _ _ rfl rfl rfl rfl LV.out
end
end Go.Proofs.Ytdcpnjlldocdcaa
