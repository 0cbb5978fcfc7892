
/-
  Package arp: the contract of Find, where the neighbour is there.
-/
import Derived.Test.YtdcpnjlldocdcaaA22
namespace Go.Proofs.Ytdcpnjlldocdcaa
open Go.RowKit Go.Shelf
section
variable {ρ : Nat → Role} {k : Nat} {W : World} {b : Nat} {m : M6} {i : I4} {lv : Value} {Lt : List (Nat × Nb)} {L : List Nb}
set_option maxRecDepth 100000 in
set_option maxHeartbeats 2000000 in
theorem find_old (h : CAt ρ k W b m i lv Lt) (hF : Fit ρ W) (now buf : Int) (hok : LOk now (Lt.map Prod.snd)) (ip : I4) (q t : Nat) (x : Nb) (hf : fndI ip (Lt.map Prod.snd) = some q) (hq : Lt[q]? = some (t, x)) (hst : x.st = 2) (hnp : 64 ≤ now - x.since) (hn1 : now ≤ 4611686018427387904) :
    Calls Try.prog 19 #[.pointer (some ⟨b, 0, none⟩), ip.val, .int .i64 buf, .int .i64 now] W (FdEnd ρ k W b m i ip (fd ip buf now (Lt.map Prod.snd))) := by
  have hlen : Lt.length ≤ 8 := by have := hok.len; simpa using this
  obtain ⟨s, hs⟩ : ∃ s, s = W.heap.size := ⟨_, rfl⟩
  obtain ⟨w1, hw1⟩ : ∃ w1, w1 = (W.alloc (.cells #[.int .u8 ip.a, .int .u8 ip.b, .int .u8 ip.c, .int .u8 ip.d] 25)).alloc (.cells #[.int .u8 0, .int .u8 0, .int .u8 0, .int .u8 0, .int .u8 0, .int .u8 0] 23) := ⟨_, rfl⟩
  have hb1 : Below W.heap.size W w1 := by rw [hw1]; exact ((Below.refl _ W).alloc (Nat.le_refl _) _).alloc (by simp) _
  have sz1 : w1.heap.size = s + 2 := by rw [hw1]; simp [hs]
  have ci1 : CellsAt w1 s 0 ip.vals := by
    rw [hw1, hs]
    exact (CellsAt.new W ip.vals 25).but (by simp) ((But.refl (fun _ => False) _).alloc _) id
  have cm1 : CellsAt w1 (s + 1) 0 zM.vals := by
    have := CellsAt.new (W.alloc (.cells #[.int .u8 ip.a, .int .u8 ip.b, .int .u8 ip.c, .int .u8 ip.d] 25)) zM.vals 23
    rw [World.size_alloc, ← hs] at this
    rw [hw1]; exact this
  have fm1 : ∀ j, w1.frozen? ⟨s + 1, j, none⟩ = false := fun j => by
    have := frozen_new (W.alloc (.cells #[.int .u8 ip.a, .int .u8 ip.b, .int .u8 ip.c, .int .u8 ip.d] 25)) #[.int .u8 0, .int .u8 0, .int .u8 0, .int .u8 0, .int .u8 0, .int .u8 0] 23 j
    rw [World.size_alloc, ← hs] at this
    rw [hw1]; exact this
  obtain ⟨g, hg, NB⟩ := (h.later hb1).neighbour (by omega) ip
  have HNB := hide NB
  have H1 := hide (h.later hb1)
  have F1 := hide (hF.below hb1.size)
  have HB1 := hide hb1
  have CI := hide ci1
  have CM := hide cm1
  have FM := hide fm1
  have SZ := hide sz1
  have HS := hide hs
  have HG := hide hg
  have HOK := hide hok
  have HF0 := hide hF
  clear NB hb1 ci1 cm1 fm1 sz1 hF
  rw [show ip.val = .agg #[.int .u8 ip.a, .int .u8 ip.b, .int .u8 ip.c, .int .u8 ip.d] from rfl] at HNB ⊢
  go_enter Try.func19, Try.ntmps19
  have hw1' := hw1.symm
  have hs' := hs.symm
  clear hw1 hs
  have i0 := CI.out 0 _ rfl
  have i1 := CI.out 1 _ rfl
  have i2 := CI.out 2 _ rfl
  have i3 := CI.out 3 _ rfl
  simp only [Nat.zero_add] at i0 i1 i2 i3
  go_wp2_with fail
  clear hw1' hs' i0 i1 i2 i3
  refine HNB.out.mono ?_
  rintro _ w2 ⟨rfl, hb2⟩
  have sL1 : s < w1.heap.size := by have := SZ.out; omega
  have tL1 : s + 1 < w1.heap.size := by have := SZ.out; omega
  have H2 := hide (H1.out.later hb2)
  have F2 := hide (F1.out.below hb2.size)
  have CI2 := hide (CI.out.later sL1 hb2)
  have CM2 := hide (CM.out.later tL1 hb2)
  have FM2 : Hid (∀ j, w2.frozen? ⟨s + 1, j, none⟩ = false) := fun j => (hb2.frozen (p := ⟨s + 1, j, none⟩) tL1).trans (FM.out j)
  have HB2 : Hid (Below W.heap.size W w2) := HB1.out.trans (hb2.mono HB1.out.size)
  have SZ2 : Hid (s + 2 ≤ w2.heap.size) := by have := SZ.out; have := hb2.size; unfold Hid; omega
  clear HNB H1 F1 CI CM FM hb2 sL1 tL1
  obtain ⟨hrg, c, hlv⟩ := HG.out (by have := (List.getElem?_eq_some_iff.1 hq).1; omega)
  obtain ⟨V, hR2, hP2⟩ := H2.out.row.parts
  rw [hlv] at hR2
  have hql : q < Lt.length := (List.getElem?_eq_some_iff.1 hq).1
  obtain ⟨g', eg, hg2, _, hfz, hcs⟩ := hR2.at (by omega)
  cases eg
  have cx := hcs q hql
  rw [nbc_at hq] at cx
  obtain ⟨hrow, hnil⟩ := hP2 q t x hq
  have hX : NOk now x := HOK.out.all x (List.mem_of_getElem? (by rw [List.getElem?_map, hq]; rfl))
  have hgs : g < W.heap.size := Classical.byContradiction fun hn => by
    rw [HF0.out g (by omega)] at hrg
    simp at hrg
  have sg : g ≠ s := by have := HS.out; omega
  have tg : g ≠ s + 1 := by have := HS.out; omega
  have k0 := h.pos
  have rs : ρ s = (0, 0, 0) := HF0.out s (by have := HS.out; omega)
  have rt : ρ (s + 1) = (0, 0, 0) := HF0.out (s + 1) (by have := HS.out; omega)
  have EX : Hid ((Lt.map Prod.snd)[q]? = some x) := by unfold Hid; rw [List.getElem?_map, hq]; rfl
  have SETS : Hid (∀ x', (Lt.set q (t, x')).map Prod.snd = (Lt.map Prod.snd).set q x') := fun x' => List.map_set
  rw [hf]
  simp only [Option.map_some]
  have EF : Hid (fd ip buf now (Lt.map Prod.snd) = ⟨x.mac, [], true, 0, (Lt.map Prod.snd).set q { x with st := 3, asked := now, tries := 1 }⟩) := by
    unfold Hid fd
    rw [hf]
    simp only [EX.out]
    rw [if_neg (by omega), if_pos ⟨hst, hnp⟩]
  have c4 : w2.cell? ⟨g, q * 15 + 4, none⟩ = some (.int .i64 2) := by have := cx 4 _ rfl; rw [← hst]; exact this
  have c11 : w2.cell? ⟨g, q * 15 + 11, none⟩ = some (.int .i64 x.since) := cx 11 _ rfl
  have c12 : w2.cell? ⟨g, q * 15 + 12, none⟩ = some (.int .i64 x.asked) := cx 12 _ rfl
  have c13 : w2.cell? ⟨g, q * 15 + 13, none⟩ = some (.int .i64 x.tries) := cx 13 _ rfl
  have x0 := hX.since0
  have x1 := hX.since1
  have HP := hide (havePassed_any x.since now 64 w2 (by omega) (by omega) (by omega))
  have EP : psB x.since now 64 = true := by unfold psB; simp only [decide_eq_true_eq]; omega
  rw [EP] at HP
  obtain ⟨w3, hw3⟩ : ∃ w3, w3 = ((w2.setCell ⟨g, q * 15 + 4, none⟩ (.int .i64 3)).setCell ⟨g, q * 15 + 12, none⟩ (.int .i64 now)).setCell ⟨g, q * 15 + 13, none⟩ (.int .i64 1) := ⟨_, rfl⟩
  have p1 := cx.put 4 (.int .i64 3) (by rw [Nb.cells_len]; omega)
  have n1 : Near w2 (w2.setCell ⟨g, q * 15 + 4, none⟩ (.int .i64 3)) g (q * 15) := (Near.refl _ _ _).cell 4 _ (by omega) (cx.is 4 (by rw [Nb.cells_len]; omega))
  have p2 := p1.put 12 (.int .i64 now) (by rw [List.length_set, Nb.cells_len]; omega)
  have n2 := n1.cell 12 (.int .i64 now) (by omega) (p1.is 12 (by rw [List.length_set, Nb.cells_len]; omega))
  have p3 := p2.put 13 (.int .i64 1) (by rw [List.length_set, List.length_set, Nb.cells_len]; omega)
  have n3 := n2.cell 13 (.int .i64 1) (by omega) (p2.is 13 (by rw [List.length_set, List.length_set, Nb.cells_len]; omega))
  have p4 : CellsAt (((w2.setCell ⟨g, q * 15 + 4, none⟩ (.int .i64 3)).setCell ⟨g, q * 15 + 12, none⟩ (.int .i64 now)).setCell ⟨g, q * 15 + 13, none⟩ (.int .i64 1)) g (q * 15) (Nb.cells { x with st := 3, asked := now, tries := 1 } (V q)) := p3
  rw [← hw3] at p4 n3
  have rN := hrow.but (W' := w3) n3.but (fun j e e2 => by have e2 : j = g := e2; rw [e2, hrg] at e; simp at e)
  have h3 : CAt ρ k w3 b m i lv (Lt.set q (t, { x with st := 3, asked := now, tries := 1 })) := H2.out.turn hq hlv (But.refl _ _) n3 p4 (fun _ _ _ => rfl) rN hnil
  have z3 := n3.but.size
  have sp := SZ2.out
  have ci3 := CI2.out.but (by omega) n3.but (fun e => sg e.symm)
  have cm3 := CM2.out.but (by omega) n3.but (fun e => tg e.symm)
  have fm3 : ∀ j, w3.frozen? ⟨s + 1, j, none⟩ = false := fun j => (n3.but.frozen (p := ⟨s + 1, j, none⟩) (by show s + 1 < _; omega) (fun e => tg e.symm)).trans (FM2.out j)
  have F3 := hide (F2.out.below z3)
  have M3 : Hid (Mv k ρ ρ W w3) := (Mv.below HB2.out).trans ⟨fun _ _ _ => rfl, n3.but.mono (fun j e => by have e : j = g := e; rw [e, hrg])⟩
  have mm : CellsAt w3 g (q * 15 + 5) x.mac.vals := by
    have e : Nb.cells { x with st := 3, asked := now, tries := 1 } (V q) = (x.ip.vals ++ [.int .i64 3]) ++ (x.mac.vals ++ [.int .i64 x.since, .int .i64 now, .int .i64 1, V q]) := rfl
    rw [e] at p4
    exact (CellsAt.append.1 (CellsAt.append.1 p4).2).1
  have H3 := hide h3
  have CI3 := hide ci3
  have CM3 := hide cm3
  have FM3 := hide fm3
  have MM := hide mm
  have SP3 : Hid (s + 2 ≤ w3.heap.size) := by unfold Hid; omega
  have fzz := hfz
  have G3 : Hid (g < w3.heap.size) := by unfold Hid; omega
  have RT := hide rt
  have SG := hide sg
  have TG := hide tg
  clear hf hst hnp EP x0 x1 hn1 hR2 hP2 hcs cx hrow hnil hrg hlv hq hX EX rs rt p1 p2 p3 p4 n1 n2 n3 rN h3 z3 sp ci3 cm3 fm3 mm sg tg
  go_wp2_with fail
  refine HP.out.mono ?_
  rintro _ _ ⟨rfl, rfl⟩
  have hw3' := hw3.symm
  clear hw3 HP
  go_wp2
  clear hw3' c4 c11 c12 c13 fzz hfz
  have sp := SP3.out
  obtain ⟨r, hr⟩ : ∃ r : Ar, r = ⟨false, m, i, zM, ip⟩ := ⟨_, rfl⟩
  have S0 : CellsAt w3.drew g (q * 15 + 5) x.mac.vals ∧ CellsAt w3.drew s 0 ip.vals := ⟨MM.out, CI3.out⟩
  refine region_out (fun W' => CellsAt W' g (q * 15 + 5) x.mac.vals ∧ CellsAt W' s 0 ip.vals) (by kernel_rfl) ?_
  refine takeD (i := 0) (v := .pointer (some ⟨g, q * 15, none⟩)) 82 rfl rfl (by kernel_rfl) (by kernel_rfl) (by kernel_rfl) (fun _ _ _ h => h) (.inl ⟨by rfl, fun W hW => exec_move _ _ rfl rfl⟩) (S0) ?_
  try simp only [Act.put, List.setIfInBounds_toArray, List.set_cons_zero, List.set_cons_succ]
  refine takeD (i := 1) (v := .pointer (some ⟨g, q * 15, none⟩)) 83 rfl rfl (by kernel_rfl) (by kernel_rfl) (by kernel_rfl) (fun _ _ _ h => h) (.inl ⟨by rfl, fun W hW => exec_nil _ _ rfl rfl⟩) (S0) ?_
  try simp only [Act.put, List.setIfInBounds_toArray, List.set_cons_zero, List.set_cons_succ]
  refine takeD (i := 2) (v := .pointer (some ⟨g, q * 15 + 5, none⟩)) 84 rfl rfl (by kernel_rfl) (by kernel_rfl) (by kernel_rfl) (fun _ _ _ h => h) (.inl ⟨by rfl, fun W hW => exec_fieldO 66 _ 2 g (q * 15) (q * 15 + 5) rfl rfl (fun w => by kernel_rfl)⟩) (S0) ?_
  try simp only [Act.put, List.setIfInBounds_toArray, List.set_cons_zero, List.set_cons_succ]
  refine takeD (i := 3) (v := .agg (x.mac.vals).toArray) 85 rfl rfl (by kernel_rfl) (by kernel_rfl) (by kernel_rfl) (fun _ _ _ h => h) (.inl ⟨by rfl, fun W hW => exec_loadA 23 6 aggM sizM _ rfl g (q * 15 + 5) rfl (x.mac.vals) rfl (hW.1)⟩) (S0) ?_
  try simp only [Act.put, List.setIfInBounds_toArray, List.set_cons_zero, List.set_cons_succ]
  refine takeD (i := 4) (v := .pointer (some ⟨b, 0, none⟩)) 86 rfl rfl (by kernel_rfl) (by kernel_rfl) (by kernel_rfl) (fun _ _ _ h => h) (.inl ⟨by rfl, fun W hW => exec_move _ _ rfl rfl⟩) (S0) ?_
  try simp only [Act.put, List.setIfInBounds_toArray, List.set_cons_zero, List.set_cons_succ]
  refine takeD (i := 5) (v := .agg (ip.vals).toArray) 87 rfl rfl (by kernel_rfl) (by kernel_rfl) (by kernel_rfl) (fun _ _ _ h => h) (.inl ⟨by rfl, fun W hW => exec_loadA 25 4 aggI sizI _ rfl s 0 rfl (ip.vals) rfl (hW.2)⟩) (S0) ?_
  try simp only [Act.put, List.setIfInBounds_toArray, List.set_cons_zero, List.set_cons_succ]
  refine callD 6 88 (by kernel_rfl) rfl rfl (by rfl) 33 #[.pointer (some ⟨b, 0, none⟩), ip.val] (by kernel_rfl) (fun v w9 => v = .agg r.vals.toArray ∧ Below w3.heap.size w3.drew w9) (((H3.out.later (W' := w3.drew) ((Below.refl _ w3).drew)).request ip).mono (fun e w' h => ⟨_, h.1, by rw [hr]; rfl, h.2⟩)) ?_
  rintro v w9 ⟨rfl, b9'⟩
  have b9 : Below w3.heap.size w3 w9 := ((Below.refl _ w3).drew).trans b9'
  have sz9 := b9.size
  have mL : ∀ W', Below w3.heap.size w3 W' → CellsAt W' g (q * 15 + 5) x.mac.vals ∧ CellsAt W' s 0 ip.vals := fun W' hb => ⟨MM.out.later G3.out hb, CI3.out.later (by omega) hb⟩
  refine ⟨mL _ b9, ?_⟩
  simp only [Act.put, List.setIfInBounds_toArray, List.set_cons_zero, List.set_cons_succ]
  obtain ⟨s9, hs9⟩ : ∃ s9, s9 = w9.heap.size := ⟨_, rfl⟩
  have FIN : Hid (∀ wz, But (Only (s + 1)) w3 wz → CellsAt wz s9 0 r.vals → (∀ j, wz.frozen? ⟨s9, j, none⟩ = false) → s9 < wz.heap.size → FdEnd ρ k W b m i ip (fd ip buf now (Lt.map Prod.snd)) (.returned (.tuple #[x.mac.val, .slice none 0 0, .slice (some ⟨s9, 0, none⟩) 1 1, .int .i64 0])) wz) := fun wz bz cz fz lz => by
    rw [EF.out]
    have hW3 := M3.out.but.size
    refine FdEnd.fin (ρ' := ρ) (r := ⟨x.mac, [], true, 0, (Lt.map Prod.snd).set q { x with st := 3, asked := now, tries := 1 }⟩) ⟨_, _, SETS.out _, H3.out⟩ F3.out M3.out (s + 1) (by have := HS.out; omega) RT.out bz (RowN.nil _ _) ?_
    refine ⟨_, 1, rfl, Nat.le_refl _, by unfold maxLen; omega, (fun e => by cases e), fun ad e => ?_⟩
    cases e
    refine ⟨s9, rfl, ⟨F3.out _ (by omega), .inl (by omega)⟩, lz, fun j hj => ?_, fz, fun q hq => ?_⟩
    · have := cz.is j hj
      rw [Nat.zero_add] at this
      exact this
    · have : q = 0 := by simp at hq; omega
      subst this
      rw [Nat.zero_mul]
      show CellsAt wz s9 0 (Ar.vals ⟨false, m, i, zM, ip⟩)
      rw [← hr]; exact cz
  have bS9 : ∀ w', Below w3.heap.size w3 w' → But (Only (s + 1)) w3 w' := fun w' hb => But.of_below hb
  have NS : s ≠ s + 1 := by omega
  have st9 : s9 ≠ s + 1 := by omega
  refine wpAnyH_all (rs := [7, 8]) (by kernel_rfl) (by simp) (fun q' hq' => ?_)
  rcases List.mem_cons.1 hq' with rfl | hq'
  · obtain ⟨w10, hw10⟩ : ∃ w10, w10 = w9.alloc (.cells r.vals.toArray 27) := ⟨_, rfl⟩
    have b10 : Below w3.heap.size w3 w10 := by rw [hw10]; exact b9.alloc sz9 _
    have c10 : CellsAt w10 s9 0 r.vals := by rw [hw10, hs9]; exact CellsAt.new w9 r.vals 27
    have f10 : ∀ j, w10.frozen? ⟨s9, j, none⟩ = false := fun j => by rw [hw10, hs9]; exact frozen_new w9 _ _ _
    have sz10 : w10.heap.size = s9 + 1 := by rw [hw10, hs9]; simp
    have cm10 := CM3.out.later (by omega) b10
    have fm10 : ∀ j, w10.frozen? ⟨s + 1, j, none⟩ = false := fun j => (b10.frozen (p := ⟨s + 1, j, none⟩) (by show s + 1 < _; omega)).trans (FM3.out j)
    have bS := But.cells (s + 1) x.mac.vals 0 w10
    have SE : CellsAt (w10.setCells (s + 1) 0 x.mac.vals) g (q * 15 + 5) x.mac.vals ∧ CellsAt (w10.setCells (s + 1) 0 x.mac.vals) s 0 ip.vals := ⟨(mL _ b10).1.but (by have := G3.out; omega) bS TG.out, (mL _ b10).2.but (by omega) bS NS⟩
    refine opD_val (w' := w10) 7 89 (.slice (some ⟨s9, 0, none⟩) 1 1) rfl rfl (by rfl) (by rw [hw10, hs9]; exact exec_bsA _ r rfl rfl) ⟨mL _ b10, ?_⟩
    simp only [Act.put, List.setIfInBounds_toArray, List.set_cons_zero, List.set_cons_succ]
    refine storeD (w' := w10.setCells (s + 1) 0 x.mac.vals) 8 (by kernel_rfl) rfl rfl (by rfl) (exec_storeA 23 6 sizM _ _ rfl (s + 1) 0 rfl x.mac.vals zM.vals rfl rfl rfl cm10 fm10 (m6_one _)) (SE) ?_
    try simp only [Act.put, List.setIfInBounds_toArray, List.set_cons_zero, List.set_cons_succ]
    refine takeD (i := 9) (v := .slice none 0 0) 9 rfl rfl (by kernel_rfl) (by kernel_rfl) (by kernel_rfl) (fun _ _ _ h => h) (.inl ⟨by rfl, fun W hW => exec_assign _ _ rfl rfl⟩) (SE) ?_
    try simp only [Act.put, List.setIfInBounds_toArray, List.set_cons_zero, List.set_cons_succ]
    refine takeD (i := 10) (v := .slice (some ⟨s9, 0, none⟩) 1 1) 10 rfl rfl (by kernel_rfl) (by kernel_rfl) (by kernel_rfl) (fun _ _ _ h => h) (.inl ⟨by rfl, fun W hW => exec_assign _ _ rfl rfl⟩) (SE) ?_
    try simp only [Act.put, List.setIfInBounds_toArray, List.set_cons_zero, List.set_cons_succ]
    refine takeD (i := 11) (v := .int .i64 0) 11 rfl rfl (by kernel_rfl) (by kernel_rfl) (by kernel_rfl) (fun _ _ _ h => h) (.inl ⟨by rfl, fun W hW => exec_assign _ _ rfl rfl⟩) (SE) ?_
    try simp only [Act.put, List.setIfInBounds_toArray, List.set_cons_zero, List.set_cons_succ]
    refine wpAnyH_done (by kernel_rfl) ?_ _
    have FE := hide (FIN.out _ ((bS9 _ b10).trans bS) (c10.but (by omega) bS st9) (fun j => (bS.frozen (p := ⟨s9, j, none⟩) (by show s9 < _; omega) st9).trans (f10 j)) (by have := bS.size; omega))
    have LV := hide (run_loadVarA 23 6 aggM sizM (s + 1) 0 x.mac.vals rfl (cm10.stored rfl))
    obtain ⟨w11, hw11⟩ : ∃ w11, w11 = w10.setCells (s + 1) 0 x.mac.vals := ⟨_, rfl⟩
    rw [← hw11] at FE LV ⊢
    clear hs9 hw11 bS SE S0 mL b9 b9' sz9 c10 f10 sz10 cm10 fm10 hw10 b10 hr sp bS9
    go_wp2
    refine bodyPost_ret (v := .tuple #[x.mac.val, .slice none 0 0, .slice (some ⟨s9, 0, none⟩) 1 1, .int .i64 0]) ?_ rfl FE.out
    exact results_4 rfl _ _ (s + 1) _ _ _ _ rfl rfl rfl rfl LV.out
  · obtain rfl : q' = 8 := by simpa using hq'
    have cm9 := CM3.out.later (by omega) b9
    have fm9 : ∀ j, w9.frozen? ⟨s + 1, j, none⟩ = false := fun j => (b9.frozen (p := ⟨s + 1, j, none⟩) (by show s + 1 < _; omega)).trans (FM3.out j)
    have bS := But.cells (s + 1) x.mac.vals 0 w9
    have SE : CellsAt (w9.setCells (s + 1) 0 x.mac.vals) g (q * 15 + 5) x.mac.vals ∧ CellsAt (w9.setCells (s + 1) 0 x.mac.vals) s 0 ip.vals := ⟨(mL _ b9).1.but (by have := G3.out; omega) bS TG.out, (mL _ b9).2.but (by omega) bS NS⟩
    have cS := cm9.stored (vs := x.mac.vals) rfl
    have szS := size_setCells (s + 1) x.mac.vals 0 w9
    obtain ⟨wa, hwa⟩ : ∃ wa, wa = w9.setCells (s + 1) 0 x.mac.vals := ⟨_, rfl⟩
    refine opD_store (w' := wa) 8 rfl rfl (by rfl) (by rw [hwa]; exact exec_storeA 23 6 sizM _ _ rfl (s + 1) 0 rfl x.mac.vals zM.vals rfl rfl rfl cm9 fm9 (m6_one _)) ?_
    rw [← hwa] at SE cS szS bS
    refine ⟨SE, ?_⟩
    have bn : But (fun _ => False) wa (wa.alloc (.cells r.vals.toArray 27)) := (But.refl _ _).alloc _
    have SF : CellsAt (wa.alloc (.cells r.vals.toArray 27)) g (q * 15 + 5) x.mac.vals ∧ CellsAt (wa.alloc (.cells r.vals.toArray 27)) s 0 ip.vals := ⟨SE.1.but (by have := G3.out; omega) bn id, SE.2.but (by omega) bn id⟩
    refine takeD (i := 9) (v := .slice none 0 0) 9 rfl rfl (by kernel_rfl) (by kernel_rfl) (by kernel_rfl) (fun _ _ _ h => h) (.inl ⟨by rfl, fun W hW => exec_assign _ _ rfl rfl⟩) (SE) ?_
    try simp only [Act.put, List.setIfInBounds_toArray, List.set_cons_zero, List.set_cons_succ]
    refine nextD (w' := wa.alloc (.cells r.vals.toArray 27)) 7 89 (.slice (some ⟨s9, 0, none⟩) 1 1) (by kernel_rfl) rfl rfl (by rfl) (by rw [hs9, ← szS]; exact exec_bsA _ r rfl rfl) (SF) ?_
    try simp only [Act.put, List.setIfInBounds_toArray, List.set_cons_zero, List.set_cons_succ]
    refine takeD (i := 10) (v := .slice (some ⟨s9, 0, none⟩) 1 1) 10 rfl rfl (by kernel_rfl) (by kernel_rfl) (by kernel_rfl) (fun _ _ _ h => h) (.inl ⟨by rfl, fun W hW => exec_assign _ _ rfl rfl⟩) (SF) ?_
    try simp only [Act.put, List.setIfInBounds_toArray, List.set_cons_zero, List.set_cons_succ]
    refine takeD (i := 11) (v := .int .i64 0) 11 rfl rfl (by kernel_rfl) (by kernel_rfl) (by kernel_rfl) (fun _ _ _ h => h) (.inl ⟨by rfl, fun W hW => exec_assign _ _ rfl rfl⟩) (SF) ?_
    try simp only [Act.put, List.setIfInBounds_toArray, List.set_cons_zero, List.set_cons_succ]
    refine wpAnyH_done (by kernel_rfl) ?_ _
    have FE := hide (FIN.out (wa.alloc (.cells r.vals.toArray 27)) (((bS9 _ b9).trans bS).trans (bn.mono (fun _ e => e.elim))) (by rw [hs9, ← szS]; exact CellsAt.new wa r.vals 27) (fun j => by rw [hs9, ← szS]; exact frozen_new wa _ _ _) (by simp; omega))
    have LV := hide (run_loadVarA 23 6 aggM sizM (s + 1) 0 x.mac.vals rfl (cS.but (by omega) bn id))
    obtain ⟨w11, hw11⟩ : ∃ w11, w11 = wa.alloc (.cells r.vals.toArray 27) := ⟨_, rfl⟩
    rw [← hw11] at FE LV ⊢
    clear hs9 hw11 bS SE S0 mL b9 b9' sz9 hr sp bS9 cm9 fm9 cS szS bn SF hwa
    go_wp2
    refine bodyPost_ret (v := .tuple #[x.mac.val, .slice none 0 0, .slice (some ⟨s9, 0, none⟩) 1 1, .int .i64 0]) ?_ rfl FE.out
    exact results_4 rfl _ _ (s + 1) _ _ _ _ rfl rfl rfl rfl LV.out
end
end Go.Proofs.Ytdcpnjlldocdcaa
