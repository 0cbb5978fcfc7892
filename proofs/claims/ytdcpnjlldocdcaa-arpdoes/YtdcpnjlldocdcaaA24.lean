
/-
  Package arp: the contract of Find, where the neighbour is there.
-/
import Derived.Test.YtdcpnjlldocdcaaA22
namespace Go.Proofs.Ytdcpnjlldocdcaa
open Go.RowKit Go.Shelf
section
variable {ρ : Nat → Role} {k : Nat} {W : World} {b : Nat} {m : M6} {i : I4} {lv : Value} {Lt : List (Nat × Nb)} {L : List Nb}
set_option maxRecDepth 100000 in
set_option maxHeartbeats 2000000 in
theorem find_aged (h : CAt ρ k W b m i lv Lt) (hF : Fit ρ W) (now buf : Int) (hok : LOk now (Lt.map Prod.snd)) (ip : I4) (q t : Nat) (x : Nb) (hf : fndI ip (Lt.map Prod.snd) = some q) (hq : Lt[q]? = some (t, x)) (hst : x.st = 3) :
    Calls Try.prog 19 #[.pointer (some ⟨b, 0, none⟩), ip.val, .int .i64 buf, .int .i64 now] W (FdEnd ρ k W b m i ip (fd ip buf now (Lt.map Prod.snd))) := by
  have hlen : Lt.length ≤ 8 := by have := hok.len; simpa using this
  obtain ⟨s, hs⟩ : ∃ s, s = W.heap.size := ⟨_, rfl⟩
  obtain ⟨w1, hw1⟩ : ∃ w1, w1 = (W.alloc (.cells #[.int .u8 ip.a, .int .u8 ip.b, .int .u8 ip.c, .int .u8 ip.d] 25)).alloc (.cells #[.int .u8 0, .int .u8 0, .int .u8 0, .int .u8 0, .int .u8 0, .int .u8 0] 23) := ⟨_, rfl⟩
  have hb1 : Below W.heap.size W w1 := by rw [hw1]; exact ((Below.refl _ W).alloc (Nat.le_refl _) _).alloc (by simp) _
  have sz1 : w1.heap.size = s + 2 := by rw [hw1]; simp [hs]
  have ci1 : CellsAt w1 s 0 ip.vals := by
    rw [hw1, hs]
    exact (CellsAt.new W ip.vals 25).but (by simp) ((But.refl (fun _ => False) _).alloc _) id
  have cm1 : CellsAt w1 (s + 1) 0 zM.vals := by
    have := CellsAt.new (W.alloc (.cells #[.int .u8 ip.a, .int .u8 ip.b, .int .u8 ip.c, .int .u8 ip.d] 25)) zM.vals 23
    rw [World.size_alloc, ← hs] at this
    rw [hw1]; exact this
  have fm1 : ∀ j, w1.frozen? ⟨s + 1, j, none⟩ = false := fun j => by
    have := frozen_new (W.alloc (.cells #[.int .u8 ip.a, .int .u8 ip.b, .int .u8 ip.c, .int .u8 ip.d] 25)) #[.int .u8 0, .int .u8 0, .int .u8 0, .int .u8 0, .int .u8 0, .int .u8 0] 23 j
    rw [World.size_alloc, ← hs] at this
    rw [hw1]; exact this
  obtain ⟨g, hg, NB⟩ := (h.later hb1).neighbour (by omega) ip
  have HNB := hide NB
  have H1 := hide (h.later hb1)
  have F1 := hide (hF.below hb1.size)
  have HB1 := hide hb1
  have CI := hide ci1
  have CM := hide cm1
  have FM := hide fm1
  have SZ := hide sz1
  have HS := hide hs
  have HG := hide hg
  have HOK := hide hok
  have HF0 := hide hF
  clear NB hb1 ci1 cm1 fm1 sz1 hF
  rw [show ip.val = .agg #[.int .u8 ip.a, .int .u8 ip.b, .int .u8 ip.c, .int .u8 ip.d] from rfl] at HNB ⊢
  go_enter Try.func19, Try.ntmps19
  have hw1' := hw1.symm
  have hs' := hs.symm
  clear hw1 hs
  have i0 := CI.out 0 _ rfl
  have i1 := CI.out 1 _ rfl
  have i2 := CI.out 2 _ rfl
  have i3 := CI.out 3 _ rfl
  simp only [Nat.zero_add] at i0 i1 i2 i3
  go_wp2_with fail
  clear hw1' hs' i0 i1 i2 i3
  refine HNB.out.mono ?_
  rintro _ w2 ⟨rfl, hb2⟩
  have sL1 : s < w1.heap.size := by have := SZ.out; omega
  have tL1 : s + 1 < w1.heap.size := by have := SZ.out; omega
  have H2 := hide (H1.out.later hb2)
  have F2 := hide (F1.out.below hb2.size)
  have CI2 := hide (CI.out.later sL1 hb2)
  have CM2 := hide (CM.out.later tL1 hb2)
  have FM2 : Hid (∀ j, w2.frozen? ⟨s + 1, j, none⟩ = false) := fun j => (hb2.frozen (p := ⟨s + 1, j, none⟩) tL1).trans (FM.out j)
  have HB2 : Hid (Below W.heap.size W w2) := HB1.out.trans (hb2.mono HB1.out.size)
  have SZ2 : Hid (s + 2 ≤ w2.heap.size) := by have := SZ.out; have := hb2.size; unfold Hid; omega
  clear HNB H1 F1 CI CM FM hb2 sL1 tL1
  obtain ⟨hrg, c, hlv⟩ := HG.out (by have := (List.getElem?_eq_some_iff.1 hq).1; omega)
  obtain ⟨V, hR2, hP2⟩ := H2.out.row.parts
  rw [hlv] at hR2
  have hql : q < Lt.length := (List.getElem?_eq_some_iff.1 hq).1
  obtain ⟨g', eg, hg2, _, hfz, hcs⟩ := hR2.at (by omega)
  cases eg
  have cx := hcs q hql
  rw [nbc_at hq] at cx
  obtain ⟨hrow, hnil⟩ := hP2 q t x hq
  have hX : NOk now x := HOK.out.all x (List.mem_of_getElem? (by rw [List.getElem?_map, hq]; rfl))
  have hgs : g < W.heap.size := Classical.byContradiction fun hn => by
    rw [HF0.out g (by omega)] at hrg
    simp at hrg
  have sg : g ≠ s := by have := HS.out; omega
  have tg : g ≠ s + 1 := by have := HS.out; omega
  have k0 := h.pos
  have rs : ρ s = (0, 0, 0) := HF0.out s (by have := HS.out; omega)
  have rt : ρ (s + 1) = (0, 0, 0) := HF0.out (s + 1) (by have := HS.out; omega)
  have EX : Hid ((Lt.map Prod.snd)[q]? = some x) := by unfold Hid; rw [List.getElem?_map, hq]; rfl
  have SETS : Hid (∀ x', (Lt.set q (t, x')).map Prod.snd = (Lt.map Prod.snd).set q x') := fun x' => List.map_set
  rw [hf]
  simp only [Option.map_some]
  have EF : Hid (fd ip buf now (Lt.map Prod.snd) = ⟨x.mac, [], false, 0, Lt.map Prod.snd⟩) := by
    unfold Hid fd
    rw [hf]
    simp only [EX.out]
    rw [if_neg (by omega), if_neg (by omega)]
  have c4 : w2.cell? ⟨g, q * 15 + 4, none⟩ = some (.int .i64 3) := by have := cx 4 _ rfl; rw [← hst]; exact this
  have m0 := cx 5 _ rfl
  have m1 := cx 6 _ rfl
  have m2 := cx 7 _ rfl
  have m3 := cx 8 _ rfl
  have m4 := cx 9 _ rfl
  have m5 := cx 10 _ rfl
  have CX := hide cx
  have LV := hide (run_loadVarA 23 6 aggM sizM (s + 1) 0 x.mac.vals rfl (CM2.out.stored rfl))
  have FIN : Hid (FdEnd ρ k W b m i ip (fd ip buf now (Lt.map Prod.snd)) (.returned (.tuple #[x.mac.val, .slice none 0 0, .slice none 0 0, .int .i64 0])) (w2.setCells (s + 1) 0 x.mac.vals)) := by
    unfold Hid
    rw [EF.out]
    exact FdEnd.put (r := ⟨x.mac, [], false, 0, Lt.map Prod.snd⟩) ⟨_, _, rfl, H2.out⟩ F2.out (Mv.below HB2.out) (s + 1) (by have := HS.out; omega) rt (RowN.nil _ _) (RowF.nil _ _ _ _)
  have z0 := CM2.out 0 _ rfl
  have z1 := CM2.out 1 _ rfl
  have z2 := CM2.out 2 _ rfl
  have z3 := CM2.out 3 _ rfl
  have z4 := CM2.out 4 _ rfl
  have z5 := CM2.out 5 _ rfl
  simp only [Nat.zero_add] at z0 z1 z2 z3 z4 z5
  have zf := FM2.out
  clear hf hR2 hP2 hcs cx hrow hnil hfz hrg hlv hq hX EX SETS rs rt
  clear hst
  go_wp2
  refine bodyPost_ret (v := .tuple #[x.mac.val, .slice none 0 0, .slice none 0 0, .int .i64 0]) ?_ rfl FIN.out
  exact results_4 rfl _ _ (s + 1) _ _ _ _ rfl rfl rfl rfl LV.out
set_option maxRecDepth 100000 in
set_option maxHeartbeats 2000000 in
theorem find_known (h : CAt ρ k W b m i lv Lt) (hF : Fit ρ W) (now buf : Int) (hok : LOk now (Lt.map Prod.snd)) (ip : I4) (q t : Nat) (x : Nb) (hf : fndI ip (Lt.map Prod.snd) = some q) (hq : Lt[q]? = some (t, x)) (hst : x.st = 2) (hnp : ¬ 64 ≤ now - x.since) (hn1 : now ≤ 4611686018427387904) :
    Calls Try.prog 19 #[.pointer (some ⟨b, 0, none⟩), ip.val, .int .i64 buf, .int .i64 now] W (FdEnd ρ k W b m i ip (fd ip buf now (Lt.map Prod.snd))) := by
  have hlen : Lt.length ≤ 8 := by have := hok.len; simpa using this
  obtain ⟨s, hs⟩ : ∃ s, s = W.heap.size := ⟨_, rfl⟩
  obtain ⟨w1, hw1⟩ : ∃ w1, w1 = (W.alloc (.cells #[.int .u8 ip.a, .int .u8 ip.b, .int .u8 ip.c, .int .u8 ip.d] 25)).alloc (.cells #[.int .u8 0, .int .u8 0, .int .u8 0, .int .u8 0, .int .u8 0, .int .u8 0] 23) := ⟨_, rfl⟩
  have hb1 : Below W.heap.size W w1 := by rw [hw1]; exact ((Below.refl _ W).alloc (Nat.le_refl _) _).alloc (by simp) _
  have sz1 : w1.heap.size = s + 2 := by rw [hw1]; simp [hs]
  have ci1 : CellsAt w1 s 0 ip.vals := by
    rw [hw1, hs]
    exact (CellsAt.new W ip.vals 25).but (by simp) ((But.refl (fun _ => False) _).alloc _) id
  have cm1 : CellsAt w1 (s + 1) 0 zM.vals := by
    have := CellsAt.new (W.alloc (.cells #[.int .u8 ip.a, .int .u8 ip.b, .int .u8 ip.c, .int .u8 ip.d] 25)) zM.vals 23
    rw [World.size_alloc, ← hs] at this
    rw [hw1]; exact this
  have fm1 : ∀ j, w1.frozen? ⟨s + 1, j, none⟩ = false := fun j => by
    have := frozen_new (W.alloc (.cells #[.int .u8 ip.a, .int .u8 ip.b, .int .u8 ip.c, .int .u8 ip.d] 25)) #[.int .u8 0, .int .u8 0, .int .u8 0, .int .u8 0, .int .u8 0, .int .u8 0] 23 j
    rw [World.size_alloc, ← hs] at this
    rw [hw1]; exact this
  obtain ⟨g, hg, NB⟩ := (h.later hb1).neighbour (by omega) ip
  have HNB := hide NB
  have H1 := hide (h.later hb1)
  have F1 := hide (hF.below hb1.size)
  have HB1 := hide hb1
  have CI := hide ci1
  have CM := hide cm1
  have FM := hide fm1
  have SZ := hide sz1
  have HS := hide hs
  have HG := hide hg
  have HOK := hide hok
  have HF0 := hide hF
  clear NB hb1 ci1 cm1 fm1 sz1 hF
  rw [show ip.val = .agg #[.int .u8 ip.a, .int .u8 ip.b, .int .u8 ip.c, .int .u8 ip.d] from rfl] at HNB ⊢
  go_enter Try.func19, Try.ntmps19
  have hw1' := hw1.symm
  have hs' := hs.symm
  clear hw1 hs
  have i0 := CI.out 0 _ rfl
  have i1 := CI.out 1 _ rfl
  have i2 := CI.out 2 _ rfl
  have i3 := CI.out 3 _ rfl
  simp only [Nat.zero_add] at i0 i1 i2 i3
  go_wp2_with fail
  clear hw1' hs' i0 i1 i2 i3
  refine HNB.out.mono ?_
  rintro _ w2 ⟨rfl, hb2⟩
  have sL1 : s < w1.heap.size := by have := SZ.out; omega
  have tL1 : s + 1 < w1.heap.size := by have := SZ.out; omega
  have H2 := hide (H1.out.later hb2)
  have F2 := hide (F1.out.below hb2.size)
  have CI2 := hide (CI.out.later sL1 hb2)
  have CM2 := hide (CM.out.later tL1 hb2)
  have FM2 : Hid (∀ j, w2.frozen? ⟨s + 1, j, none⟩ = false) := fun j => (hb2.frozen (p := ⟨s + 1, j, none⟩) tL1).trans (FM.out j)
  have HB2 : Hid (Below W.heap.size W w2) := HB1.out.trans (hb2.mono HB1.out.size)
  have SZ2 : Hid (s + 2 ≤ w2.heap.size) := by have := SZ.out; have := hb2.size; unfold Hid; omega
  clear HNB H1 F1 CI CM FM hb2 sL1 tL1
  obtain ⟨hrg, c, hlv⟩ := HG.out (by have := (List.getElem?_eq_some_iff.1 hq).1; omega)
  obtain ⟨V, hR2, hP2⟩ := H2.out.row.parts
  rw [hlv] at hR2
  have hql : q < Lt.length := (List.getElem?_eq_some_iff.1 hq).1
  obtain ⟨g', eg, hg2, _, hfz, hcs⟩ := hR2.at (by omega)
  cases eg
  have cx := hcs q hql
  rw [nbc_at hq] at cx
  obtain ⟨hrow, hnil⟩ := hP2 q t x hq
  have hX : NOk now x := HOK.out.all x (List.mem_of_getElem? (by rw [List.getElem?_map, hq]; rfl))
  have hgs : g < W.heap.size := Classical.byContradiction fun hn => by
    rw [HF0.out g (by omega)] at hrg
    simp at hrg
  have sg : g ≠ s := by have := HS.out; omega
  have tg : g ≠ s + 1 := by have := HS.out; omega
  have k0 := h.pos
  have rs : ρ s = (0, 0, 0) := HF0.out s (by have := HS.out; omega)
  have rt : ρ (s + 1) = (0, 0, 0) := HF0.out (s + 1) (by have := HS.out; omega)
  have EX : Hid ((Lt.map Prod.snd)[q]? = some x) := by unfold Hid; rw [List.getElem?_map, hq]; rfl
  have SETS : Hid (∀ x', (Lt.set q (t, x')).map Prod.snd = (Lt.map Prod.snd).set q x') := fun x' => List.map_set
  rw [hf]
  simp only [Option.map_some]
  have EF : Hid (fd ip buf now (Lt.map Prod.snd) = ⟨x.mac, [], false, 0, Lt.map Prod.snd⟩) := by
    unfold Hid fd
    rw [hf]
    simp only [EX.out]
    rw [if_neg (by omega), if_neg (by omega)]
  have c4 : w2.cell? ⟨g, q * 15 + 4, none⟩ = some (.int .i64 2) := by have := cx 4 _ rfl; rw [← hst]; exact this
  have c11 : w2.cell? ⟨g, q * 15 + 11, none⟩ = some (.int .i64 x.since) := cx 11 _ rfl
  have x0 := hX.since0
  have x1 := hX.since1
  have HP := hide (havePassed_any x.since now 64 w2 (by omega) (by omega) (by omega))
  have EP : psB x.since now 64 = false := by unfold psB; simp only [decide_eq_false_iff_not]; omega
  rw [EP] at HP
  have m0 := cx 5 _ rfl
  have m1 := cx 6 _ rfl
  have m2 := cx 7 _ rfl
  have m3 := cx 8 _ rfl
  have m4 := cx 9 _ rfl
  have m5 := cx 10 _ rfl
  have CX := hide cx
  have LV := hide (run_loadVarA 23 6 aggM sizM (s + 1) 0 x.mac.vals rfl (CM2.out.stored rfl))
  have FIN : Hid (FdEnd ρ k W b m i ip (fd ip buf now (Lt.map Prod.snd)) (.returned (.tuple #[x.mac.val, .slice none 0 0, .slice none 0 0, .int .i64 0])) (w2.setCells (s + 1) 0 x.mac.vals)) := by
    unfold Hid
    rw [EF.out]
    exact FdEnd.put (r := ⟨x.mac, [], false, 0, Lt.map Prod.snd⟩) ⟨_, _, rfl, H2.out⟩ F2.out (Mv.below HB2.out) (s + 1) (by have := HS.out; omega) rt (RowN.nil _ _) (RowF.nil _ _ _ _)
  have z0 := CM2.out 0 _ rfl
  have z1 := CM2.out 1 _ rfl
  have z2 := CM2.out 2 _ rfl
  have z3 := CM2.out 3 _ rfl
  have z4 := CM2.out 4 _ rfl
  have z5 := CM2.out 5 _ rfl
  simp only [Nat.zero_add] at z0 z1 z2 z3 z4 z5
  have zf := FM2.out
  clear hf hR2 hP2 hcs cx hrow hnil hfz hrg hlv hq hX EX SETS rs rt
  clear hst hnp EP x0 x1 hn1
  go_wp2_with fail
  refine HP.out.mono ?_
  rintro _ _ ⟨rfl, rfl⟩
  go_wp2
  refine bodyPost_ret (v := .tuple #[x.mac.val, .slice none 0 0, .slice none 0 0, .int .i64 0]) ?_ rfl FIN.out
  exact results_4 rfl _ _ (s + 1) _ _ _ _ rfl rfl rfl rfl LV.out
end
end Go.Proofs.Ytdcpnjlldocdcaa
