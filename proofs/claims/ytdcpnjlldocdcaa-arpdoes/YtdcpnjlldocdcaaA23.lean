
/-
  Package arp: the contract of Find, where the neighbour is there.
-/
import Derived.Test.YtdcpnjlldocdcaaA22
namespace Go.Proofs.Ytdcpnjlldocdcaa
open Go.RowKit Go.Shelf
section
variable {ρ : Nat → Role} {k : Nat} {W : World} {b : Nat} {m : M6} {i : I4} {lv : Value} {Lt : List (Nat × Nb)} {L : List Nb}
set_option maxRecDepth 100000 in
set_option maxHeartbeats 2000000 in
theorem find_ask (h : CAt ρ k W b m i lv Lt) (hF : Fit ρ W) (now buf : Int) (hok : LOk now (Lt.map Prod.snd)) (ip : I4) (q t : Nat) (x : Nb) (hf : fndI ip (Lt.map Prod.snd) = some q) (hq : Lt[q]? = some (t, x)) (hst : x.st = 1) :
    Calls Try.prog 19 #[.pointer (some ⟨b, 0, none⟩), ip.val, .int .i64 buf, .int .i64 now] W (FdEnd ρ k W b m i ip (fd ip buf now (Lt.map Prod.snd))) := by
  have hlen : Lt.length ≤ 8 := by have := hok.len; simpa using this
  obtain ⟨s, hs⟩ : ∃ s, s = W.heap.size := ⟨_, rfl⟩
  obtain ⟨w1, hw1⟩ : ∃ w1, w1 = (W.alloc (.cells #[.int .u8 ip.a, .int .u8 ip.b, .int .u8 ip.c, .int .u8 ip.d] 25)).alloc (.cells #[.int .u8 0, .int .u8 0, .int .u8 0, .int .u8 0, .int .u8 0, .int .u8 0] 23) := ⟨_, rfl⟩
  have hb1 : Below W.heap.size W w1 := by rw [hw1]; exact ((Below.refl _ W).alloc (Nat.le_refl _) _).alloc (by simp) _
  have sz1 : w1.heap.size = s + 2 := by rw [hw1]; simp [hs]
  have ci1 : CellsAt w1 s 0 ip.vals := by
    rw [hw1, hs]
    exact (CellsAt.new W ip.vals 25).but (by simp) ((But.refl (fun _ => False) _).alloc _) id
  have cm1 : CellsAt w1 (s + 1) 0 zM.vals := by
    have := CellsAt.new (W.alloc (.cells #[.int .u8 ip.a, .int .u8 ip.b, .int .u8 ip.c, .int .u8 ip.d] 25)) zM.vals 23
    rw [World.size_alloc, ← hs] at this
    rw [hw1]; exact this
  have fm1 : ∀ j, w1.frozen? ⟨s + 1, j, none⟩ = false := fun j => by
    have := frozen_new (W.alloc (.cells #[.int .u8 ip.a, .int .u8 ip.b, .int .u8 ip.c, .int .u8 ip.d] 25)) #[.int .u8 0, .int .u8 0, .int .u8 0, .int .u8 0, .int .u8 0, .int .u8 0] 23 j
    rw [World.size_alloc, ← hs] at this
    rw [hw1]; exact this
  obtain ⟨g, hg, NB⟩ := (h.later hb1).neighbour (by omega) ip
  have HNB := hide NB
  have H1 := hide (h.later hb1)
  have F1 := hide (hF.below hb1.size)
  have HB1 := hide hb1
  have CI := hide ci1
  have CM := hide cm1
  have FM := hide fm1
  have SZ := hide sz1
  have HS := hide hs
  have HG := hide hg
  have HOK := hide hok
  have HF0 := hide hF
  clear NB hb1 ci1 cm1 fm1 sz1 hF
  rw [show ip.val = .agg #[.int .u8 ip.a, .int .u8 ip.b, .int .u8 ip.c, .int .u8 ip.d] from rfl] at HNB ⊢
  go_enter Try.func19, Try.ntmps19
  have hw1' := hw1.symm
  have hs' := hs.symm
  clear hw1 hs
  have i0 := CI.out 0 _ rfl
  have i1 := CI.out 1 _ rfl
  have i2 := CI.out 2 _ rfl
  have i3 := CI.out 3 _ rfl
  simp only [Nat.zero_add] at i0 i1 i2 i3
  go_wp2_with fail
  clear hw1' hs' i0 i1 i2 i3
  refine HNB.out.mono ?_
  rintro _ w2 ⟨rfl, hb2⟩
  have sL1 : s < w1.heap.size := by have := SZ.out; omega
  have tL1 : s + 1 < w1.heap.size := by have := SZ.out; omega
  have H2 := hide (H1.out.later hb2)
  have F2 := hide (F1.out.below hb2.size)
  have CI2 := hide (CI.out.later sL1 hb2)
  have CM2 := hide (CM.out.later tL1 hb2)
  have FM2 : Hid (∀ j, w2.frozen? ⟨s + 1, j, none⟩ = false) := fun j => (hb2.frozen (p := ⟨s + 1, j, none⟩) tL1).trans (FM.out j)
  have HB2 : Hid (Below W.heap.size W w2) := HB1.out.trans (hb2.mono HB1.out.size)
  have SZ2 : Hid (s + 2 ≤ w2.heap.size) := by have := SZ.out; have := hb2.size; unfold Hid; omega
  clear HNB H1 F1 CI CM FM hb2 sL1 tL1
  obtain ⟨hrg, c, hlv⟩ := HG.out (by have := (List.getElem?_eq_some_iff.1 hq).1; omega)
  obtain ⟨V, hR2, hP2⟩ := H2.out.row.parts
  rw [hlv] at hR2
  have hql : q < Lt.length := (List.getElem?_eq_some_iff.1 hq).1
  obtain ⟨g', eg, hg2, _, hfz, hcs⟩ := hR2.at (by omega)
  cases eg
  have cx := hcs q hql
  rw [nbc_at hq] at cx
  obtain ⟨hrow, hnil⟩ := hP2 q t x hq
  have hX : NOk now x := HOK.out.all x (List.mem_of_getElem? (by rw [List.getElem?_map, hq]; rfl))
  have hgs : g < W.heap.size := Classical.byContradiction fun hn => by
    rw [HF0.out g (by omega)] at hrg
    simp at hrg
  have sg : g ≠ s := by have := HS.out; omega
  have tg : g ≠ s + 1 := by have := HS.out; omega
  have k0 := h.pos
  have rs : ρ s = (0, 0, 0) := HF0.out s (by have := HS.out; omega)
  have rt : ρ (s + 1) = (0, 0, 0) := HF0.out (s + 1) (by have := HS.out; omega)
  have EX : Hid ((Lt.map Prod.snd)[q]? = some x) := by unfold Hid; rw [List.getElem?_map, hq]; rfl
  have SETS : Hid (∀ x', (Lt.set q (t, x')).map Prod.snd = (Lt.map Prod.snd).set q x') := fun x' => List.map_set
  rw [hf]
  simp only [Option.map_some]
  have EF : Hid (fd ip buf now (Lt.map Prod.snd) = ⟨zM, wtG x.pd, false, 80, (Lt.map Prod.snd).set q { x with pd := wtP x.pd buf }⟩) := by
    unfold Hid fd
    rw [hf]
    simp only [EX.out, if_pos hst]
  have c4 : w2.cell? ⟨g, q * 15 + 4, none⟩ = some (.int .i64 1) := by have := cx 4 _ rfl; rw [← hst]; exact this
  have c14 : w2.cell? ⟨g, q * 15 + 14, none⟩ = some (V q) := cx 14 _ rfl
  have WT := hide (wait_any (O := fun h => ρ h = (k, 2, t)) g (q * 15) (V q) x.pd buf c14 (hfz _) (by rw [hrg]; simp) hrow hX.pd2)
  have CX := hide cx
  have HFZ := hide hfz
  have HRG := hide hrg
  have HLV := hide hlv
  have HQ := hide hq
  clear hf hst hR2 hP2 hcs cx hrow hnil hfz c14 hrg hlv hq hX
  go_wp2_with fail
  refine WT.out.mono ?_
  rintro e w4 ⟨w3, v', b3, r3, hE⟩
  have sp := SZ2.out
  have s3 := b3.size
  have nO : ∀ j, ρ j = (0, 0, 0) → ¬ ρ j = (k, 2, t) := fun j e1 e2 => by rw [e1] at e2; simp at e2
  have ng : ¬ ρ g = (k, 2, t) := by rw [HRG.out]; simp
  have c3 := CX.out.but hg2 b3 ng
  have ci3 := CI2.out.but (by omega) b3 (nO s rs)
  have cm3 := CM2.out.but (by omega) b3 (nO _ rt)
  have fm3 : ∀ j, w3.frozen? ⟨s + 1, j, none⟩ = false := fun j => (b3.frozen (p := ⟨s + 1, j, none⟩) (by show s + 1 < _; omega) (nO _ rt)).trans (FM2.out j)
  obtain ⟨ρ', hρ'⟩ : ∃ ρ' : Nat → Role, ∀ j, ρ' j = if w2.heap.size ≤ j ∧ j < w3.heap.size then (k, 2, t) else ρ j := ⟨_, fun _ => rfl⟩
  have kp : ∀ j, j < w2.heap.size → ρ' j = ρ j := fun j hj => by rw [hρ', if_neg (by omega)]
  have hk : ∀ j, ρ j = (k, 2, t) → j < w2.heap.size := fun j e => Classical.byContradiction fun hn => by rw [F2.out j (by omega)] at e; simp at e
  have r3' : RowN (fun j => ρ' j = (k, 2, t)) w3 v' (wtP x.pd buf) := r3.own (fun j hj e => by
    rcases e with e | e
    · rw [kp j (hk j e)]; exact e
    · rw [hρ', if_pos e])
  have fin : ∀ w4, Near (w3.setCell ⟨g, q * 15 + 14, none⟩ v') w4 g (q * 15) → But (fun _ => False) (w3.setCell ⟨g, q * 15 + 14, none⟩ v') w4 → Ca ρ' k w4 b m i ((Lt.map Prod.snd).set q { x with pd := wtP x.pd buf }) ∧ Fit ρ' w4 ∧ Mv k ρ ρ' W w4 ∧ CellsAt w4 (s + 1) 0 zM.vals ∧ (∀ j, w4.frozen? ⟨s + 1, j, none⟩ = false) ∧ ρ' (s + 1) = (0, 0, 0) := fun w4 nr bn => by
    have n1 : Near w3 (w3.setCell ⟨g, q * 15 + 14, none⟩ v') g (q * 15) := (Near.refl _ _ _).cell 14 v' (by omega) (c3.is 14 (by rw [Nb.cells_len]; omega))
    have nr2 := n1.trans nr
    have bs : But (Only g) w3 (w3.setCell ⟨g, q * 15 + 14, none⟩ v') := n1.but
    have b34 : But (Only g) w3 w4 := bs.trans (bn.mono (fun _ e => e.elim))
    have z4 := b34.size
    have h4 : CAt ρ' k w4 b m i lv (Lt.set q (t, { x with pd := wtP x.pd buf })) := by
      refine H2.out.turn (v' := v') HQ.out HLV.out b3 nr2 ?_ (fun j hj _ => kp j hj) ?_ ?_
      · have := c3.put 14 v' (by rw [Nb.cells_len]; omega)
        exact this.but (by have := bs.size; omega) bn id
      · exact (r3'.but bs (fun j e e2 => by have e2 : j = g := e2; rw [e2, kp g hg2] at e; exact ng e)).but bn (fun _ _ => id)
      · intro e
        exfalso
        have e : wtP x.pd buf = [] := e
        unfold wtP at e
        split at e <;> simp at e
    refine ⟨⟨_, _, SETS.out _, h4⟩, fun j hj => ?_, ⟨fun j hj hn => ?_, ?_⟩, ?_, fun j => ?_, ?_⟩
    · rw [hρ', if_neg (by omega)]; exact F2.out j (by omega)
    · have := HB2.out.size; exact kp j (by omega)
    · refine ((But.of_below HB2.out).trans' b3 (fun j _ e => by rw [e])).trans' b34 (fun j _ e => by have e : j = g := e; rw [e, HRG.out])
    · exact cm3.but (by omega) b34 (fun e => tg e.symm)
    · exact (b34.frozen (p := ⟨s + 1, j, none⟩) (by show s + 1 < _; omega) (fun e => tg e.symm)).trans (fm3 j)
    · rw [kp _ (by omega)]; exact rt
  have hsW := HS.out
  have hsz : (w3.setCell ⟨g, q * 15 + 14, none⟩ v').heap.size = w3.heap.size := by simp
  have hg3 : g < (w3.setCell ⟨g, q * 15 + 14, none⟩ v').heap.size := by omega
  obtain ⟨gv, hgv, hend⟩ : ∃ gv, (∃ a n c, gv = .slice a n c) ∧ e = .returned gv ∧ (Ca ρ' k w4 b m i ((Lt.map Prod.snd).set q { x with pd := wtP x.pd buf }) ∧ Fit ρ' w4 ∧ Mv k ρ ρ' W w4 ∧ CellsAt w4 (s + 1) 0 zM.vals ∧ (∀ j, w4.frozen? ⟨s + 1, j, none⟩ = false) ∧ ρ' (s + 1) = (0, 0, 0)) ∧ RowN (fun j => Free ρ ρ' k W j ∧ j ≠ s + 1) w4 gv (wtG x.pd) := by
    rcases hE with ⟨hlt, rfl, rfl⟩ | ⟨y, R, ep, hRl, rfl, rfl⟩
    · refine ⟨_, ⟨_, _, _, rfl⟩, rfl, fin _ (Near.refl _ _ _) (But.refl _ _), ?_⟩
      unfold wtG
      rw [if_pos hlt]
      exact RowN.nil _ _
    · have bn : But (fun _ => False) (w3.setCell ⟨g, q * 15 + 14, none⟩ v') ((w3.setCell ⟨g, q * 15 + 14, none⟩ v').alloc (.cells #[.int .i64 y] 3)) := (But.refl _ _).alloc _
      have hf := fin _ ((Near.refl _ _ _).alloc hg3 _) bn
      refine ⟨_, ⟨_, _, _, rfl⟩, rfl, hf, ?_⟩
      have eg : wtG x.pd = [y] := by
        unfold wtG
        rw [ep, if_neg (by simp; omega)]
        rfl
      rw [eg]
      have hc := CellsAt.new (w3.setCell ⟨g, q * 15 + 14, none⟩ v') [.int .i64 y] 3
      have hz := frozen_new (w3.setCell ⟨g, q * 15 + 14, none⟩ v') #[.int .i64 y] 3
      rw [hsz] at hc hz
      refine ⟨_, 1, rfl, Nat.le_refl _, by unfold maxLen; omega, (fun e => by cases e), fun ad e => ?_⟩
      cases e
      refine ⟨w3.heap.size, 0, ⟨⟨?_, .inl (by have := HB2.out.size; omega)⟩, by omega⟩, by simp, fun _ => rfl, fun j hj => hc.is j hj, hz, fun j z hjz => ?_⟩
      · rw [hρ', if_neg (by omega)]; exact F2.out _ (by omega)
      · cases j with
        | zero => simp at hjz; subst hjz; exact hc 0 _ rfl
        | succ j => simp at hjz
  obtain ⟨a5, n5, c5, rfl⟩ := hgv
  obtain ⟨rfl, ⟨hc4, hF4, hM4, cm4, fm4, rt4⟩, hr4⟩ := hend
  have LV := hide (run_loadVarA 23 6 aggM sizM (s + 1) 0 zM.vals rfl (cm4.stored rfl))
  have FIN : Hid (FdEnd ρ k W b m i ip (fd ip buf now (Lt.map Prod.snd)) (.returned (.tuple #[zM.val, .slice a5 n5 c5, .slice none 0 0, .int .i64 80])) (w4.setCells (s + 1) 0 zM.vals)) := by
    unfold Hid
    rw [EF.out]
    exact FdEnd.put (r := ⟨zM, wtG x.pd, false, 80, (Lt.map Prod.snd).set q { x with pd := wtP x.pd buf }⟩) hc4 hF4 hM4 (s + 1) (by omega) rt4 hr4 (RowF.nil _ _ _ _)
  have z0 := cm4 0 _ rfl
  have z1 := cm4 1 _ rfl
  have z2 := cm4 2 _ rfl
  have z3 := cm4 3 _ rfl
  have z4 := cm4 4 _ rfl
  have z5 := cm4 5 _ rfl
  simp only [Nat.zero_add] at z0 z1 z2 z3 z4 z5
  clear hsW hsz hg3 s3 sp hE fin c3 ci3 cm3 hc4 hF4 hM4 hr4 rt4 r3 r3' b3 cm4 WT c4 kp hk hρ' nO
  go_wp2
  refine bodyPost_ret (v := .tuple #[zM.val, .slice a5 n5 c5, .slice none 0 0, .int .i64 80]) ?_ rfl FIN.out
  exact results_4 rfl _ _ (s + 1) _ _ _ _ rfl rfl rfl rfl LV.out
end
end Go.Proofs.Ytdcpnjlldocdcaa
