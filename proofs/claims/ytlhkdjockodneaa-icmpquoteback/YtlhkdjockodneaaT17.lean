
/-
  The document's icmp: Decode, its walk.
-/
import Derived.Test.YtlhkdjockodneaaT16
namespace Go.Proofs.Ytlhkdjockodneaa
open Go.RowKit Go.Shelf

theorem exec_allocCb {n0 : Nat} {ev : Operand → Value} {o : Oper} {W : World} (ho : o.op = .alloc 24) (hn : n0 ≤ W.heap.size) : ∃ v W', (execOp ev o).run Try.prog W = .ok (.value v) W' ∧ Below W.heap.size W W' ∧ BoxT 24 n0 W' v zIm := boxC_made ho hn
set_option maxRecDepth 100000 in
set_option maxHeartbeats 8000000 in
theorem rDec_any (v : Value) (bs : List Int) (w : World) (hb : IsB w.heap.size w v bs) (hB : Bytes bs) (hl : (bs.length : Int) ≤ 4611686018427387900) :
    Calls Try.prog 13 #[v] w fun e w' => ∃ ad on oc, e = .returned (.tuple #[.agg ((idM bs).cells (.slice ad on oc)).toArray, .int .i64 (idE bs)]) ∧ IsB w'.heap.size w' (.slice ad on oc) (idM bs).d ∧ Below w.heap.size w w' := by
  obtain ⟨a, cap, rfl, _⟩ := hb.shape
  obtain ⟨n, hn⟩ : ∃ n, n = bs.length := ⟨_, rfl⟩
  obtain ⟨M, hM⟩ : ∃ M, M = idM bs := ⟨_, rfl⟩
  obtain ⟨E, hE⟩ : ∃ E, E = idE bs := ⟨_, rfl⟩
  rw [← hM, ← hE]
  have ME : E ≠ 0 → M = zMs := fun h => by rw [hM, idM, if_neg (by rw [← hE]; exact h)]
  obtain ⟨s2, hs2⟩ : ∃ s2, s2 = w.heap.size := ⟨_, rfl⟩
  obtain ⟨w1, hw1⟩ : ∃ w1, w1 = w.alloc (.cells zIm.toArray 24) := ⟨_, rfl⟩
  have b1 : Below w.heap.size w w1 := by rw [hw1]; exact later_alloc _ _
  have c1 : CellsAt w1 s2 0 zIm := by rw [hw1, hs2]; exact CellsAt.new w _ _
  have f1 : ∀ y, w1.frozen? ⟨s2, y, none⟩ = false := fun y => by rw [hw1, hs2]; exact frozen_new w _ _ _
  have l1 : s2 < w1.heap.size := by rw [hw1, hs2]; simp
  have HB1 := hide b1
  have C1 := hide c1
  have F1 := hide f1
  have HS2 := hide hs2
  have HN := hide hn
  have BY := hide hB
  have HI := hide (hb.later b1)
  have HI0 := hide hb
  have HL := hide hl
  have FIN : ∀ W, Below w1.heap.size w1 W → ∃ W', W.setCells s2 0 zIm = W' ∧ CellsAt W s2 0 zIm ∧ (∀ y, W.frozen? ⟨s2, y, none⟩ = false) ∧ CellsAt W' s2 0 zIm ∧ Below w.heap.size w W' := fun W hW => by
    have bo := But.cells s2 zIm 0 W
    have h := HB1.out.trans (hW.mono HB1.out.size)
    refine ⟨_, rfl, C1.out.later l1 hW, fun y => (hW.frozen (p := ⟨s2, y, none⟩) l1).trans (F1.out y), (C1.out.later l1 hW).stored rfl, h.trans (bo.below h.size (fun g hg e => by have e : g = s2 := e; have := HS2.out; omega))⟩
  have HFIN := hide FIN
  have hw1' := hw1.symm
  simp only [zIm, imL] at hw1'
  have hs2' := hs2.symm
  rw [← hn] at HI HI0 HL ⊢
  by_cases h1 : n < 8
  · have e : E = 3 := by rw [hE, idE, if_pos (by omega)]
    subst e
    have HM : Hid (M = zMs) := ME (by decide)
    have z : (n : Int) < 8 := by omega
    clear hb hB hl hn hM hE ME b1 c1 f1 hw1 hs2 h1 FIN
    go_enter Try.func13, Try.ntmps13
    go_upto_region 2 with fail
    clear hw1' hs2'
    obtain ⟨w9, hw9, k1, k2, k3, k4⟩ := HFIN.out w1 (Below.refl _ _)
    have K1 := hide k1
    have K2 := hide k2
    have K3 := hide k3
    have K4 := hide k4
    clear k1 k2 k3 k4
    go_wp2_with (first | refine wpList_val rfl (exec_zC rfl) ?_ | (refine wpList_storeA rfl 24 6 sizC _ _ rfl s2 0 rfl zIm zIm rfl rfl rfl K1.out K2.out (im_one _ _ _ _ _ _ _ _) ?_; intro _; rw [hw9]))
    refine bodyPost_ret (v := .tuple #[.agg zIm.toArray, .int .i64 3]) (results_2 rfl _ _ s2 _ _ rfl rfl (run_loadVarA 24 6 aggC sizC s2 0 _ rfl K3.out)) rfl ?_
    exact ⟨none, 0, 0, (by rw [HM.out]; rfl), (by rw [HM.out]; exact IsB.nil _ _), K4.out⟩
  have z1 : ¬ (n : Int) < 8 := by omega
  by_cases h2 : 1024 < n
  · have e : E = 2 := by rw [hE, idE, if_neg (by omega), if_pos (by omega)]
    subst e
    have HM : Hid (M = zMs) := ME (by decide)
    have z : (1024 : Int) < (n : Int) := by omega
    clear hb hB hl hn hM hE ME b1 c1 f1 hw1 hs2 h1 h2 FIN
    go_enter Try.func13, Try.ntmps13
    go_upto_region 4 with fail
    clear hw1' hs2'
    obtain ⟨w9, hw9, k1, k2, k3, k4⟩ := HFIN.out w1 (Below.refl _ _)
    have K1 := hide k1
    have K2 := hide k2
    have K3 := hide k3
    have K4 := hide k4
    clear k1 k2 k3 k4
    go_wp2_with (first | refine wpList_val rfl (exec_zC rfl) ?_ | (refine wpList_storeA rfl 24 6 sizC _ _ rfl s2 0 rfl zIm zIm rfl rfl rfl K1.out K2.out (im_one _ _ _ _ _ _ _ _) ?_; intro _; rw [hw9]))
    refine bodyPost_ret (v := .tuple #[.agg zIm.toArray, .int .i64 2]) (results_2 rfl _ _ s2 _ _ rfl rfl (run_loadVarA 24 6 aggC sizC s2 0 _ rfl K3.out)) rfl ?_
    exact ⟨none, 0, 0, (by rw [HM.out]; rfl), (by rw [HM.out]; exact IsB.nil _ _), K4.out⟩
  have z2 : ¬ (1024 : Int) < (n : Int) := by omega
  have S1 := rSum_any (.slice a n cap) bs w1 HI.out hB (by rw [← hn]; omega)
  obtain ⟨cs, hcs⟩ : ∃ cs, cs = csum bs := ⟨_, rfl⟩
  rw [← hcs] at S1
  by_cases h3 : cs = 0
  · subst h3
    have HS1 := hide S1
    obtain ⟨g, off, e, hg, _⟩ : ∃ g off, a = some ⟨g, off, none⟩ ∧ g < w.heap.size ∧ True := by
      obtain ⟨a', cap', e, _, _, hc⟩ := HI0.out
      simp only [Value.slice.injEq] at e
      obtain ⟨rfl, _, rfl⟩ := e
      obtain ⟨b', off', e, hb', _⟩ := hc (by omega)
      exact ⟨b', off', e, hb', trivial⟩
    subst e
    have CW : Hid (∀ W, Below w.heap.size w W → ∀ j, j < n → W.cell? ⟨g, off + j, none⟩ = some (.int .u8 (nb bs j))) := fun W hW j hj => by
      obtain ⟨a, c, e, _, _, hc⟩ := HI0.out.below hW
      simp only [Value.slice.injEq] at e
      obtain ⟨rfl, _, rfl⟩ := e
      obtain ⟨b', off', e, _, hcs⟩ := hc (by omega)
      cases e
      exact hcs j (by have := HN.out; omega)
    have ncap : n ≤ cap := by
      obtain ⟨_, _, e, hle, _⟩ := HI0.out
      simp only [Value.slice.injEq] at e
      obtain ⟨_, _, rfl⟩ := e
      omega
    have h8 : 8 ≤ n := by omega
    have bn := fun k => nb_bd hB k
    obtain ⟨ad, had⟩ : ∃ ad, ad = (if cap = 8 then some (⟨g, off, none⟩ : Addr) else some ⟨g, off + 8, none⟩) := ⟨_, rfl⟩
    have DT : Hid (∀ W, Below w.heap.size w W → IsB W.heap.size W (.slice ad (n - 8) (cap - 8)) (bs.drop 8)) := fun W hW => by
      have hd := (HI0.out.later hW).drop 8 (by have := HN.out; omega)
      have ea : (if cap = 8 then some (⟨g, off, none⟩ : Addr) else Option.map (fun x : Addr => x.add 8) (some ⟨g, off, none⟩)) = ad := by
        rw [had]
        split
        · rfl
        · rw [Option.map_some, Addr.add_lit]
      rw [ea] at hd
      exact hd
    have AT : Hid (∀ W k, Below w.heap.size w W → k + 2 ≤ n → Calls Try.prog 39 #[.slice (some ⟨g, off, none⟩) n cap, .int .i64 ((k : Nat) : Int), .int .i64 2] W fun e W' => e = .returned (.int .i64 (w16 bs k)) ∧ W' = W) := fun W k hW hk =>
      rAt2_val _ bs k W (HI0.out.later hW) BY.out (by have := HN.out; omega) (by have := HN.out; omega)
    have HAD := hide had
    have HCS := hide hcs
    obtain ⟨t, ht⟩ : ∃ t, t = nb bs 0 := ⟨_, rfl⟩
    have HT := hide ht
    have HM0 := hide hM
    have HE0 := hide hE
    clear hb hB hl hn hM hE b1 c1 f1 hw1 hs2 S1 FIN had hcs ht h1
    go_enter Try.func13, Try.ntmps13
    go_wp2_with fail
    clear hw1' hs2'
    refine HS1.out.mono ?_
    rintro _ w2 ⟨rfl, hw2⟩
    rw [hw2]
    clear hw2 HS1
    go_upto_region 7 with fail
    go_cut [4] from 18 to 28 (fun v4 wx => ∃ s4 : Nat, v4 = .pointer (some ⟨s4, 0, none⟩) ∧ Hid (CellsAt wx s4 0 (imL t (nb bs 1) 0 0 0 (.slice ad (n - 8) (cap - 8)))) ∧ Hid (∀ y, wx.frozen? ⟨s4, y, none⟩ = false) ∧ s4 < wx.heap.size ∧ w1.heap.size ≤ s4 ∧ Hid (Below w1.heap.size w1 wx))
    case first =>
      refine region_grow_store (w := w1) (fun i v W => match i with | 0 => v = .slice (some ⟨g, off, none⟩) n cap | 1 => v = .pointer (some ⟨g, off + 0, none⟩) | 2 => v = .int .u8 (nb bs 0) | 3 => v = .int .i64 (nb bs 0) | 4 => v = .slice (some ⟨g, off, none⟩) n cap | 5 => v = .pointer (some ⟨g, off + 1, none⟩) | 6 => v = .int .u8 (nb bs 1) | 7 => v = .int .i64 (nb bs 1) | 8 => v = .slice (some ⟨g, off, none⟩) n cap | 9 => v = .slice ad (n - 8) (cap - 8) | 10 => v = .agg (imL t (nb bs 1) 0 0 0 (.slice ad (n - 8) (cap - 8))).toArray | 11 => BoxT 24 w1.heap.size W v zIm | _ => True) (by kernel_rfl) (by kernel_rfl) (by kernel_rfl) 12 rfl _ rfl rfl (no_guard (by kernel_rfl)) (fun i v W W' h hb => match i, h with | 0, h => h | 1, h => h | 2, h => h | 3, h => h | 4, h => h | 5, h => h | 6, h => h | 7, h => h | 8, h => h | 9, h => h | 10, h => h | 11, h => BoxT.later h hb | _ + 12, h => h) ?_ ?_
      · intro listed a W hM hn i o ho hlt hr
        have B := hM.bel
        match i, ho, hlt, hr with
        | 0, ho, _, hr =>
          have u0 : a.eval (.tmp 0) = .slice (some ⟨g, off, none⟩) n cap := hM.keep (t := 0) (by kernel_rfl)
          exact Step.of rfl (.inl ⟨.slice (some ⟨g, off, none⟩) n cap, W, exec_move _ _ rfl u0, Below.refl _ _, rfl⟩) ho
        | 1, ho, _, hr =>
          have u18 := hM.use hr rfl (j := 0) (by kernel_rfl) rfl rfl
          have u18 : a.eval (.tmp 18) = .slice (some ⟨g, off, none⟩) n cap := u18
          exact Step.of rfl (.inl ⟨.pointer (some ⟨g, off + 0, none⟩), W, exec_ixC _ 0 g off n cap 0 rfl rfl (fun _ => rfl) u18 (by omega), Below.refl _ _, rfl⟩) ho
        | 2, ho, _, hr =>
          have u19 := hM.use hr rfl (j := 1) (by kernel_rfl) rfl rfl
          have u19 : a.eval (.tmp 19) = .pointer (some ⟨g, off + 0, none⟩) := u19
          exact Step.of rfl (.inl ⟨.int .u8 (nb bs 0), W, exec_load1 5 oneU _ rfl g (off + 0) u19 (.int .u8 (nb bs 0)) (CW.out W (HB1.out.trans ((((Below.refl _ w1).drew).trans B).mono HB1.out.size)) 0 (by omega)), Below.refl _ _, rfl⟩) ho
        | 3, ho, _, hr =>
          have u20 := hM.use hr rfl (j := 2) (by kernel_rfl) rfl rfl
          have u20 : a.eval (.tmp 20) = .int .u8 (nb bs 0) := u20
          exact Step.of rfl (.inl ⟨.int .i64 (nb bs 0), W, exec_cvti _ _ rfl u20 (bn 0).1 (bn 0).2, Below.refl _ _, rfl⟩) ho
        | 4, ho, _, hr =>
          have u0 : a.eval (.tmp 0) = .slice (some ⟨g, off, none⟩) n cap := hM.keep (t := 0) (by kernel_rfl)
          exact Step.of rfl (.inl ⟨.slice (some ⟨g, off, none⟩) n cap, W, exec_move _ _ rfl u0, Below.refl _ _, rfl⟩) ho
        | 5, ho, _, hr =>
          have u22 := hM.use hr rfl (j := 4) (by kernel_rfl) rfl rfl
          have u22 : a.eval (.tmp 22) = .slice (some ⟨g, off, none⟩) n cap := u22
          exact Step.of rfl (.inl ⟨.pointer (some ⟨g, off + 1, none⟩), W, exec_ixC _ 1 g off n cap 1 rfl rfl (fun _ => rfl) u22 (by omega), Below.refl _ _, rfl⟩) ho
        | 6, ho, _, hr =>
          have u23 := hM.use hr rfl (j := 5) (by kernel_rfl) rfl rfl
          have u23 : a.eval (.tmp 23) = .pointer (some ⟨g, off + 1, none⟩) := u23
          exact Step.of rfl (.inl ⟨.int .u8 (nb bs 1), W, exec_load1 5 oneU _ rfl g (off + 1) u23 (.int .u8 (nb bs 1)) (CW.out W (HB1.out.trans ((((Below.refl _ w1).drew).trans B).mono HB1.out.size)) 1 (by omega)), Below.refl _ _, rfl⟩) ho
        | 7, ho, _, hr =>
          have u24 := hM.use hr rfl (j := 6) (by kernel_rfl) rfl rfl
          have u24 : a.eval (.tmp 24) = .int .u8 (nb bs 1) := u24
          exact Step.of rfl (.inl ⟨.int .i64 (nb bs 1), W, exec_cvti _ _ rfl u24 (bn 1).1 (bn 1).2, Below.refl _ _, rfl⟩) ho
        | 8, ho, _, hr =>
          have u0 : a.eval (.tmp 0) = .slice (some ⟨g, off, none⟩) n cap := hM.keep (t := 0) (by kernel_rfl)
          exact Step.of rfl (.inl ⟨.slice (some ⟨g, off, none⟩) n cap, W, exec_move _ _ rfl u0, Below.refl _ _, rfl⟩) ho
        | 9, ho, _, hr =>
          have u26 := hM.use hr rfl (j := 8) (by kernel_rfl) rfl rfl
          have u26 : a.eval (.tmp 26) = .slice (some ⟨g, off, none⟩) n cap := u26
          exact Step.of rfl (.inl ⟨.slice ad (n - 8) (cap - 8), W, by rw [HAD.out]; exact exec_slL _ g off n cap 8 8 rfl rfl (fun _ => rfl) u26 h8, Below.refl _ _, rfl⟩) ho
        | 10, ho, _, hr =>
          have u21 := hM.use hr rfl (j := 3) (by kernel_rfl) rfl rfl
          have u21 : a.eval (.tmp 21) = .int .i64 (nb bs 0) := u21
          have u25 := hM.use hr rfl (j := 7) (by kernel_rfl) rfl rfl
          have u25 : a.eval (.tmp 25) = .int .i64 (nb bs 1) := u25
          have u27 := hM.use hr rfl (j := 9) (by kernel_rfl) rfl rfl
          have u27 : a.eval (.tmp 27) = .slice ad (n - 8) (cap - 8) := u27
          exact Step.of rfl (.inl ⟨.agg (imL t (nb bs 1) 0 0 0 (.slice ad (n - 8) (cap - 8))).toArray, W, by rw [HT.out]; exact exec_bldC3 _ _ _ _ _ ad _ _ rfl u21 u25 u27, Below.refl _ _, rfl⟩) ho
        | 11, ho, _, hr =>
          refine Step.of rfl (.inl ?_) ho
          exact boxC_made rfl hn
        | n + 12, _, hlt, _ => exact absurd hlt (by omega)
      intro listed a W hM hl
      have B := hM.bel
      have p18 : a.tmps.getD 18 undef = .slice (some ⟨g, off, none⟩) n cap := hM.got 0 _ _ rfl (hl 0 (by decide)) rfl
      have p19 : a.tmps.getD 19 undef = .pointer (some ⟨g, off + 0, none⟩) := hM.got 1 _ _ rfl (hl 1 (by decide)) rfl
      have p20 : a.tmps.getD 20 undef = .int .u8 (nb bs 0) := hM.got 2 _ _ rfl (hl 2 (by decide)) rfl
      have p21 : a.tmps.getD 21 undef = .int .i64 (nb bs 0) := hM.got 3 _ _ rfl (hl 3 (by decide)) rfl
      have p22 : a.tmps.getD 22 undef = .slice (some ⟨g, off, none⟩) n cap := hM.got 4 _ _ rfl (hl 4 (by decide)) rfl
      have p23 : a.tmps.getD 23 undef = .pointer (some ⟨g, off + 1, none⟩) := hM.got 5 _ _ rfl (hl 5 (by decide)) rfl
      have p24 : a.tmps.getD 24 undef = .int .u8 (nb bs 1) := hM.got 6 _ _ rfl (hl 6 (by decide)) rfl
      have p25 : a.tmps.getD 25 undef = .int .i64 (nb bs 1) := hM.got 7 _ _ rfl (hl 7 (by decide)) rfl
      have p26 : a.tmps.getD 26 undef = .slice (some ⟨g, off, none⟩) n cap := hM.got 8 _ _ rfl (hl 8 (by decide)) rfl
      have p27 : a.tmps.getD 27 undef = .slice ad (n - 8) (cap - 8) := hM.got 9 _ _ rfl (hl 9 (by decide)) rfl
      have p28 : a.tmps.getD 28 undef = .agg (imL t (nb bs 1) 0 0 0 (.slice ad (n - 8) (cap - 8))).toArray := hM.got 10 _ _ rfl (hl 10 (by decide)) rfl
      have p4 : (fun v W => BoxT 24 w1.heap.size W v zIm) (a.tmps.getD 4 undef) W := hM.got 11 _ _ rfl (hl 11 (by decide)) rfl
      obtain ⟨s4, e4, h41, h42, h43, h44, h45⟩ := p4
      refine ⟨W.setCells s4 0 (imL t (nb bs 1) 0 0 0 (.slice ad (n - 8) (cap - 8))), exec_storeA 24 6 sizC (.tmp 4) (.tmp 28) rfl s4 0 e4 _ zIm p28 rfl rfl h43 h44 (im_one _ _ _ _ _ _ _ _), ?_⟩
      rw [hM.lit [18, 19, 20, 21, 22, 23, 24, 25, 26, 27, 28, 4] (by kernel_rfl)]
      clear hM hl
      simp only [fill, List.foldl_cons, List.foldl_nil, Act.put, List.setIfInBounds_toArray, List.set_cons_zero, List.set_cons_succ]
      clear p18
      generalize a.tmps.getD 18 undef = x18 at *
      clear p19
      generalize a.tmps.getD 19 undef = x19 at *
      clear p20
      generalize a.tmps.getD 20 undef = x20 at *
      clear p21
      generalize a.tmps.getD 21 undef = x21 at *
      clear p22
      generalize a.tmps.getD 22 undef = x22 at *
      clear p23
      generalize a.tmps.getD 23 undef = x23 at *
      clear p24
      generalize a.tmps.getD 24 undef = x24 at *
      clear p25
      generalize a.tmps.getD 25 undef = x25 at *
      clear p26
      generalize a.tmps.getD 26 undef = x26 at *
      clear p27
      generalize a.tmps.getD 27 undef = x27 at *
      clear p28
      generalize a.tmps.getD 28 undef = x28 at *
      generalize a.tmps.getD 4 undef = x4 at *
      have B2 : Below w1.heap.size w1 W := ((Below.refl _ w1).drew).trans B
      obtain ⟨Y, hY⟩ : ∃ Y, Y = imL t (nb bs 1) 0 0 0 (.slice ad (n - 8) (cap - 8)) := ⟨_, rfl⟩
      have YL : Y.length = zIm.length := by rw [hY]; rfl
      rw [← hY]
      have bo := But.cells s4 Y 0 W
      have C5 : Hid (CellsAt (W.setCells s4 0 Y) s4 0 Y) := h43.stored YL
      have F5 : Hid (∀ y, (W.setCells s4 0 Y).frozen? ⟨s4, y, none⟩ = false) := fun y => by rw [World.frozen?_setCells]; exact h44 y
      have L5 : s4 < (W.setCells s4 0 Y).heap.size := by rw [size_setCells]; exact h42
      have B5 : Hid (Below w1.heap.size w1 (W.setCells s4 0 Y)) := B2.trans (bo.below B2.size (fun g hg e => by have e : g = s4 := e; omega))
      subst e4
      clear h43 h44 h45 B B2 bo YL
      obtain ⟨wf, hwf⟩ : ∃ wf, wf = W.setCells s4 0 Y := ⟨_, rfl⟩
      rw [← hwf] at C5 F5 L5 B5 ⊢
      rw [hY] at C5
      clear hwf hY
      go_wp2
      go_meet
      exact ⟨s4, rfl, C5, F5, L5, h41, B5⟩
    case rest =>
      obtain ⟨s4, rfl, C5, F5, L5, h41, B5⟩ := hcut
      obtain ⟨w5, hw5⟩ : ∃ w5, w5 = wc := ⟨_, rfl⟩
      rw [← hw5] at C5 F5 L5 B5 ⊢
      clear hw5
      obtain ⟨I, hI⟩ : ∃ I, I = rrI bs := ⟨_, rfl⟩
      obtain ⟨S, hS⟩ : ∃ S, S = rdS bs := ⟨_, rfl⟩
      obtain ⟨U, hU⟩ : ∃ U, U = rdU bs := ⟨_, rfl⟩
      have HII := hide hI
      have HSS := hide hS
      have HUU := hide hU
      have x0 := (imL_cells C5.out).1
      obtain ⟨qe, hqe⟩ : ∃ qe, qe = ech t := ⟨_, rfl⟩
      have HQE := hide hqe
      clear hqe
      go_upto_region 8 with fail
      go_cut [36] from 29 to 36 (fun v wx => v = .bool qe ∧ w5 = wx)
      case first =>
        by_cases e0 : t = 0
        · subst e0
          have e : qe = true := by rw [HQE.out]; decide
          subst e
          go_wp2
          go_meet
          exact ⟨rfl, rfl⟩
        · have z0 : (t == 0) = false := by simpa using e0
          have z : (t == 8) = qe := by rw [HQE.out]; unfold ech; rw [Bool.eq_iff_iff]; simp [e0]
          clear e0
          go_wp2
          go_meet
          exact ⟨rfl, rfl⟩
      case rest =>
      obtain ⟨rfl, hcw⟩ := hcut
      subst hcw
      clear x0
      go_upto_if 36 with fail
      go_cut [] from 37 to 45 (fun wx => Hid (CellsAt wx s4 0 (imL t (nb bs 1) I S U (.slice ad (n - 8) (cap - 8)))) ∧ Hid (Below w1.heap.size w1 wx))
      case first =>
        cases qe with
        | true =>
          have he : ech t = true := HQE.out.symm
          have eI : I = w16 bs 4 := by rw [hI, rrI, ← HT.out, if_pos he]
          have eS : S = w16 bs 6 := by rw [hS, rdS, ← HT.out, if_pos he]
          have eU : U = 0 := by rw [hU, rdU, ← HT.out, if_pos he]
          obtain ⟨w6, hw6⟩ : ∃ w6, w6 = w5.setCell ⟨s4, 2, none⟩ (.int .i64 (w16 bs 4)) := ⟨_, rfl⟩
          have c6 : CellsAt w6 s4 0 (imL t (nb bs 1) (w16 bs 4) 0 0 (.slice ad (n - 8) (cap - 8))) := by rw [hw6]; exact (imL_set C5.out _).1
          obtain ⟨w7, hw7⟩ : ∃ w7, w7 = w6.setCell ⟨s4, 3, none⟩ (.int .i64 (w16 bs 6)) := ⟨_, rfl⟩
          have C7 : Hid (CellsAt w7 s4 0 (imL t (nb bs 1) (w16 bs 4) (w16 bs 6) 0 (.slice ad (n - 8) (cap - 8)))) := by rw [hw7]; exact (imL_set c6 _).2.1
          have B6 : Below w1.heap.size w1 w6 := by rw [hw6]; exact B5.out.setCell (p := ⟨s4, 2, none⟩) h41 _
          have B7 : Hid (Below w1.heap.size w1 w7) := by rw [hw7]; exact B6.setCell (p := ⟨s4, 3, none⟩) h41 _
          have A4 : Hid (Calls Try.prog 39 #[.slice (some ⟨g, off, none⟩) n cap, .int .i64 4, .int .i64 2] w5 fun e W' => e = .returned (.int .i64 (w16 bs 4)) ∧ W' = w5) := AT.out w5 4 (HB1.out.trans (B5.out.mono HB1.out.size)) (by omega)
          have A6 : Hid (Calls Try.prog 39 #[.slice (some ⟨g, off, none⟩) n cap, .int .i64 6, .int .i64 2] w6 fun e W' => e = .returned (.int .i64 (w16 bs 6)) ∧ W' = w6) := AT.out w6 6 (HB1.out.trans (B6.mono HB1.out.size)) (by omega)
          have y2 := (imL_cells C5.out).2.2.1
          have y3 := (imL_cells c6).2.2.2.1
          have y2f := F5.out 2
          have y3f : w6.frozen? ⟨s4, 3, none⟩ = false := by rw [hw6, World.frozen?_setCell]; exact F5.out 3
          have FE : Hid (I = w16 bs 4 ∧ S = w16 bs 6 ∧ U = 0) := ⟨eI, eS, eU⟩
          have hw6' := hw6.symm
          have hw7' := hw7.symm
          clear he hI hS hU eI eS eU hw6 hw7 c6 B6
          go_wp2_with fail
          refine A4.out.mono ?_
          rintro _ wz ⟨rfl, hz⟩
          rw [hz]
          clear hz
          go_wp2_with fail
          refine A6.out.mono ?_
          rintro _ wz ⟨rfl, hz⟩
          rw [hz]
          clear hz
          go_wp2
          go_meet
          exact ⟨by rw [FE.out.1, FE.out.2.1, FE.out.2.2]; exact C7, B7⟩
        | false =>
          have he : ech t = false := HQE.out.symm
          have eI : I = 0 := by rw [hI, rrI, ← HT.out, if_neg (by rw [he]; decide)]
          have eS : S = 0 := by rw [hS, rdS, ← HT.out, if_neg (by rw [he]; decide)]
          have eU : U = w16 bs 6 := by rw [hU, rdU, ← HT.out, if_neg (by rw [he]; decide)]
          obtain ⟨w6, hw6⟩ : ∃ w6, w6 = w5.setCell ⟨s4, 4, none⟩ (.int .i64 (w16 bs 6)) := ⟨_, rfl⟩
          have C6 : Hid (CellsAt w6 s4 0 (imL t (nb bs 1) 0 0 (w16 bs 6) (.slice ad (n - 8) (cap - 8)))) := by rw [hw6]; exact (imL_set C5.out _).2.2
          have B6 : Hid (Below w1.heap.size w1 w6) := by rw [hw6]; exact B5.out.setCell (p := ⟨s4, 4, none⟩) h41 _
          have A6 : Hid (Calls Try.prog 39 #[.slice (some ⟨g, off, none⟩) n cap, .int .i64 6, .int .i64 2] w5 fun e W' => e = .returned (.int .i64 (w16 bs 6)) ∧ W' = w5) := AT.out w5 6 (HB1.out.trans (B5.out.mono HB1.out.size)) (by omega)
          have y4 := (imL_cells C5.out).2.2.2.2.1
          have y4f := F5.out 4
          have FE : Hid (I = 0 ∧ S = 0 ∧ U = w16 bs 6) := ⟨eI, eS, eU⟩
          have hw6' := hw6.symm
          clear he hI hS hU eI eS eU hw6
          go_wp2_with fail
          refine A6.out.mono ?_
          rintro _ wz ⟨rfl, hz⟩
          rw [hz]
          clear hz
          go_wp2
          go_meet
          exact ⟨by rw [FE.out.1, FE.out.2.1, FE.out.2.2]; exact C6, B6⟩
      case rest =>
        obtain ⟨C6, B6⟩ := hcut
        obtain ⟨w6, hw6⟩ : ∃ w6, w6 = wc := ⟨_, rfl⟩
        rw [← hw6] at C6 B6 ⊢
        clear hw6
        obtain ⟨O, hO⟩ : ∃ O, O = rrO bs := ⟨_, rfl⟩
        have l6 : s4 < w6.heap.size := C6.out.lt (by simp [imL])
        have B6w : Hid (Below w.heap.size w w6) := HB1.out.trans (B6.out.mono HB1.out.size)
        have MY : Hid (Calls Try.prog 35 #[.agg (imL t (nb bs 1) I S U (.slice ad (n - 8) (cap - 8))).toArray] w6 fun e w' => e = .returned (.bool O) ∧ Below w6.heap.size w6 w') := by
          rw [hO, rrO, ← HT.out, ← hI, ← hS, ← hU]
          exact rMay_any t (nb bs 1) I S U ad (n - 8) (cap - 8) w6
        obtain ⟨X, hX⟩ : ∃ X, X = imL t (nb bs 1) I S U (.slice ad (n - 8) (cap - 8)) := ⟨_, rfl⟩
        rw [← hX] at C6 MY
        have LX : Hid (X.length = 6) := by rw [hX]; exact rfl
        have OX : Hid (∀ u ∈ X, u.oneCell' = true) := by rw [hX]; exact im_one _ _ _ _ _ _ _ _
        have HX := hide hX
        have HO := hide hO
        have BN : Hid (rrL bs = ldB t (nb bs 1) I S U (bs.drop 8) (w16 bs 2)) := by unfold Hid rrL; rw [← HT.out, ← hI, ← hS, ← hU]
        clear hI hS hU hX hO C5 F5 L5 B5
        go_wp2_with (refine wpList_loadA rfl 24 6 aggC sizC _ rfl s4 0 rfl X LX.out C6.out ?_)
        refine MY.out.mono ?_
        rintro _ w7 ⟨rfl, b7⟩
        have C7 := hide (C6.out.later l6 b7)
        have l7 : s4 < w7.heap.size := Nat.lt_of_lt_of_le l6 b7.size
        have B7 := hide (later B6.out b7)
        have B7w := hide (later B6w.out b7)
        clear b7 MY
        obtain ⟨eq, heq⟩ : ∃ eq, eq = (O && decide (w16 bs 4 = rrI bs)) := ⟨_, rfl⟩
        have EQM : Hid (eq = (rdM bs).may) := by rw [heq, HO.out]; exact rr_may.symm
        have n8 : 8 ≤ bs.length := by rw [← HN.out]; exact h8
        go_upto_region 13 with fail
        go_cut [59] from 48 to 59 (fun v wx => v = .bool (!eq) ∧ Hid (Below w7.heap.size w7 wx))
        case first =>
          cases O with
          | false =>
            rw [Bool.false_and] at heq
            subst heq
            refine region_quiet_C (fun W => Below w7.heap.size w7 W) (by kernel_rfl) (by kernel_rfl) (later_drew _) ?_
            go_big_quiet_step (fail)
            go_big_quiet_want
            refine quiet_pure (.bool true) (fun W hW => exec_not _ _ false rfl rfl) ?_
            go_big_quiet_on
            simp only [Act.put, List.setIfInBounds_toArray, List.set_cons_succ, List.set_cons_zero]
            go_big_quiet_step (fail)
            go_big_quiet_step (fail)
            go_big_quiet_step (fail)
            go_big_quiet_step (fail)
            go_big_quiet_step (fail)
            go_big_quiet_step (fail)
            go_big_quiet_step (fail)
            go_big_quiet_step (fail)
            go_big_quiet_step (fail)
            go_big_quiet_want
            refine quiet_pure (.bool true) (fun W hW => exec_pick _ _ _ true _ rfl rfl rfl) ?_
            go_big_quiet_on
            simp only [Act.put, List.setIfInBounds_toArray, List.set_cons_succ, List.set_cons_zero]
            refine wpQuiet_nil ?_
            intro wq bq
            go_wp2
            go_meet
            exact ⟨rfl, bq⟩
          | true =>
            rw [Bool.true_and] at heq
            have HEQ : Hid (decide (rrL bs = bs) = eq) := by rw [heq]; unfold Hid; rw [Bool.eq_iff_iff]; simp only [decide_eq_true_eq]; exact rrL_eq BY.out n8
            have HMB : mbI t (nb bs 1) I S U = true := by rw [HT.out, HII.out, HSS.out, HUU.out]; exact HO.out.symm
            have LDB : Bytes (rrL bs) := by rw [BN.out]; exact ldB_bytes HMB (BY.out.drop 8) _
            have w2b := w16_bd BY.out 2
            have LD : ∀ W, Below w.heap.size w W → Calls Try.prog 36 #[.agg X.toArray, .int .i64 (w16 bs 2)] W fun e w' => ∃ v, e = .returned v ∧ IsB w'.heap.size w' v (rrL bs) ∧ Below W.heap.size W w' := fun W hW => by
              have hd := DT.out W hW
              have e8 : n - 8 = (bs.drop 8).length := by rw [List.length_drop, ← HN.out]
              rw [HX.out, BN.out]
              rw [e8] at hd ⊢
              exact (rLaid_any t (nb bs 1) I S U ad (cap - 8) (bs.drop 8) (w16 bs 2) W HMB w2b.1 w2b.2 hd (by rw [← e8]; omega)).mono (by rintro _ W' ⟨v, rfl, hg, hb⟩; exact ⟨v, rfl, hg.isB, hb⟩)
            have BW : ∀ W, Below w7.heap.size w7.drew W → Below w.heap.size w W := fun W hW => B7w.out.trans ((((Below.refl _ w7).drew).trans hW).mono B7w.out.size)
            have CX : ∀ W, Below w7.heap.size w7.drew W → CellsAt W s4 0 X := fun W hW => C7.out.later l7 (((Below.refl _ w7).drew).trans hW)
            clear heq
            refine region_grow (w := w7) (fun i v W => match i with | 0 => v = .bool true | 1 => v = .bool false | 2 => v = .bool false | 3 => v = .agg X.toArray | 4 => v = .slice (some ⟨g, off, none⟩) n cap | 5 => v = .int .i64 (w16 bs 2) | 6 => IsB W.heap.size W v (rrL bs) | 7 => v = .string (strB (rrL bs)) | 8 => v = .slice (some ⟨g, off, none⟩) n cap | 9 => v = .string (strB bs) | 10 => v = .bool (!eq) | 11 => v = .bool (!eq) | _ => True) (by kernel_rfl) (by kernel_rfl) (by kernel_rfl) (some_guard [(2, false)] (by kernel_rfl) (by intro p hp v W h; simp only [List.mem_cons, List.not_mem_nil, or_false] at hp; rcases hp with rfl <;> exact h)) (fun i v W W' h hb => match i, h with | 0, h => h | 1, h => h | 2, h => h | 3, h => h | 4, h => h | 5, h => h | 6, h => IsB.later h hb | 7, h => h | 8, h => h | 9, h => h | 10, h => h | 11, h => h | _ + 12, h => h) ?_ ?_
            · intro listed a W hM hn i o ho hr
              have B := hM.bel
              match i, ho, hr with
              | 0, ho, hr =>
                have u5 : a.eval (.tmp 5) = .bool true := hM.keep (t := 5) (by kernel_rfl)
                exact Step.of rfl (.inl ⟨.bool true, W, exec_move _ _ rfl u5, Below.refl _ _, rfl⟩) ho
              | 1, ho, hr =>
                have u48 := hM.use hr rfl (j := 0) (by kernel_rfl) rfl rfl
                have u48 : a.eval (.tmp 48) = .bool true := u48
                exact Step.of rfl (.inl ⟨.bool false, W, exec_not _ _ true rfl u48, Below.refl _ _, rfl⟩) ho
              | 2, ho, hr =>
                have u49 := hM.use hr rfl (j := 1) (by kernel_rfl) rfl rfl
                have u49 : a.eval (.tmp 49) = .bool false := u49
                exact Step.of rfl (.inl ⟨.bool false, W, exec_move _ _ rfl u49, Below.refl _ _, rfl⟩) ho
              | 3, ho, hr =>
                have u4 : a.eval (.tmp 4) = .pointer (some ⟨s4, 0, none⟩) := hM.keep (t := 4) (by kernel_rfl)
                exact Step.of rfl (.inl ⟨.agg X.toArray, W, exec_loadA 24 6 aggC sizC _ rfl s4 0 u4 X LX.out (CX W B), Below.refl _ _, rfl⟩) ho
              | 4, ho, hr =>
                have u0 : a.eval (.tmp 0) = .slice (some ⟨g, off, none⟩) n cap := hM.keep (t := 0) (by kernel_rfl)
                exact Step.of rfl (.inl ⟨.slice (some ⟨g, off, none⟩) n cap, W, exec_move _ _ rfl u0, Below.refl _ _, rfl⟩) ho
              | 5, ho, hr =>
                have u52 := hM.use hr rfl (j := 4) (by kernel_rfl) rfl rfl
                have u52 : a.eval (.tmp 52) = .slice (some ⟨g, off, none⟩) n cap := u52
                refine Step.of rfl (.inr ⟨39, #[.slice (some ⟨g, off, none⟩) n cap, .int .i64 2, .int .i64 2], exec_callF _ _ _ _ rfl (map3 u52 rfl rfl) (enters_of Try.func39 (by kernel_rfl) rfl), ?_⟩) ho
                exact (AT.out W 2 (BW W B) (by omega)).mono (by rintro _ W' ⟨rfl, e⟩; rw [e]; exact ⟨_, rfl, rfl, Below.refl _ _⟩)
              | 6, ho, hr =>
                have u51 := hM.use hr rfl (j := 3) (by kernel_rfl) rfl rfl
                have u51 : a.eval (.tmp 51) = .agg X.toArray := u51
                have u53 := hM.use hr rfl (j := 5) (by kernel_rfl) rfl rfl
                have u53 : (fun v W => v = .int .i64 (w16 bs 2)) (a.eval (.tmp 53)) W := u53
                refine Step.of rfl (.inr ⟨36, #[.agg X.toArray, .int .i64 (w16 bs 2)], exec_callF _ _ _ _ rfl (map2 u51 u53) (enters_of Try.func36 (by kernel_rfl) rfl), ?_⟩) ho
                exact LD W (BW W B)
              | 7, ho, hr =>
                have u54 := hM.use hr rfl (j := 6) (by kernel_rfl) rfl rfl
                have u54 : (fun v W => IsB W.heap.size W v (rrL bs)) (a.eval (.tmp 54)) W := u54
                exact Step.of rfl (.inl ⟨.string (strB (rrL bs)), W, exec_str _ _ _ rfl rfl u54, Below.refl _ _, rfl⟩) ho
              | 8, ho, hr =>
                have u0 : a.eval (.tmp 0) = .slice (some ⟨g, off, none⟩) n cap := hM.keep (t := 0) (by kernel_rfl)
                exact Step.of rfl (.inl ⟨.slice (some ⟨g, off, none⟩) n cap, W, exec_move _ _ rfl u0, Below.refl _ _, rfl⟩) ho
              | 9, ho, hr =>
                have u56 := hM.use hr rfl (j := 8) (by kernel_rfl) rfl rfl
                have u56 : a.eval (.tmp 56) = .slice (some ⟨g, off, none⟩) n cap := u56
                exact Step.of rfl (.inl ⟨.string (strB bs), W, exec_str _ _ _ rfl u56 (HI0.out.later (BW W B)), Below.refl _ _, rfl⟩) ho
              | 10, ho, hr =>
                have u55 := hM.use hr rfl (j := 7) (by kernel_rfl) rfl rfl
                have u55 : a.eval (.tmp 55) = .string (strB (rrL bs)) := u55
                have u57 := hM.use hr rfl (j := 9) (by kernel_rfl) rfl rfl
                have u57 : a.eval (.tmp 57) = .string (strB bs) := u57
                exact Step.of rfl (.inl ⟨.bool (!eq), W, by rw [← HEQ.out]; exact exec_nes _ _ _ _ _ LDB BY.out rfl u55 u57, Below.refl _ _, rfl⟩) ho
              | 11, ho, hr =>
                have u50 := hM.use hr rfl (j := 2) (by kernel_rfl) rfl rfl
                have u50 : a.eval (.tmp 50) = .bool false := u50
                have u58 := hM.use hr rfl (j := 10) (by kernel_rfl) rfl rfl
                have u58 : a.eval (.tmp 58) = .bool (!eq) := u58
                exact Step.of rfl (.inl ⟨.bool (!eq), W, exec_pick _ _ _ false _ rfl u50 (by rw [if_neg (by decide)]; exact u58), Below.refl _ _, rfl⟩) ho
              | n + 12, ho, _ => exact absurd (Array.getElem?_eq_some_iff.1 ho).1 (by simp)
            intro listed a W hM hl
            have B := hM.bel
            have p48 : a.tmps.getD 48 undef = .bool true := hM.got 0 _ _ rfl (hl 0 (by decide)) rfl
            have p49 : a.tmps.getD 49 undef = .bool false := hM.got 1 _ _ rfl (hl 1 (by decide)) rfl
            have p50 : a.tmps.getD 50 undef = .bool false := hM.got 2 _ _ rfl (hl 2 (by decide)) rfl
            have p51 : a.tmps.getD 51 undef = .agg X.toArray := hM.got 3 _ _ rfl (hl 3 (by decide)) rfl
            have p52 : a.tmps.getD 52 undef = .slice (some ⟨g, off, none⟩) n cap := hM.got 4 _ _ rfl (hl 4 (by decide)) rfl
            have p53 : (fun v W => v = .int .i64 (w16 bs 2)) (a.tmps.getD 53 undef) W := hM.got 5 _ _ rfl (hl 5 (by decide)) rfl
            have p54 : (fun v W => IsB W.heap.size W v (rrL bs)) (a.tmps.getD 54 undef) W := hM.got 6 _ _ rfl (hl 6 (by decide)) rfl
            have p55 : a.tmps.getD 55 undef = .string (strB (rrL bs)) := hM.got 7 _ _ rfl (hl 7 (by decide)) rfl
            have p56 : a.tmps.getD 56 undef = .slice (some ⟨g, off, none⟩) n cap := hM.got 8 _ _ rfl (hl 8 (by decide)) rfl
            have p57 : a.tmps.getD 57 undef = .string (strB bs) := hM.got 9 _ _ rfl (hl 9 (by decide)) rfl
            have p58 : a.tmps.getD 58 undef = .bool (!eq) := hM.got 10 _ _ rfl (hl 10 (by decide)) rfl
            have p59 : a.tmps.getD 59 undef = .bool (!eq) := hM.got 11 _ _ rfl (hl 11 (by decide)) rfl
            rw [hM.lit [48, 49, 50, 51, 52, 53, 54, 55, 56, 57, 58, 59] (by kernel_rfl)]
            clear hM hl
            simp only [fill, List.foldl_cons, List.foldl_nil, Act.put, List.setIfInBounds_toArray, List.set_cons_zero, List.set_cons_succ]
            clear p48
            generalize a.tmps.getD 48 undef = x48 at *
            clear p49
            generalize a.tmps.getD 49 undef = x49 at *
            clear p50
            generalize a.tmps.getD 50 undef = x50 at *
            clear p51
            generalize a.tmps.getD 51 undef = x51 at *
            clear p52
            generalize a.tmps.getD 52 undef = x52 at *
            generalize a.tmps.getD 53 undef = x53 at *
            generalize a.tmps.getD 54 undef = x54 at *
            clear p55
            generalize a.tmps.getD 55 undef = x55 at *
            clear p56
            generalize a.tmps.getD 56 undef = x56 at *
            clear p57
            generalize a.tmps.getD 57 undef = x57 at *
            clear p58
            generalize a.tmps.getD 58 undef = x58 at *
            rw [p59]
            clear p59
            have B8 : Hid (Below w7.heap.size w7 W) := ((Below.refl _ w7).drew).trans B
            clear p53 p54 B
            go_wp2
            go_meet
            exact ⟨rfl, B8⟩
        case rest =>
          obtain ⟨rfl, B8⟩ := hcut
          obtain ⟨w8, hw8⟩ : ∃ w8, w8 = wc := ⟨_, rfl⟩
          rw [← hw8] at B8 ⊢
          clear hw8
          have B81 : Hid (Below w1.heap.size w1 w8) := later B7.out B8.out
          have C8 := hide (C7.out.later l7 B8.out)
          have e0 : idE bs = if eq = false then 4 else 0 := by
            rw [idE, if_neg (by omega), if_neg (by have := HN.out; omega), if_neg (by rw [← HCS.out]; simp), EQM.out]
          cases eq with
          | false =>
            have e : E = 4 := by rw [HE0.out, e0]; rfl
            subst e
            have HM : Hid (M = zMs) := ME (by decide)
            clear heq e0 ME
            go_upto_region 14 with fail

            obtain ⟨w9, hw9, k1, k2, k3, k4⟩ := HFIN.out w8 B81.out
            have K1 := hide k1
            have K2 := hide k2
            have K3 := hide k3
            have K4 := hide k4
            clear k1 k2 k3 k4
            go_wp2_with (first | refine wpList_val rfl (exec_zC rfl) ?_ | (refine wpList_storeA rfl 24 6 sizC _ _ rfl s2 0 rfl zIm zIm rfl rfl rfl K1.out K2.out (im_one _ _ _ _ _ _ _ _) ?_; intro _; rw [hw9]))
            refine bodyPost_ret (v := .tuple #[.agg zIm.toArray, .int .i64 4]) (results_2 rfl _ _ s2 _ _ rfl rfl (run_loadVarA 24 6 aggC sizC s2 0 _ rfl K3.out)) rfl ?_
            exact ⟨none, 0, 0, (by rw [HM.out]; rfl), (by rw [HM.out]; exact IsB.nil _ _), K4.out⟩
          | true =>
            have z0 : idE bs = 0 := by rw [e0]; rfl
            have e : E = 0 := by rw [HE0.out, z0]
            subst e
            have i4 : w16 bs 4 = rrI bs := by
              have h := heq.symm
              simp only [Bool.and_eq_true, decide_eq_true_eq] at h
              exact h.2
            have HM : Hid (M = rdM bs) := by rw [HM0.out, idM, if_pos z0]; exact rfl
            have XM : Hid (X = (rdM bs).cells (.slice ad (n - 8) (cap - 8))) := by
              rw [HX.out, HT.out, HII.out, HSS.out, HUU.out, ← i4]
              exact rfl
            have k1 : Hid (CellsAt w8 s2 0 zIm) := C1.out.later l1 B81.out
            have k2 : Hid (∀ y, w8.frozen? ⟨s2, y, none⟩ = false) := fun y => (B81.out.frozen (p := ⟨s2, y, none⟩) l1).trans (F1.out y)
            obtain ⟨w9, hw9⟩ : ∃ w9, w9 = w8.setCells s2 0 X := ⟨_, rfl⟩
            have bo := But.cells s2 X 0 w8
            rw [← hw9] at bo
            have C9 : Hid (CellsAt w9 s2 0 X) := by rw [hw9]; exact k1.out.stored (by rw [LX.out]; rfl)
            have B9 : Hid (Below w.heap.size w w9) := by
              have h := HB1.out.trans (B81.out.mono HB1.out.size)
              exact h.trans (bo.below h.size (fun g hg e => by have e : g = s2 := e; have := HS2.out; omega))
            have hw9' := hw9.symm
            clear bo hw9 ME e0 z0 i4 heq
            go_upto_region 15 with fail
            refine wp_region_list ?_
            refine wpList_loadA rfl 24 6 aggC sizC _ rfl s4 0 rfl X LX.out C8.out ?_
            simp only [Act.put, List.setIfInBounds_toArray, List.set_cons_zero, List.set_cons_succ]
            refine wpList_storeA rfl 24 6 sizC _ _ rfl s2 0 rfl X zIm rfl LX.out rfl k1.out k2.out OX.out ?_
            intro _
            rw [hw9']
            clear hw9'
            simp only [Act.put]
            go_wp2
            refine bodyPost_ret (v := .tuple #[.agg X.toArray, .int .i64 0]) (results_2 rfl _ _ s2 _ _ rfl rfl (run_loadVarA 24 6 aggC sizC s2 0 _ LX.out C9.out)) rfl ?_
            exact ⟨ad, n - 8, cap - 8, (by rw [HM.out, XM.out]), (by rw [HM.out]; exact DT.out w9 B9.out), B9.out⟩
  · have e : E = 5 := by rw [hE, idE, if_neg (by omega), if_neg (by omega), if_pos (by rw [← hcs]; exact h3)]
    subst e
    have HM : Hid (M = zMs) := ME (by decide)
    have z3 : (cs == 0) = false := by simpa using h3
    have HS1 := hide S1
    clear hb hB hl hn hM hE ME b1 c1 f1 hw1 hs2 h1 h2 h3 S1 FIN hcs
    go_enter Try.func13, Try.ntmps13
    go_wp2_with fail
    clear hw1' hs2'
    refine HS1.out.mono ?_
    rintro _ w2 ⟨rfl, hw2⟩
    rw [hw2]
    clear hw2 HS1
    have z4 : (cs != 0) = true := by rw [bne, z3]; rfl
    go_upto_region 6 with fail
    obtain ⟨w9, hw9, k1, k2, k3, k4⟩ := HFIN.out w1 (Below.refl _ _)
    have K1 := hide k1
    have K2 := hide k2
    have K3 := hide k3
    have K4 := hide k4
    clear k1 k2 k3 k4
    go_wp2_with (first | refine wpList_val rfl (exec_zC rfl) ?_ | (refine wpList_storeA rfl 24 6 sizC _ _ rfl s2 0 rfl zIm zIm rfl rfl rfl K1.out K2.out (im_one _ _ _ _ _ _ _ _) ?_; intro _; rw [hw9]))
    refine bodyPost_ret (v := .tuple #[.agg zIm.toArray, .int .i64 5]) (results_2 rfl _ _ s2 _ _ rfl rfl (run_loadVarA 24 6 aggC sizC s2 0 _ rfl K3.out)) rfl ?_
    exact ⟨none, 0, 0, (by rw [HM.out]; rfl), (by rw [HM.out]; exact IsB.nil _ _), K4.out⟩
end Go.Proofs.Ytlhkdjockodneaa