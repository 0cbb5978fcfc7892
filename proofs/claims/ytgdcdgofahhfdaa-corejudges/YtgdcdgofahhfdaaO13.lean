
/-
  The document's answer for package core: has, Active, Passive, Ended, Shut.
-/
import Derived.Test.YtgdcdgofahhfdaaO12
namespace Go.Proofs.Ytgdcdgofahhfdaa
open Go.RowKit Go.Shelf
set_option maxHeartbeats 1000000 in
theorem rHas15_any (s : Sg) (gv dv : Value) (f : Int) (hf : f = 1 ∨ f = 2 ∨ f = 4 ∨ f = 8 ∨ f = 16) (w : World) : Calls Try.prog 27 #[.agg (s.cells gv dv).toArray, .int .i64 f] w fun e w' => e = .returned (.bool (hasB s.flg f)) ∧ Below w.heap.size w w' := by
  have HB := hasR f s.flg hf
  rw [show (Value.agg (s.cells gv dv).toArray) = .agg #[.int .i64 s.src, .int .i64 s.dst, .int .u32 s.seq, .int .u32 s.ack, .int .i64 s.flg, .int .i64 s.wnd, .int .i64 s.mss, .bool s.sak, gv, dv] from rfl]
  obtain ⟨w1, b, hs, hw, c1, f1, b1, l1⟩ := boxS w s gv dv
  have k4 : w1.cell? ⟨b, 4, none⟩ = some (.int .i64 s.flg) := c1 4 _ rfl
  obtain ⟨r, hr⟩ : ∃ r, r = hasB s.flg f := ⟨_, rfl⟩
  rw [← hr] at HB ⊢
  obtain ⟨fl, hfl⟩ : ∃ fl, fl = s.flg := ⟨_, rfl⟩
  rw [← hfl] at HB k4 hw ⊢
  have HBH := hide HB
  have hs' := hs.symm
  have hw' := hw.symm
  have B1 := hide b1
  clear hs hw c1 f1 b1 HB hr hfl
  rcases hf with rfl | rfl | rfl | rfl | rfl
  · go_enter Try.func27, Try.ntmps27
    go_wp2
    go_ret
    exact ⟨by rw [← HBH.out]; rfl, B1.out⟩
  · go_enter Try.func27, Try.ntmps27
    go_wp2
    go_ret
    exact ⟨by rw [← HBH.out]; rfl, B1.out⟩
  · go_enter Try.func27, Try.ntmps27
    go_wp2
    go_ret
    exact ⟨by rw [← HBH.out]; rfl, B1.out⟩
  · go_enter Try.func27, Try.ntmps27
    go_wp2
    go_ret
    exact ⟨by rw [← HBH.out]; rfl, B1.out⟩
  · go_enter Try.func27, Try.ntmps27
    go_wp2
    go_ret
    exact ⟨by rw [← HBH.out]; rfl, B1.out⟩
theorem rActive_any (now : Int) (w : World) : Calls Try.prog 17 #[.int .i64 now] w fun e w' => e = .returned (.agg (begC 1 (fst32 now)).cells.toArray) ∧ Below w.heap.size w w' := by
  obtain ⟨w1, b, hs, hw, c1, f1, B1, l1⟩ := boxC w zCt
  obtain ⟨f, hf⟩ : ∃ f, f = fst32 now := ⟨_, rfl⟩
  obtain ⟨K, hK⟩ : ∃ K, K = (begC 1 f).cells := ⟨_, rfl⟩
  have LK : Hid (K.length = 11) := by rw [hK]; exact rfl
  have OK : Hid (∀ u ∈ K, u.oneCell' = true) := by rw [hK]; exact ct_one _
  have EK : Hid (Value.agg #[.int .i64 1, .int .u32 f, .int .u32 f, .int .u32 ((f + 1) % 4294967296), .bool false, .int .i64 0, .int .u32 0, .int .u32 0, .int .u32 0, .int .u32 0, .int .u32 0] = .agg K.toArray) := by rw [hK]; exact rfl
  have D := rFirst_any now w1
  rw [← hf] at D ⊢
  have HD := hide D
  obtain ⟨w2, hw2⟩ : ∃ w2, w2 = w1.setCells b 0 K := ⟨_, rfl⟩
  have C2 : Hid (CellsAt w2 b 0 K) := by rw [hw2]; exact c1.stored (by rw [LK.out]; rfl)
  have b2 : But (Only b) w1 w2 := by rw [hw2]; exact But.cells b K 0 w1
  have HB : Hid (Below w.heap.size w w2) := B1.trans (b2.below B1.size (fun g hg e => by have e : g = b := e; omega))
  have HK := hide hK
  have C1 := hide c1
  have F1 := hide f1
  have hs' := hs.symm
  have hw' := hw.symm
  have hw2' := hw2.symm
  simp only [zCt] at hw'
  clear hs hw c1 f1 B1 l1 hf hK D hw2 b2
  go_enter Try.func17, Try.ntmps17
  go_wp2_with fail
  clear hs' hw'
  refine HD.out.mono ?_
  rintro _ w3 ⟨rfl, hw3⟩
  subst hw3
  clear HD
  go_wp2_with (refine wpList_storeA rfl 24 11 sizCt _ _ rfl b 0 rfl K zCt.cells EK.out LK.out rfl C1.out F1.out OK.out ?_; intro _; rw [hw2'])
  refine bodyPost_ret (v := .agg K.toArray) (results_A rfl _ _ b _ rfl (run_loadVarA 24 11 aggCt sizCt b 0 _ LK.out C2.out)) rfl ?_
  exact ⟨by rw [HK.out], HB.out⟩
set_option maxHeartbeats 8000000 in
theorem rEnded_any (c : Ct) (hc : c.Ok) (w : World) : Calls Try.prog 19 #[.agg c.cells.toArray] w fun e w' => e = .returned (.agg (endC c).cells.toArray) ∧ Below w.heap.size w w' := by
  obtain ⟨w1, w2, s1, s2, hs1, hw1, hs2, hw2, o1, o2, n12, z1, z2, b2⟩ := boxCC w c
  rw [show (Value.agg c.cells.toArray) = .agg #[.int .i64 c.st, .int .u32 c.iss, .int .u32 c.una, .int .u32 c.nxt, .bool c.fs, .int .i64 c.wnd, .int .u32 c.wl1, .int .u32 c.wl2, .int .u32 c.irs, .int .u32 c.rcv, .int .u32 c.adv] from rfl]
  have x0 : w2.cell? ⟨s1, 0, none⟩ = some (.int .i64 c.st) := o1.1 0 _ rfl
  have f0 := o1.2.1 0
  have x9 : w2.cell? ⟨s1, 9, none⟩ = some (.int .u32 c.rcv) := o1.1 9 _ rfl
  have f9 := o1.2.1 9
  have x10 : w2.cell? ⟨s1, 10, none⟩ = some (.int .u32 c.adv) := o1.1 10 _ rfl
  have f10 := o1.2.1 10
  have hs1' := hs1.symm
  have hw1' := hw1.symm
  have hs2' := hs2.symm
  have hw2' := hw2.symm
  have O1 := hide o1
  have O2 := hide o2
  have N12 := hide n12
  have Z12 : Hid (w.heap.size ≤ s1 ∧ w.heap.size ≤ s2) := ⟨z1, z2⟩
  have B2 := hide b2
  clear hs1 hw1 hs2 hw2 o1 o2 n12 z1 z2 b2
  obtain ⟨R, hR⟩ : ∃ R, R = endC c := ⟨_, rfl⟩
  rw [← hR]
  obtain ⟨n9, hn9⟩ : ∃ n9, n9 = (c.rcv + 1) % 4294967296 := ⟨_, rfl⟩
  obtain ⟨dd, hdd⟩ : ∃ dd, dd = dif n9 c.adv := ⟨_, rfl⟩
  have IB : Hid (∀ W, Calls Try.prog 20 #[.int .u32 n9, .int .u32 c.adv] W fun e w' => e = .returned (.int .i64 dd) ∧ w' = W) := fun W => by rw [hdd]; exact rDiff_any n9 c.adv (by omega) hc.adv W
  obtain ⟨d, hd⟩ : ∃ d, d = decide (0 < dd) := ⟨_, rfl⟩
  have HD : Hid (d = decide (0 < dif n9 c.adv)) := by rw [← hdd]; exact hd
  have HN := hide hn9
  have hn9' := hn9.symm
  have hd' := hd.symm
  have HR : Hid (R = { c with st := endS c.st, rcv := n9, adv := if 0 < dif n9 c.adv then (c.adv + 1) % 4294967296 else c.adv }) := by rw [hR, hn9]; exact rfl
  clear hR hd hdd hn9 hc
  go_enter Try.func19, Try.ntmps19
  go_upto_region 1 with fail
  clear hs1' hw1' hs2' hw2'
  by_cases h3 : c.st = 3
  · skip
    have ES : Hid (endS c.st = 6) := by unfold Hid endS; rw [if_pos (.inr h3)]
    go_wp2_with fail
    refine (IB.out _).mono ?_
    rintro _ wz ⟨rfl, hwz⟩
    subst hwz
    cases d with
    | true =>
      have DD : 0 < dif n9 c.adv := of_decide_eq_true HD.out.symm
      obtain ⟨w8, hwa⟩ : ∃ w3, w3 = (((w2.setCell ⟨s1, 0, none⟩ (.int .i64 6)).setCell ⟨s1, 9, none⟩ (.int .u32 n9)).setCell ⟨s1, 10, none⟩ (.int .u32 ((c.adv + 1) % 4294967296))) := ⟨_, rfl⟩
      obtain ⟨K, hK⟩ : ∃ K, K = ({ c with st := 6, rcv := n9, adv := (c.adv + 1) % 4294967296 } : Ct).cells := ⟨_, rfl⟩
      have LK : Hid (K.length = 11) := by rw [hK]; exact rfl
      have OK : Hid (∀ u ∈ K, u.oneCell' = true) := by rw [hK]; exact ct_one _
      have BA : Hid (But (Only s1) w2 w8) := by rw [hwa]; exact ((((But.refl (Only s1) w2).setOf (b := s1) rfl 0 (.int .i64 6)).setOf (b := s1) rfl 9 (.int .u32 n9)).setOf (b := s1) rfl 10 (.int .u32 ((c.adv + 1) % 4294967296)))
      have OA : Hid (CellsAt w8 s1 0 K) := by rw [hK, hwa]; exact (((O1.out.one (k := 0) (c' := { c with st := 6 }) (by decide) (.int .i64 6) rfl).one (k := 9) (c' := { c with st := 6, rcv := n9 }) (by decide) (.int .u32 n9) rfl).one (k := 10) (c' := { c with st := 6, rcv := n9, adv := (c.adv + 1) % 4294967296 }) (by decide) (.int .u32 ((c.adv + 1) % 4294967296)) rfl).1
      have OB : Hid (OwnC w8 s2 zCt) := O2.out.but BA.out (fun e => N12.out (Eq.symm e))
      have CB := hide OB.out.1
      have FB := hide OB.out.2.1
      obtain ⟨w9, hw9⟩ : ∃ w9, w9 = w8.setCells s2 0 K := ⟨_, rfl⟩
      have C9 : Hid (CellsAt w9 s2 0 K) := by rw [hw9]; exact CB.out.stored (by rw [LK.out]; rfl)
      have B9 : Hid (Below w.heap.size w w9) := by
        have h1 := B2.out.trans (BA.out.below B2.out.size (fun g hg e => by have e : g = s1 := e; have := Z12.out.1; omega))
        rw [hw9]
        exact h1.trans ((But.cells s2 K 0 w8).below h1.size (fun g hg e => by have e : g = s2 := e; have := Z12.out.2; omega))
      have hwa' := hwa.symm
      have hw9' := hw9.symm
      have HK := hide hK
      clear hwa hw9 hK BA OB
      go_wp2_with (first | refine wpList_loadA rfl 24 11 aggCt sizCt _ rfl s1 0 rfl K LK.out OA.out ?_ | (refine wpList_storeA rfl 24 11 sizCt _ _ rfl s2 0 rfl K zCt.cells rfl LK.out rfl CB.out FB.out OK.out ?_; intro _; rw [hw9']))
      refine bodyPost_ret (v := .agg K.toArray) (results_A rfl _ _ s2 _ rfl (run_loadVarA 24 11 aggCt sizCt s2 0 _ LK.out C9.out)) rfl ?_
      exact ⟨by rw [HK.out, HR.out, ES.out, if_pos DD], B9.out⟩
    | false =>
      have DD : ¬ 0 < dif n9 c.adv := of_decide_eq_false HD.out.symm
      obtain ⟨w8, hwa⟩ : ∃ w3, w3 = ((w2.setCell ⟨s1, 0, none⟩ (.int .i64 6)).setCell ⟨s1, 9, none⟩ (.int .u32 n9)) := ⟨_, rfl⟩
      obtain ⟨K, hK⟩ : ∃ K, K = ({ c with st := 6, rcv := n9 } : Ct).cells := ⟨_, rfl⟩
      have LK : Hid (K.length = 11) := by rw [hK]; exact rfl
      have OK : Hid (∀ u ∈ K, u.oneCell' = true) := by rw [hK]; exact ct_one _
      have BA : Hid (But (Only s1) w2 w8) := by rw [hwa]; exact (((But.refl (Only s1) w2).setOf (b := s1) rfl 0 (.int .i64 6)).setOf (b := s1) rfl 9 (.int .u32 n9))
      have OA : Hid (CellsAt w8 s1 0 K) := by rw [hK, hwa]; exact ((O1.out.one (k := 0) (c' := { c with st := 6 }) (by decide) (.int .i64 6) rfl).one (k := 9) (c' := { c with st := 6, rcv := n9 }) (by decide) (.int .u32 n9) rfl).1
      have OB : Hid (OwnC w8 s2 zCt) := O2.out.but BA.out (fun e => N12.out (Eq.symm e))
      have CB := hide OB.out.1
      have FB := hide OB.out.2.1
      obtain ⟨w9, hw9⟩ : ∃ w9, w9 = w8.setCells s2 0 K := ⟨_, rfl⟩
      have C9 : Hid (CellsAt w9 s2 0 K) := by rw [hw9]; exact CB.out.stored (by rw [LK.out]; rfl)
      have B9 : Hid (Below w.heap.size w w9) := by
        have h1 := B2.out.trans (BA.out.below B2.out.size (fun g hg e => by have e : g = s1 := e; have := Z12.out.1; omega))
        rw [hw9]
        exact h1.trans ((But.cells s2 K 0 w8).below h1.size (fun g hg e => by have e : g = s2 := e; have := Z12.out.2; omega))
      have hwa' := hwa.symm
      have hw9' := hw9.symm
      have HK := hide hK
      clear hwa hw9 hK BA OB
      go_wp2_with (first | refine wpList_loadA rfl 24 11 aggCt sizCt _ rfl s1 0 rfl K LK.out OA.out ?_ | (refine wpList_storeA rfl 24 11 sizCt _ _ rfl s2 0 rfl K zCt.cells rfl LK.out rfl CB.out FB.out OK.out ?_; intro _; rw [hw9']))
      refine bodyPost_ret (v := .agg K.toArray) (results_A rfl _ _ s2 _ rfl (run_loadVarA 24 11 aggCt sizCt s2 0 _ LK.out C9.out)) rfl ?_
      exact ⟨by rw [HK.out, HR.out, ES.out, if_neg (by omega)], B9.out⟩
  by_cases h2 : c.st = 2
  · skip
    have ES : Hid (endS c.st = 6) := by unfold Hid endS; rw [if_pos (.inl h2)]
    go_wp2_with fail
    refine (IB.out _).mono ?_
    rintro _ wz ⟨rfl, hwz⟩
    subst hwz
    cases d with
    | true =>
      have DD : 0 < dif n9 c.adv := of_decide_eq_true HD.out.symm
      obtain ⟨w8, hwa⟩ : ∃ w3, w3 = (((w2.setCell ⟨s1, 0, none⟩ (.int .i64 6)).setCell ⟨s1, 9, none⟩ (.int .u32 n9)).setCell ⟨s1, 10, none⟩ (.int .u32 ((c.adv + 1) % 4294967296))) := ⟨_, rfl⟩
      obtain ⟨K, hK⟩ : ∃ K, K = ({ c with st := 6, rcv := n9, adv := (c.adv + 1) % 4294967296 } : Ct).cells := ⟨_, rfl⟩
      have LK : Hid (K.length = 11) := by rw [hK]; exact rfl
      have OK : Hid (∀ u ∈ K, u.oneCell' = true) := by rw [hK]; exact ct_one _
      have BA : Hid (But (Only s1) w2 w8) := by rw [hwa]; exact ((((But.refl (Only s1) w2).setOf (b := s1) rfl 0 (.int .i64 6)).setOf (b := s1) rfl 9 (.int .u32 n9)).setOf (b := s1) rfl 10 (.int .u32 ((c.adv + 1) % 4294967296)))
      have OA : Hid (CellsAt w8 s1 0 K) := by rw [hK, hwa]; exact (((O1.out.one (k := 0) (c' := { c with st := 6 }) (by decide) (.int .i64 6) rfl).one (k := 9) (c' := { c with st := 6, rcv := n9 }) (by decide) (.int .u32 n9) rfl).one (k := 10) (c' := { c with st := 6, rcv := n9, adv := (c.adv + 1) % 4294967296 }) (by decide) (.int .u32 ((c.adv + 1) % 4294967296)) rfl).1
      have OB : Hid (OwnC w8 s2 zCt) := O2.out.but BA.out (fun e => N12.out (Eq.symm e))
      have CB := hide OB.out.1
      have FB := hide OB.out.2.1
      obtain ⟨w9, hw9⟩ : ∃ w9, w9 = w8.setCells s2 0 K := ⟨_, rfl⟩
      have C9 : Hid (CellsAt w9 s2 0 K) := by rw [hw9]; exact CB.out.stored (by rw [LK.out]; rfl)
      have B9 : Hid (Below w.heap.size w w9) := by
        have h1 := B2.out.trans (BA.out.below B2.out.size (fun g hg e => by have e : g = s1 := e; have := Z12.out.1; omega))
        rw [hw9]
        exact h1.trans ((But.cells s2 K 0 w8).below h1.size (fun g hg e => by have e : g = s2 := e; have := Z12.out.2; omega))
      have hwa' := hwa.symm
      have hw9' := hw9.symm
      have HK := hide hK
      clear hwa hw9 hK BA OB
      go_wp2_with (first | refine wpList_loadA rfl 24 11 aggCt sizCt _ rfl s1 0 rfl K LK.out OA.out ?_ | (refine wpList_storeA rfl 24 11 sizCt _ _ rfl s2 0 rfl K zCt.cells rfl LK.out rfl CB.out FB.out OK.out ?_; intro _; rw [hw9']))
      refine bodyPost_ret (v := .agg K.toArray) (results_A rfl _ _ s2 _ rfl (run_loadVarA 24 11 aggCt sizCt s2 0 _ LK.out C9.out)) rfl ?_
      exact ⟨by rw [HK.out, HR.out, ES.out, if_pos DD], B9.out⟩
    | false =>
      have DD : ¬ 0 < dif n9 c.adv := of_decide_eq_false HD.out.symm
      obtain ⟨w8, hwa⟩ : ∃ w3, w3 = ((w2.setCell ⟨s1, 0, none⟩ (.int .i64 6)).setCell ⟨s1, 9, none⟩ (.int .u32 n9)) := ⟨_, rfl⟩
      obtain ⟨K, hK⟩ : ∃ K, K = ({ c with st := 6, rcv := n9 } : Ct).cells := ⟨_, rfl⟩
      have LK : Hid (K.length = 11) := by rw [hK]; exact rfl
      have OK : Hid (∀ u ∈ K, u.oneCell' = true) := by rw [hK]; exact ct_one _
      have BA : Hid (But (Only s1) w2 w8) := by rw [hwa]; exact (((But.refl (Only s1) w2).setOf (b := s1) rfl 0 (.int .i64 6)).setOf (b := s1) rfl 9 (.int .u32 n9))
      have OA : Hid (CellsAt w8 s1 0 K) := by rw [hK, hwa]; exact ((O1.out.one (k := 0) (c' := { c with st := 6 }) (by decide) (.int .i64 6) rfl).one (k := 9) (c' := { c with st := 6, rcv := n9 }) (by decide) (.int .u32 n9) rfl).1
      have OB : Hid (OwnC w8 s2 zCt) := O2.out.but BA.out (fun e => N12.out (Eq.symm e))
      have CB := hide OB.out.1
      have FB := hide OB.out.2.1
      obtain ⟨w9, hw9⟩ : ∃ w9, w9 = w8.setCells s2 0 K := ⟨_, rfl⟩
      have C9 : Hid (CellsAt w9 s2 0 K) := by rw [hw9]; exact CB.out.stored (by rw [LK.out]; rfl)
      have B9 : Hid (Below w.heap.size w w9) := by
        have h1 := B2.out.trans (BA.out.below B2.out.size (fun g hg e => by have e : g = s1 := e; have := Z12.out.1; omega))
        rw [hw9]
        exact h1.trans ((But.cells s2 K 0 w8).below h1.size (fun g hg e => by have e : g = s2 := e; have := Z12.out.2; omega))
      have hwa' := hwa.symm
      have hw9' := hw9.symm
      have HK := hide hK
      clear hwa hw9 hK BA OB
      go_wp2_with (first | refine wpList_loadA rfl 24 11 aggCt sizCt _ rfl s1 0 rfl K LK.out OA.out ?_ | (refine wpList_storeA rfl 24 11 sizCt _ _ rfl s2 0 rfl K zCt.cells rfl LK.out rfl CB.out FB.out OK.out ?_; intro _; rw [hw9']))
      refine bodyPost_ret (v := .agg K.toArray) (results_A rfl _ _ s2 _ rfl (run_loadVarA 24 11 aggCt sizCt s2 0 _ LK.out C9.out)) rfl ?_
      exact ⟨by rw [HK.out, HR.out, ES.out, if_neg (by omega)], B9.out⟩
  by_cases h4 : c.st = 4
  · skip
    have ES : Hid (endS c.st = 7) := by unfold Hid endS; rw [if_neg (fun k => k.elim h2 h3), if_pos h4]
    go_wp2_with fail
    refine (IB.out _).mono ?_
    rintro _ wz ⟨rfl, hwz⟩
    subst hwz
    cases d with
    | true =>
      have DD : 0 < dif n9 c.adv := of_decide_eq_true HD.out.symm
      obtain ⟨w8, hwa⟩ : ∃ w3, w3 = (((w2.setCell ⟨s1, 0, none⟩ (.int .i64 7)).setCell ⟨s1, 9, none⟩ (.int .u32 n9)).setCell ⟨s1, 10, none⟩ (.int .u32 ((c.adv + 1) % 4294967296))) := ⟨_, rfl⟩
      obtain ⟨K, hK⟩ : ∃ K, K = ({ c with st := 7, rcv := n9, adv := (c.adv + 1) % 4294967296 } : Ct).cells := ⟨_, rfl⟩
      have LK : Hid (K.length = 11) := by rw [hK]; exact rfl
      have OK : Hid (∀ u ∈ K, u.oneCell' = true) := by rw [hK]; exact ct_one _
      have BA : Hid (But (Only s1) w2 w8) := by rw [hwa]; exact ((((But.refl (Only s1) w2).setOf (b := s1) rfl 0 (.int .i64 7)).setOf (b := s1) rfl 9 (.int .u32 n9)).setOf (b := s1) rfl 10 (.int .u32 ((c.adv + 1) % 4294967296)))
      have OA : Hid (CellsAt w8 s1 0 K) := by rw [hK, hwa]; exact (((O1.out.one (k := 0) (c' := { c with st := 7 }) (by decide) (.int .i64 7) rfl).one (k := 9) (c' := { c with st := 7, rcv := n9 }) (by decide) (.int .u32 n9) rfl).one (k := 10) (c' := { c with st := 7, rcv := n9, adv := (c.adv + 1) % 4294967296 }) (by decide) (.int .u32 ((c.adv + 1) % 4294967296)) rfl).1
      have OB : Hid (OwnC w8 s2 zCt) := O2.out.but BA.out (fun e => N12.out (Eq.symm e))
      have CB := hide OB.out.1
      have FB := hide OB.out.2.1
      obtain ⟨w9, hw9⟩ : ∃ w9, w9 = w8.setCells s2 0 K := ⟨_, rfl⟩
      have C9 : Hid (CellsAt w9 s2 0 K) := by rw [hw9]; exact CB.out.stored (by rw [LK.out]; rfl)
      have B9 : Hid (Below w.heap.size w w9) := by
        have h1 := B2.out.trans (BA.out.below B2.out.size (fun g hg e => by have e : g = s1 := e; have := Z12.out.1; omega))
        rw [hw9]
        exact h1.trans ((But.cells s2 K 0 w8).below h1.size (fun g hg e => by have e : g = s2 := e; have := Z12.out.2; omega))
      have hwa' := hwa.symm
      have hw9' := hw9.symm
      have HK := hide hK
      clear hwa hw9 hK BA OB
      go_wp2_with (first | refine wpList_loadA rfl 24 11 aggCt sizCt _ rfl s1 0 rfl K LK.out OA.out ?_ | (refine wpList_storeA rfl 24 11 sizCt _ _ rfl s2 0 rfl K zCt.cells rfl LK.out rfl CB.out FB.out OK.out ?_; intro _; rw [hw9']))
      refine bodyPost_ret (v := .agg K.toArray) (results_A rfl _ _ s2 _ rfl (run_loadVarA 24 11 aggCt sizCt s2 0 _ LK.out C9.out)) rfl ?_
      exact ⟨by rw [HK.out, HR.out, ES.out, if_pos DD], B9.out⟩
    | false =>
      have DD : ¬ 0 < dif n9 c.adv := of_decide_eq_false HD.out.symm
      obtain ⟨w8, hwa⟩ : ∃ w3, w3 = ((w2.setCell ⟨s1, 0, none⟩ (.int .i64 7)).setCell ⟨s1, 9, none⟩ (.int .u32 n9)) := ⟨_, rfl⟩
      obtain ⟨K, hK⟩ : ∃ K, K = ({ c with st := 7, rcv := n9 } : Ct).cells := ⟨_, rfl⟩
      have LK : Hid (K.length = 11) := by rw [hK]; exact rfl
      have OK : Hid (∀ u ∈ K, u.oneCell' = true) := by rw [hK]; exact ct_one _
      have BA : Hid (But (Only s1) w2 w8) := by rw [hwa]; exact (((But.refl (Only s1) w2).setOf (b := s1) rfl 0 (.int .i64 7)).setOf (b := s1) rfl 9 (.int .u32 n9))
      have OA : Hid (CellsAt w8 s1 0 K) := by rw [hK, hwa]; exact ((O1.out.one (k := 0) (c' := { c with st := 7 }) (by decide) (.int .i64 7) rfl).one (k := 9) (c' := { c with st := 7, rcv := n9 }) (by decide) (.int .u32 n9) rfl).1
      have OB : Hid (OwnC w8 s2 zCt) := O2.out.but BA.out (fun e => N12.out (Eq.symm e))
      have CB := hide OB.out.1
      have FB := hide OB.out.2.1
      obtain ⟨w9, hw9⟩ : ∃ w9, w9 = w8.setCells s2 0 K := ⟨_, rfl⟩
      have C9 : Hid (CellsAt w9 s2 0 K) := by rw [hw9]; exact CB.out.stored (by rw [LK.out]; rfl)
      have B9 : Hid (Below w.heap.size w w9) := by
        have h1 := B2.out.trans (BA.out.below B2.out.size (fun g hg e => by have e : g = s1 := e; have := Z12.out.1; omega))
        rw [hw9]
        exact h1.trans ((But.cells s2 K 0 w8).below h1.size (fun g hg e => by have e : g = s2 := e; have := Z12.out.2; omega))
      have hwa' := hwa.symm
      have hw9' := hw9.symm
      have HK := hide hK
      clear hwa hw9 hK BA OB
      go_wp2_with (first | refine wpList_loadA rfl 24 11 aggCt sizCt _ rfl s1 0 rfl K LK.out OA.out ?_ | (refine wpList_storeA rfl 24 11 sizCt _ _ rfl s2 0 rfl K zCt.cells rfl LK.out rfl CB.out FB.out OK.out ?_; intro _; rw [hw9']))
      refine bodyPost_ret (v := .agg K.toArray) (results_A rfl _ _ s2 _ rfl (run_loadVarA 24 11 aggCt sizCt s2 0 _ LK.out C9.out)) rfl ?_
      exact ⟨by rw [HK.out, HR.out, ES.out, if_neg (by omega)], B9.out⟩
  by_cases h5 : c.st = 5
  · skip
    have ES : Hid (endS c.st = 9) := by unfold Hid endS; rw [if_neg (fun k => k.elim h2 h3), if_neg h4, if_pos h5]
    go_wp2_with fail
    refine (IB.out _).mono ?_
    rintro _ wz ⟨rfl, hwz⟩
    subst hwz
    cases d with
    | true =>
      have DD : 0 < dif n9 c.adv := of_decide_eq_true HD.out.symm
      obtain ⟨w8, hwa⟩ : ∃ w3, w3 = (((w2.setCell ⟨s1, 0, none⟩ (.int .i64 9)).setCell ⟨s1, 9, none⟩ (.int .u32 n9)).setCell ⟨s1, 10, none⟩ (.int .u32 ((c.adv + 1) % 4294967296))) := ⟨_, rfl⟩
      obtain ⟨K, hK⟩ : ∃ K, K = ({ c with st := 9, rcv := n9, adv := (c.adv + 1) % 4294967296 } : Ct).cells := ⟨_, rfl⟩
      have LK : Hid (K.length = 11) := by rw [hK]; exact rfl
      have OK : Hid (∀ u ∈ K, u.oneCell' = true) := by rw [hK]; exact ct_one _
      have BA : Hid (But (Only s1) w2 w8) := by rw [hwa]; exact ((((But.refl (Only s1) w2).setOf (b := s1) rfl 0 (.int .i64 9)).setOf (b := s1) rfl 9 (.int .u32 n9)).setOf (b := s1) rfl 10 (.int .u32 ((c.adv + 1) % 4294967296)))
      have OA : Hid (CellsAt w8 s1 0 K) := by rw [hK, hwa]; exact (((O1.out.one (k := 0) (c' := { c with st := 9 }) (by decide) (.int .i64 9) rfl).one (k := 9) (c' := { c with st := 9, rcv := n9 }) (by decide) (.int .u32 n9) rfl).one (k := 10) (c' := { c with st := 9, rcv := n9, adv := (c.adv + 1) % 4294967296 }) (by decide) (.int .u32 ((c.adv + 1) % 4294967296)) rfl).1
      have OB : Hid (OwnC w8 s2 zCt) := O2.out.but BA.out (fun e => N12.out (Eq.symm e))
      have CB := hide OB.out.1
      have FB := hide OB.out.2.1
      obtain ⟨w9, hw9⟩ : ∃ w9, w9 = w8.setCells s2 0 K := ⟨_, rfl⟩
      have C9 : Hid (CellsAt w9 s2 0 K) := by rw [hw9]; exact CB.out.stored (by rw [LK.out]; rfl)
      have B9 : Hid (Below w.heap.size w w9) := by
        have h1 := B2.out.trans (BA.out.below B2.out.size (fun g hg e => by have e : g = s1 := e; have := Z12.out.1; omega))
        rw [hw9]
        exact h1.trans ((But.cells s2 K 0 w8).below h1.size (fun g hg e => by have e : g = s2 := e; have := Z12.out.2; omega))
      have hwa' := hwa.symm
      have hw9' := hw9.symm
      have HK := hide hK
      clear hwa hw9 hK BA OB
      go_wp2_with (first | refine wpList_loadA rfl 24 11 aggCt sizCt _ rfl s1 0 rfl K LK.out OA.out ?_ | (refine wpList_storeA rfl 24 11 sizCt _ _ rfl s2 0 rfl K zCt.cells rfl LK.out rfl CB.out FB.out OK.out ?_; intro _; rw [hw9']))
      refine bodyPost_ret (v := .agg K.toArray) (results_A rfl _ _ s2 _ rfl (run_loadVarA 24 11 aggCt sizCt s2 0 _ LK.out C9.out)) rfl ?_
      exact ⟨by rw [HK.out, HR.out, ES.out, if_pos DD], B9.out⟩
    | false =>
      have DD : ¬ 0 < dif n9 c.adv := of_decide_eq_false HD.out.symm
      obtain ⟨w8, hwa⟩ : ∃ w3, w3 = ((w2.setCell ⟨s1, 0, none⟩ (.int .i64 9)).setCell ⟨s1, 9, none⟩ (.int .u32 n9)) := ⟨_, rfl⟩
      obtain ⟨K, hK⟩ : ∃ K, K = ({ c with st := 9, rcv := n9 } : Ct).cells := ⟨_, rfl⟩
      have LK : Hid (K.length = 11) := by rw [hK]; exact rfl
      have OK : Hid (∀ u ∈ K, u.oneCell' = true) := by rw [hK]; exact ct_one _
      have BA : Hid (But (Only s1) w2 w8) := by rw [hwa]; exact (((But.refl (Only s1) w2).setOf (b := s1) rfl 0 (.int .i64 9)).setOf (b := s1) rfl 9 (.int .u32 n9))
      have OA : Hid (CellsAt w8 s1 0 K) := by rw [hK, hwa]; exact ((O1.out.one (k := 0) (c' := { c with st := 9 }) (by decide) (.int .i64 9) rfl).one (k := 9) (c' := { c with st := 9, rcv := n9 }) (by decide) (.int .u32 n9) rfl).1
      have OB : Hid (OwnC w8 s2 zCt) := O2.out.but BA.out (fun e => N12.out (Eq.symm e))
      have CB := hide OB.out.1
      have FB := hide OB.out.2.1
      obtain ⟨w9, hw9⟩ : ∃ w9, w9 = w8.setCells s2 0 K := ⟨_, rfl⟩
      have C9 : Hid (CellsAt w9 s2 0 K) := by rw [hw9]; exact CB.out.stored (by rw [LK.out]; rfl)
      have B9 : Hid (Below w.heap.size w w9) := by
        have h1 := B2.out.trans (BA.out.below B2.out.size (fun g hg e => by have e : g = s1 := e; have := Z12.out.1; omega))
        rw [hw9]
        exact h1.trans ((But.cells s2 K 0 w8).below h1.size (fun g hg e => by have e : g = s2 := e; have := Z12.out.2; omega))
      have hwa' := hwa.symm
      have hw9' := hw9.symm
      have HK := hide hK
      clear hwa hw9 hK BA OB
      go_wp2_with (first | refine wpList_loadA rfl 24 11 aggCt sizCt _ rfl s1 0 rfl K LK.out OA.out ?_ | (refine wpList_storeA rfl 24 11 sizCt _ _ rfl s2 0 rfl K zCt.cells rfl LK.out rfl CB.out FB.out OK.out ?_; intro _; rw [hw9']))
      refine bodyPost_ret (v := .agg K.toArray) (results_A rfl _ _ s2 _ rfl (run_loadVarA 24 11 aggCt sizCt s2 0 _ LK.out C9.out)) rfl ?_
      exact ⟨by rw [HK.out, HR.out, ES.out, if_neg (by omega)], B9.out⟩
  have ES : Hid (endS c.st = c.st) := by unfold Hid endS; rw [if_neg (fun k => k.elim h2 h3), if_neg h4, if_neg h5]
  go_wp2_with fail
  refine (IB.out _).mono ?_
  rintro _ wz ⟨rfl, hwz⟩
  subst hwz
  cases d with
  | true =>
    have DD : 0 < dif n9 c.adv := of_decide_eq_true HD.out.symm
    obtain ⟨w8, hwa⟩ : ∃ w3, w3 = ((w2.setCell ⟨s1, 9, none⟩ (.int .u32 n9)).setCell ⟨s1, 10, none⟩ (.int .u32 ((c.adv + 1) % 4294967296))) := ⟨_, rfl⟩
    obtain ⟨K, hK⟩ : ∃ K, K = ({ c with rcv := n9, adv := (c.adv + 1) % 4294967296 } : Ct).cells := ⟨_, rfl⟩
    have LK : Hid (K.length = 11) := by rw [hK]; exact rfl
    have OK : Hid (∀ u ∈ K, u.oneCell' = true) := by rw [hK]; exact ct_one _
    have BA : Hid (But (Only s1) w2 w8) := by rw [hwa]; exact (((But.refl (Only s1) w2).setOf (b := s1) rfl 9 (.int .u32 n9)).setOf (b := s1) rfl 10 (.int .u32 ((c.adv + 1) % 4294967296)))
    have OA : Hid (CellsAt w8 s1 0 K) := by rw [hK, hwa]; exact ((O1.out.one (k := 9) (c' := { c with rcv := n9 }) (by decide) (.int .u32 n9) rfl).one (k := 10) (c' := { c with rcv := n9, adv := (c.adv + 1) % 4294967296 }) (by decide) (.int .u32 ((c.adv + 1) % 4294967296)) rfl).1
    have OB : Hid (OwnC w8 s2 zCt) := O2.out.but BA.out (fun e => N12.out (Eq.symm e))
    have CB := hide OB.out.1
    have FB := hide OB.out.2.1
    obtain ⟨w9, hw9⟩ : ∃ w9, w9 = w8.setCells s2 0 K := ⟨_, rfl⟩
    have C9 : Hid (CellsAt w9 s2 0 K) := by rw [hw9]; exact CB.out.stored (by rw [LK.out]; rfl)
    have B9 : Hid (Below w.heap.size w w9) := by
      have h1 := B2.out.trans (BA.out.below B2.out.size (fun g hg e => by have e : g = s1 := e; have := Z12.out.1; omega))
      rw [hw9]
      exact h1.trans ((But.cells s2 K 0 w8).below h1.size (fun g hg e => by have e : g = s2 := e; have := Z12.out.2; omega))
    have hwa' := hwa.symm
    have hw9' := hw9.symm
    have HK := hide hK
    clear hwa hw9 hK BA OB
    go_wp2_with (first | refine wpList_loadA rfl 24 11 aggCt sizCt _ rfl s1 0 rfl K LK.out OA.out ?_ | (refine wpList_storeA rfl 24 11 sizCt _ _ rfl s2 0 rfl K zCt.cells rfl LK.out rfl CB.out FB.out OK.out ?_; intro _; rw [hw9']))
    refine bodyPost_ret (v := .agg K.toArray) (results_A rfl _ _ s2 _ rfl (run_loadVarA 24 11 aggCt sizCt s2 0 _ LK.out C9.out)) rfl ?_
    exact ⟨by rw [HK.out, HR.out, ES.out, if_pos DD], B9.out⟩
  | false =>
    have DD : ¬ 0 < dif n9 c.adv := of_decide_eq_false HD.out.symm
    obtain ⟨w8, hwa⟩ : ∃ w3, w3 = (w2.setCell ⟨s1, 9, none⟩ (.int .u32 n9)) := ⟨_, rfl⟩
    obtain ⟨K, hK⟩ : ∃ K, K = ({ c with rcv := n9 } : Ct).cells := ⟨_, rfl⟩
    have LK : Hid (K.length = 11) := by rw [hK]; exact rfl
    have OK : Hid (∀ u ∈ K, u.oneCell' = true) := by rw [hK]; exact ct_one _
    have BA : Hid (But (Only s1) w2 w8) := by rw [hwa]; exact ((But.refl (Only s1) w2).setOf (b := s1) rfl 9 (.int .u32 n9))
    have OA : Hid (CellsAt w8 s1 0 K) := by rw [hK, hwa]; exact (O1.out.one (k := 9) (c' := { c with rcv := n9 }) (by decide) (.int .u32 n9) rfl).1
    have OB : Hid (OwnC w8 s2 zCt) := O2.out.but BA.out (fun e => N12.out (Eq.symm e))
    have CB := hide OB.out.1
    have FB := hide OB.out.2.1
    obtain ⟨w9, hw9⟩ : ∃ w9, w9 = w8.setCells s2 0 K := ⟨_, rfl⟩
    have C9 : Hid (CellsAt w9 s2 0 K) := by rw [hw9]; exact CB.out.stored (by rw [LK.out]; rfl)
    have B9 : Hid (Below w.heap.size w w9) := by
      have h1 := B2.out.trans (BA.out.below B2.out.size (fun g hg e => by have e : g = s1 := e; have := Z12.out.1; omega))
      rw [hw9]
      exact h1.trans ((But.cells s2 K 0 w8).below h1.size (fun g hg e => by have e : g = s2 := e; have := Z12.out.2; omega))
    have hwa' := hwa.symm
    have hw9' := hw9.symm
    have HK := hide hK
    clear hwa hw9 hK BA OB
    go_wp2_with (first | refine wpList_loadA rfl 24 11 aggCt sizCt _ rfl s1 0 rfl K LK.out OA.out ?_ | (refine wpList_storeA rfl 24 11 sizCt _ _ rfl s2 0 rfl K zCt.cells rfl LK.out rfl CB.out FB.out OK.out ?_; intro _; rw [hw9']))
    refine bodyPost_ret (v := .agg K.toArray) (results_A rfl _ _ s2 _ rfl (run_loadVarA 24 11 aggCt sizCt s2 0 _ LK.out C9.out)) rfl ?_
    exact ⟨by rw [HK.out, HR.out, ES.out, if_neg (by omega)], B9.out⟩
set_option maxHeartbeats 8000000 in
theorem rShut_any (c : Ct) (w : World) : Calls Try.prog 15 #[.agg c.cells.toArray] w fun e w' => e = .returned (.tuple #[.agg (shutC c).cells.toArray, .int .i64 (shutE c)]) ∧ Below w.heap.size w w' := by
  obtain ⟨w1, w2, s1, s2, hs1, hw1, hs2, hw2, o1, o2, n12, z1, z2, b2⟩ := boxCC w c
  rw [show (Value.agg c.cells.toArray) = .agg #[.int .i64 c.st, .int .u32 c.iss, .int .u32 c.una, .int .u32 c.nxt, .bool c.fs, .int .i64 c.wnd, .int .u32 c.wl1, .int .u32 c.wl2, .int .u32 c.irs, .int .u32 c.rcv, .int .u32 c.adv] from rfl]
  have x0 : w2.cell? ⟨s1, 0, none⟩ = some (.int .i64 c.st) := o1.1 0 _ rfl
  have f0 := o1.2.1 0
  have x3 : w2.cell? ⟨s1, 3, none⟩ = some (.int .u32 c.nxt) := o1.1 3 _ rfl
  have f3 := o1.2.1 3
  have x4 : w2.cell? ⟨s1, 4, none⟩ = some (.bool c.fs) := o1.1 4 _ rfl
  have f4 := o1.2.1 4
  have hs1' := hs1.symm
  have hw1' := hw1.symm
  have hs2' := hs2.symm
  have hw2' := hw2.symm
  have O1 := hide o1
  have O2 := hide o2
  have N12 := hide n12
  have Z12 : Hid (w.heap.size ≤ s1 ∧ w.heap.size ≤ s2) := ⟨z1, z2⟩
  have B2 := hide b2
  clear hs1 hw1 hs2 hw2 o1 o2 n12 z1 z2 b2
  obtain ⟨R, hR⟩ : ∃ R, R = shutC c := ⟨_, rfl⟩
  obtain ⟨E, hE⟩ : ∃ E, E = shutE c := ⟨_, rfl⟩
  rw [← hR, ← hE]
  have HE := hide hE
  have HR := hide hR
  obtain ⟨fs, hfs⟩ : ∃ fs, fs = c.fs := ⟨_, rfl⟩
  have HF := hide hfs
  rw [← hfs] at x4 hw1' ⊢
  clear hR hE hfs
  go_enter Try.func15, Try.ntmps15
  go_upto_region 1 with fail
  clear hs1' hw1' hs2' hw2'
  cases fs with
  | true =>
    go_upto_region 2 with fail
    have EE : E = 212 := by rw [HE.out]; unfold shutE; rw [if_neg (fun k => by have := k.1; rw [← HF.out] at this; cases this)]
    have ER : R = zCt := by rw [HR.out]; unfold shutC; rw [← HE.out, EE]; rfl
    subst EE
    obtain ⟨K, hK⟩ : ∃ K, K = zCt.cells := ⟨_, rfl⟩
    have LK : Hid (K.length = 11) := by rw [hK]; exact rfl
    have OK : Hid (∀ u ∈ K, u.oneCell' = true) := by rw [hK]; exact ct_one _
    have CB := hide O2.out.1
    have FB := hide O2.out.2.1
    obtain ⟨w9, hw9⟩ : ∃ w9, w9 = w2.setCells s2 0 K := ⟨_, rfl⟩
    have C9 : Hid (CellsAt w9 s2 0 K) := by rw [hw9]; exact CB.out.stored (by rw [LK.out]; rfl)
    have B9 : Hid (Below w.heap.size w w9) := by rw [hw9]; exact B2.out.trans ((But.cells s2 K 0 w2).below B2.out.size (fun g hg e => by have e : g = s2 := e; have := Z12.out.2; omega))
    have EK : Hid (Value.agg #[.int .i64 0, .int .u32 0, .int .u32 0, .int .u32 0, .bool false, .int .i64 0, .int .u32 0, .int .u32 0, .int .u32 0, .int .u32 0, .int .u32 0] = .agg K.toArray) := by rw [hK]; exact rfl
    have hw9' := hw9.symm
    have HK := hide hK
    clear hw9 hK
    go_wp2_with (refine wpList_storeA rfl 24 11 sizCt _ _ rfl s2 0 rfl K zCt.cells EK.out LK.out rfl CB.out FB.out OK.out ?_; intro _; rw [hw9'])
    refine bodyPost_ret (v := .tuple #[.agg K.toArray, .int .i64 212]) (results_2 rfl _ _ s2 _ _ rfl rfl (run_loadVarA 24 11 aggCt sizCt s2 0 _ LK.out C9.out)) rfl ?_
    exact ⟨by rw [HK.out, ER], B9.out⟩
  | false =>
    by_cases h2 : c.st = 2
    · go_upto_region 3 with fail
      have EE : E = 0 := by rw [HE.out]; unfold shutE; rw [if_pos ⟨HF.out.symm, .inl h2⟩]
      have ER : R = { c with st := 4, fs := true, nxt := (c.nxt + 1) % 4294967296 } := by rw [HR.out]; unfold shutC; rw [← HE.out, EE, if_pos rfl, if_neg (by omega)]
      subst EE
      have HER := hide ER
      clear ER
      obtain ⟨w8, hwa⟩ : ∃ w3, w3 = (((w2.setCell ⟨s1, 4, none⟩ (.bool true)).setCell ⟨s1, 3, none⟩ (.int .u32 ((c.nxt + 1) % 4294967296))).setCell ⟨s1, 0, none⟩ (.int .i64 4)) := ⟨_, rfl⟩
      obtain ⟨K, hK⟩ : ∃ K, K = ({ c with st := 4, fs := true, nxt := (c.nxt + 1) % 4294967296 } : Ct).cells := ⟨_, rfl⟩
      have LK : Hid (K.length = 11) := by rw [hK]; exact rfl
      have OK : Hid (∀ u ∈ K, u.oneCell' = true) := by rw [hK]; exact ct_one _
      have BA : Hid (But (Only s1) w2 w8) := by rw [hwa]; exact ((((But.refl (Only s1) w2).setOf (b := s1) rfl 4 (.bool true)).setOf (b := s1) rfl 3 (.int .u32 ((c.nxt + 1) % 4294967296))).setOf (b := s1) rfl 0 (.int .i64 4))
      have OA : Hid (CellsAt w8 s1 0 K) := by rw [hK, hwa]; exact (((O1.out.one (k := 4) (c' := { c with fs := true }) (by decide) (.bool true) rfl).one (k := 3) (c' := { c with fs := true, nxt := (c.nxt + 1) % 4294967296 }) (by decide) (.int .u32 ((c.nxt + 1) % 4294967296)) rfl).one (k := 0) (c' := { c with st := 4, fs := true, nxt := (c.nxt + 1) % 4294967296 }) (by decide) (.int .i64 4) rfl).1
      have OB : Hid (OwnC w8 s2 zCt) := O2.out.but BA.out (fun e => N12.out (Eq.symm e))
      have CB := hide OB.out.1
      have FB := hide OB.out.2.1
      obtain ⟨w9, hw9⟩ : ∃ w9, w9 = w8.setCells s2 0 K := ⟨_, rfl⟩
      have C9 : Hid (CellsAt w9 s2 0 K) := by rw [hw9]; exact CB.out.stored (by rw [LK.out]; rfl)
      have B9 : Hid (Below w.heap.size w w9) := by
        have h1 := B2.out.trans (BA.out.below B2.out.size (fun g hg e => by have e : g = s1 := e; have := Z12.out.1; omega))
        rw [hw9]
        exact h1.trans ((But.cells s2 K 0 w8).below h1.size (fun g hg e => by have e : g = s2 := e; have := Z12.out.2; omega))
      have hwa' := hwa.symm
      have hw9' := hw9.symm
      have HK := hide hK
      clear hwa hw9 hK BA OB
      go_wp2_with (first | refine wpList_loadA rfl 24 11 aggCt sizCt _ rfl s1 0 rfl K LK.out OA.out ?_ | (refine wpList_storeA rfl 24 11 sizCt _ _ rfl s2 0 rfl K zCt.cells rfl LK.out rfl CB.out FB.out OK.out ?_; intro _; rw [hw9']))
      refine bodyPost_ret (v := .tuple #[.agg K.toArray, .int .i64 0]) (results_2 rfl _ _ s2 _ _ rfl rfl (run_loadVarA 24 11 aggCt sizCt s2 0 _ LK.out C9.out)) rfl ?_
      exact ⟨by rw [HK.out, HER.out], B9.out⟩
    by_cases h3 : c.st = 3
    · go_upto_region 3 with fail
      have EE : E = 0 := by rw [HE.out]; unfold shutE; rw [if_pos ⟨HF.out.symm, .inr (.inl h3)⟩]
      have ER : R = { c with st := 4, fs := true, nxt := (c.nxt + 1) % 4294967296 } := by rw [HR.out]; unfold shutC; rw [← HE.out, EE, if_pos rfl, if_neg (by omega)]
      subst EE
      have HER := hide ER
      clear ER
      obtain ⟨w8, hwa⟩ : ∃ w3, w3 = (((w2.setCell ⟨s1, 4, none⟩ (.bool true)).setCell ⟨s1, 3, none⟩ (.int .u32 ((c.nxt + 1) % 4294967296))).setCell ⟨s1, 0, none⟩ (.int .i64 4)) := ⟨_, rfl⟩
      obtain ⟨K, hK⟩ : ∃ K, K = ({ c with st := 4, fs := true, nxt := (c.nxt + 1) % 4294967296 } : Ct).cells := ⟨_, rfl⟩
      have LK : Hid (K.length = 11) := by rw [hK]; exact rfl
      have OK : Hid (∀ u ∈ K, u.oneCell' = true) := by rw [hK]; exact ct_one _
      have BA : Hid (But (Only s1) w2 w8) := by rw [hwa]; exact ((((But.refl (Only s1) w2).setOf (b := s1) rfl 4 (.bool true)).setOf (b := s1) rfl 3 (.int .u32 ((c.nxt + 1) % 4294967296))).setOf (b := s1) rfl 0 (.int .i64 4))
      have OA : Hid (CellsAt w8 s1 0 K) := by rw [hK, hwa]; exact (((O1.out.one (k := 4) (c' := { c with fs := true }) (by decide) (.bool true) rfl).one (k := 3) (c' := { c with fs := true, nxt := (c.nxt + 1) % 4294967296 }) (by decide) (.int .u32 ((c.nxt + 1) % 4294967296)) rfl).one (k := 0) (c' := { c with st := 4, fs := true, nxt := (c.nxt + 1) % 4294967296 }) (by decide) (.int .i64 4) rfl).1
      have OB : Hid (OwnC w8 s2 zCt) := O2.out.but BA.out (fun e => N12.out (Eq.symm e))
      have CB := hide OB.out.1
      have FB := hide OB.out.2.1
      obtain ⟨w9, hw9⟩ : ∃ w9, w9 = w8.setCells s2 0 K := ⟨_, rfl⟩
      have C9 : Hid (CellsAt w9 s2 0 K) := by rw [hw9]; exact CB.out.stored (by rw [LK.out]; rfl)
      have B9 : Hid (Below w.heap.size w w9) := by
        have h1 := B2.out.trans (BA.out.below B2.out.size (fun g hg e => by have e : g = s1 := e; have := Z12.out.1; omega))
        rw [hw9]
        exact h1.trans ((But.cells s2 K 0 w8).below h1.size (fun g hg e => by have e : g = s2 := e; have := Z12.out.2; omega))
      have hwa' := hwa.symm
      have hw9' := hw9.symm
      have HK := hide hK
      clear hwa hw9 hK BA OB
      go_wp2_with (first | refine wpList_loadA rfl 24 11 aggCt sizCt _ rfl s1 0 rfl K LK.out OA.out ?_ | (refine wpList_storeA rfl 24 11 sizCt _ _ rfl s2 0 rfl K zCt.cells rfl LK.out rfl CB.out FB.out OK.out ?_; intro _; rw [hw9']))
      refine bodyPost_ret (v := .tuple #[.agg K.toArray, .int .i64 0]) (results_2 rfl _ _ s2 _ _ rfl rfl (run_loadVarA 24 11 aggCt sizCt s2 0 _ LK.out C9.out)) rfl ?_
      exact ⟨by rw [HK.out, HER.out], B9.out⟩
    by_cases h6 : c.st = 6
    · go_upto_region 3 with fail
      have EE : E = 0 := by rw [HE.out]; unfold shutE; rw [if_pos ⟨HF.out.symm, .inr (.inr h6)⟩]
      have ER : R = { c with st := 8, fs := true, nxt := (c.nxt + 1) % 4294967296 } := by rw [HR.out]; unfold shutC; rw [← HE.out, EE, if_pos rfl, if_pos h6]
      subst EE
      have HER := hide ER
      clear ER
      obtain ⟨w8, hwa⟩ : ∃ w3, w3 = (((w2.setCell ⟨s1, 4, none⟩ (.bool true)).setCell ⟨s1, 3, none⟩ (.int .u32 ((c.nxt + 1) % 4294967296))).setCell ⟨s1, 0, none⟩ (.int .i64 8)) := ⟨_, rfl⟩
      obtain ⟨K, hK⟩ : ∃ K, K = ({ c with st := 8, fs := true, nxt := (c.nxt + 1) % 4294967296 } : Ct).cells := ⟨_, rfl⟩
      have LK : Hid (K.length = 11) := by rw [hK]; exact rfl
      have OK : Hid (∀ u ∈ K, u.oneCell' = true) := by rw [hK]; exact ct_one _
      have BA : Hid (But (Only s1) w2 w8) := by rw [hwa]; exact ((((But.refl (Only s1) w2).setOf (b := s1) rfl 4 (.bool true)).setOf (b := s1) rfl 3 (.int .u32 ((c.nxt + 1) % 4294967296))).setOf (b := s1) rfl 0 (.int .i64 8))
      have OA : Hid (CellsAt w8 s1 0 K) := by rw [hK, hwa]; exact (((O1.out.one (k := 4) (c' := { c with fs := true }) (by decide) (.bool true) rfl).one (k := 3) (c' := { c with fs := true, nxt := (c.nxt + 1) % 4294967296 }) (by decide) (.int .u32 ((c.nxt + 1) % 4294967296)) rfl).one (k := 0) (c' := { c with st := 8, fs := true, nxt := (c.nxt + 1) % 4294967296 }) (by decide) (.int .i64 8) rfl).1
      have OB : Hid (OwnC w8 s2 zCt) := O2.out.but BA.out (fun e => N12.out (Eq.symm e))
      have CB := hide OB.out.1
      have FB := hide OB.out.2.1
      obtain ⟨w9, hw9⟩ : ∃ w9, w9 = w8.setCells s2 0 K := ⟨_, rfl⟩
      have C9 : Hid (CellsAt w9 s2 0 K) := by rw [hw9]; exact CB.out.stored (by rw [LK.out]; rfl)
      have B9 : Hid (Below w.heap.size w w9) := by
        have h1 := B2.out.trans (BA.out.below B2.out.size (fun g hg e => by have e : g = s1 := e; have := Z12.out.1; omega))
        rw [hw9]
        exact h1.trans ((But.cells s2 K 0 w8).below h1.size (fun g hg e => by have e : g = s2 := e; have := Z12.out.2; omega))
      have hwa' := hwa.symm
      have hw9' := hw9.symm
      have HK := hide hK
      clear hwa hw9 hK BA OB
      go_wp2_with (first | refine wpList_loadA rfl 24 11 aggCt sizCt _ rfl s1 0 rfl K LK.out OA.out ?_ | (refine wpList_storeA rfl 24 11 sizCt _ _ rfl s2 0 rfl K zCt.cells rfl LK.out rfl CB.out FB.out OK.out ?_; intro _; rw [hw9']))
      refine bodyPost_ret (v := .tuple #[.agg K.toArray, .int .i64 0]) (results_2 rfl _ _ s2 _ _ rfl rfl (run_loadVarA 24 11 aggCt sizCt s2 0 _ LK.out C9.out)) rfl ?_
      exact ⟨by rw [HK.out, HER.out], B9.out⟩
    have q2 : (c.st != 2) = true := by simpa using h2
    have q3 : (c.st != 3) = true := by simpa using h3
    have q6 : (c.st != 6) = true := by simpa using h6
    go_upto_region 2 with fail
    have EE : E = 212 := by rw [HE.out]; unfold shutE; rw [if_neg (fun k => k.2.elim h2 (fun k => k.elim h3 h6))]
    have ER : R = zCt := by rw [HR.out]; unfold shutC; rw [← HE.out, EE]; rfl
    subst EE
    obtain ⟨K, hK⟩ : ∃ K, K = zCt.cells := ⟨_, rfl⟩
    have LK : Hid (K.length = 11) := by rw [hK]; exact rfl
    have OK : Hid (∀ u ∈ K, u.oneCell' = true) := by rw [hK]; exact ct_one _
    have CB := hide O2.out.1
    have FB := hide O2.out.2.1
    obtain ⟨w9, hw9⟩ : ∃ w9, w9 = w2.setCells s2 0 K := ⟨_, rfl⟩
    have C9 : Hid (CellsAt w9 s2 0 K) := by rw [hw9]; exact CB.out.stored (by rw [LK.out]; rfl)
    have B9 : Hid (Below w.heap.size w w9) := by rw [hw9]; exact B2.out.trans ((But.cells s2 K 0 w2).below B2.out.size (fun g hg e => by have e : g = s2 := e; have := Z12.out.2; omega))
    have EK : Hid (Value.agg #[.int .i64 0, .int .u32 0, .int .u32 0, .int .u32 0, .bool false, .int .i64 0, .int .u32 0, .int .u32 0, .int .u32 0, .int .u32 0, .int .u32 0] = .agg K.toArray) := by rw [hK]; exact rfl
    have hw9' := hw9.symm
    have HK := hide hK
    clear hw9 hK
    go_wp2_with (refine wpList_storeA rfl 24 11 sizCt _ _ rfl s2 0 rfl K zCt.cells EK.out LK.out rfl CB.out FB.out OK.out ?_; intro _; rw [hw9'])
    refine bodyPost_ret (v := .tuple #[.agg K.toArray, .int .i64 212]) (results_2 rfl _ _ s2 _ _ rfl rfl (run_loadVarA 24 11 aggCt sizCt s2 0 _ LK.out C9.out)) rfl ?_
    exact ⟨by rw [HK.out, ER], B9.out⟩
theorem rhasZ {s : Sg} {gv dv : Value} {Z : List Value} (hZ : Z = s.cells gv dv) (m : Int) (hm : m = 1 ∨ m = 2 ∨ m = 4 ∨ m = 8 ∨ m = 16) (W : World) : Calls Try.prog 27 #[.agg Z.toArray, .int .i64 m] W fun e w' => e = .returned (.bool (hasB s.flg m)) ∧ Below W.heap.size W w' := by
  rw [hZ]
  exact rHas15_any s gv dv m hm W
set_option maxHeartbeats 8000000 in
theorem rPassive_any (s : Sg) (gv dv : Value) (now : Int) (w : World) : Calls Try.prog 13 #[.agg (s.cells gv dv).toArray, .int .i64 now] w fun e w' => e = .returned (.tuple #[.agg (pasC s now).cells.toArray, .int .i64 (pasE s)]) ∧ Below w.heap.size w w' := by
  obtain ⟨w1, s1, hs1, hw1, c1, f1, b1, l1⟩ := boxS w s gv dv
  obtain ⟨w2, s2, hs2, hw2, c2, f2, b2, l2⟩ := boxC w1 zCt
  obtain ⟨Z, hZ⟩ : ∃ Z, Z = s.cells gv dv := ⟨_, rfl⟩
  have LZ : Hid (Z.length = 10) := by rw [hZ]; exact rfl
  have CS : Hid (CellsAt w2 s1 0 Z) := by rw [hZ]; exact c1.later l1 b2
  have ZV := hide hZ
  have O2 : Hid (OwnC w2 s2 zCt) := ⟨c2, f2, l2⟩
  have L12 : Hid (s1 < w2.heap.size) := Nat.lt_of_lt_of_le l1 b2.size
  have Z2 : Hid (w.heap.size ≤ s2) := by have := b1.size; unfold Hid; omega
  have B2 := hide (later b1 b2)
  obtain ⟨C, hC⟩ : ∃ C, C = pasC s now := ⟨_, rfl⟩
  obtain ⟨E, hE⟩ : ∃ E, E = pasE s := ⟨_, rfl⟩
  rw [← hC, ← hE]
  have HC := hide hC
  have HE := hide hE
  obtain ⟨h2, e2⟩ : ∃ h, h = hasB s.flg 2 := ⟨_, rfl⟩
  have H2 : Hid (∀ W, Calls Try.prog 27 #[.agg Z.toArray, .int .i64 2] W fun e w' => e = .returned (.bool h2) ∧ Below W.heap.size W w') := fun W => by rw [e2]; exact rhasZ hZ 2 (by decide) W
  obtain ⟨h16, e16⟩ : ∃ h, h = hasB s.flg 16 := ⟨_, rfl⟩
  have H16 : Hid (∀ W, Calls Try.prog 27 #[.agg Z.toArray, .int .i64 16] W fun e w' => e = .returned (.bool h16) ∧ Below W.heap.size W w') := fun W => by rw [e16]; exact rhasZ hZ 16 (by decide) W
  obtain ⟨h4, e4⟩ : ∃ h, h = hasB s.flg 4 := ⟨_, rfl⟩
  have H4 : Hid (∀ W, Calls Try.prog 27 #[.agg Z.toArray, .int .i64 4] W fun e w' => e = .returned (.bool h4) ∧ Below W.heap.size W w') := fun W => by rw [e4]; exact rhasZ hZ 4 (by decide) W
  obtain ⟨h1, e1⟩ : ∃ h, h = hasB s.flg 1 := ⟨_, rfl⟩
  have H1 : Hid (∀ W, Calls Try.prog 27 #[.agg Z.toArray, .int .i64 1] W fun e w' => e = .returned (.bool h1) ∧ Below W.heap.size W w') := fun W => by rw [e1]; exact rhasZ hZ 1 (by decide) W
  have PB : Hid (pasB s = (h2 && (!h16 && (!h4 && !h1)))) := by rw [e2, e16, e4, e1]; exact rfl
  rw [show (Value.agg (s.cells gv dv).toArray) = .agg #[.int .i64 s.src, .int .i64 s.dst, .int .u32 s.seq, .int .u32 s.ack, .int .i64 s.flg, .int .i64 s.wnd, .int .i64 s.mss, .bool s.sak, gv, dv] from rfl]
  have hs1' := hs1.symm
  have hw1' := hw1.symm
  have hs2' := hs2.symm
  have hw2' := hw2.symm
  simp only [zCt] at hw2'
  clear hs1 hw1 hs2 hw2 c1 f1 b1 l1 c2 f2 b2 l2 hZ hC hE e2 e16 e4 e1
  go_enter Try.func13, Try.ntmps13
  go_upto_region 1 with fail
  clear hs1' hw1' hs2' hw2'
  go_wp2_with (refine wpList_loadA rfl 28 10 aggSg sizSg _ rfl s1 0 rfl Z LZ.out CS.out ?_)
  refine (H2.out w2).mono ?_
  rintro _ w3 ⟨rfl, bz⟩
  replace CS := hide (CS.out.later L12.out bz)
  replace O2 := hide (O2.out.later bz)
  replace B2 := hide (later B2.out bz)
  replace L12 : Hid (s1 < w3.heap.size) := Nat.lt_of_lt_of_le L12.out bz.size
  clear bz H2
  go_wp2_with (refine wpList_loadA rfl 28 10 aggSg sizSg _ rfl s1 0 rfl Z LZ.out CS.out ?_)
  refine (H16.out w3).mono ?_
  rintro _ w4 ⟨rfl, bz⟩
  replace CS := hide (CS.out.later L12.out bz)
  replace O2 := hide (O2.out.later bz)
  replace B2 := hide (later B2.out bz)
  replace L12 : Hid (s1 < w4.heap.size) := Nat.lt_of_lt_of_le L12.out bz.size
  clear bz H16
  go_wp2_with (refine wpList_loadA rfl 28 10 aggSg sizSg _ rfl s1 0 rfl Z LZ.out CS.out ?_)
  refine (H4.out w4).mono ?_
  rintro _ w5 ⟨rfl, bz⟩
  replace CS := hide (CS.out.later L12.out bz)
  replace O2 := hide (O2.out.later bz)
  replace B2 := hide (later B2.out bz)
  replace L12 : Hid (s1 < w5.heap.size) := Nat.lt_of_lt_of_le L12.out bz.size
  clear bz H4
  go_wp2_with (refine wpList_loadA rfl 28 10 aggSg sizSg _ rfl s1 0 rfl Z LZ.out CS.out ?_)
  refine (H1.out w5).mono ?_
  rintro _ w6 ⟨rfl, bz⟩
  replace CS := hide (CS.out.later L12.out bz)
  replace O2 := hide (O2.out.later bz)
  replace B2 := hide (later B2.out bz)
  replace L12 : Hid (s1 < w6.heap.size) := Nat.lt_of_lt_of_le L12.out bz.size
  clear bz H1
  cases h2 with
  | false =>
    go_upto_region 6 with fail
    have EE : E = 1 := by rw [HE.out]; unfold pasE; rw [if_neg (by rw [PB.out]; simp)]
    have ER : C = zCt := by rw [HC.out]; unfold pasC; rw [if_neg (by rw [PB.out]; simp)]
    subst EE
    have HER := hide ER
    clear ER
    obtain ⟨K, hK⟩ : ∃ K, K = zCt.cells := ⟨_, rfl⟩
    have LK : Hid (K.length = 11) := by rw [hK]; exact rfl
    have OK : Hid (∀ u ∈ K, u.oneCell' = true) := by rw [hK]; exact ct_one _
    have CB := hide O2.out.1
    have FB := hide O2.out.2.1
    obtain ⟨w9, hw9⟩ : ∃ w9, w9 = w6.setCells s2 0 K := ⟨_, rfl⟩
    have C9 : Hid (CellsAt w9 s2 0 K) := by rw [hw9]; exact CB.out.stored (by rw [LK.out]; rfl)
    have B9 : Hid (Below w.heap.size w w9) := by rw [hw9]; exact B2.out.trans ((But.cells s2 K 0 w6).below B2.out.size (fun g hg e => by have e : g = s2 := e; have := Z2.out; omega))
    have EK : Hid (Value.agg #[.int .i64 0, .int .u32 0, .int .u32 0, .int .u32 0, .bool false, .int .i64 0, .int .u32 0, .int .u32 0, .int .u32 0, .int .u32 0, .int .u32 0] = .agg K.toArray) := by rw [hK]; exact rfl
    have hw9' := hw9.symm
    have HK := hide hK
    clear hw9 hK
    go_wp2_with (refine wpList_storeA rfl 24 11 sizCt _ _ rfl s2 0 rfl K zCt.cells EK.out LK.out rfl CB.out FB.out OK.out ?_; intro _; rw [hw9'])
    refine bodyPost_ret (v := .tuple #[.agg K.toArray, .int .i64 1]) (results_2 rfl _ _ s2 _ _ rfl rfl (run_loadVarA 24 11 aggCt sizCt s2 0 _ LK.out C9.out)) rfl ?_
    exact ⟨by rw [HK.out, HER.out], B9.out⟩
  | true =>
    cases h16 with
    | true =>
      go_upto_region 6 with fail
      have EE : E = 1 := by rw [HE.out]; unfold pasE; rw [if_neg (by rw [PB.out]; simp)]
      have ER : C = zCt := by rw [HC.out]; unfold pasC; rw [if_neg (by rw [PB.out]; simp)]
      subst EE
      have HER := hide ER
      clear ER
      obtain ⟨K, hK⟩ : ∃ K, K = zCt.cells := ⟨_, rfl⟩
      have LK : Hid (K.length = 11) := by rw [hK]; exact rfl
      have OK : Hid (∀ u ∈ K, u.oneCell' = true) := by rw [hK]; exact ct_one _
      have CB := hide O2.out.1
      have FB := hide O2.out.2.1
      obtain ⟨w9, hw9⟩ : ∃ w9, w9 = w6.setCells s2 0 K := ⟨_, rfl⟩
      have C9 : Hid (CellsAt w9 s2 0 K) := by rw [hw9]; exact CB.out.stored (by rw [LK.out]; rfl)
      have B9 : Hid (Below w.heap.size w w9) := by rw [hw9]; exact B2.out.trans ((But.cells s2 K 0 w6).below B2.out.size (fun g hg e => by have e : g = s2 := e; have := Z2.out; omega))
      have EK : Hid (Value.agg #[.int .i64 0, .int .u32 0, .int .u32 0, .int .u32 0, .bool false, .int .i64 0, .int .u32 0, .int .u32 0, .int .u32 0, .int .u32 0, .int .u32 0] = .agg K.toArray) := by rw [hK]; exact rfl
      have hw9' := hw9.symm
      have HK := hide hK
      clear hw9 hK
      go_wp2_with (refine wpList_storeA rfl 24 11 sizCt _ _ rfl s2 0 rfl K zCt.cells EK.out LK.out rfl CB.out FB.out OK.out ?_; intro _; rw [hw9'])
      refine bodyPost_ret (v := .tuple #[.agg K.toArray, .int .i64 1]) (results_2 rfl _ _ s2 _ _ rfl rfl (run_loadVarA 24 11 aggCt sizCt s2 0 _ LK.out C9.out)) rfl ?_
      exact ⟨by rw [HK.out, HER.out], B9.out⟩
    | false =>
      cases h4 with
      | true =>
        go_upto_region 6 with fail
        have EE : E = 1 := by rw [HE.out]; unfold pasE; rw [if_neg (by rw [PB.out]; simp)]
        have ER : C = zCt := by rw [HC.out]; unfold pasC; rw [if_neg (by rw [PB.out]; simp)]
        subst EE
        have HER := hide ER
        clear ER
        obtain ⟨K, hK⟩ : ∃ K, K = zCt.cells := ⟨_, rfl⟩
        have LK : Hid (K.length = 11) := by rw [hK]; exact rfl
        have OK : Hid (∀ u ∈ K, u.oneCell' = true) := by rw [hK]; exact ct_one _
        have CB := hide O2.out.1
        have FB := hide O2.out.2.1
        obtain ⟨w9, hw9⟩ : ∃ w9, w9 = w6.setCells s2 0 K := ⟨_, rfl⟩
        have C9 : Hid (CellsAt w9 s2 0 K) := by rw [hw9]; exact CB.out.stored (by rw [LK.out]; rfl)
        have B9 : Hid (Below w.heap.size w w9) := by rw [hw9]; exact B2.out.trans ((But.cells s2 K 0 w6).below B2.out.size (fun g hg e => by have e : g = s2 := e; have := Z2.out; omega))
        have EK : Hid (Value.agg #[.int .i64 0, .int .u32 0, .int .u32 0, .int .u32 0, .bool false, .int .i64 0, .int .u32 0, .int .u32 0, .int .u32 0, .int .u32 0, .int .u32 0] = .agg K.toArray) := by rw [hK]; exact rfl
        have hw9' := hw9.symm
        have HK := hide hK
        clear hw9 hK
        go_wp2_with (refine wpList_storeA rfl 24 11 sizCt _ _ rfl s2 0 rfl K zCt.cells EK.out LK.out rfl CB.out FB.out OK.out ?_; intro _; rw [hw9'])
        refine bodyPost_ret (v := .tuple #[.agg K.toArray, .int .i64 1]) (results_2 rfl _ _ s2 _ _ rfl rfl (run_loadVarA 24 11 aggCt sizCt s2 0 _ LK.out C9.out)) rfl ?_
        exact ⟨by rw [HK.out, HER.out], B9.out⟩
      | false =>
        cases h1 with
        | true =>
          go_upto_region 6 with fail
          have EE : E = 1 := by rw [HE.out]; unfold pasE; rw [if_neg (by rw [PB.out]; simp)]
          have ER : C = zCt := by rw [HC.out]; unfold pasC; rw [if_neg (by rw [PB.out]; simp)]
          subst EE
          have HER := hide ER
          clear ER
          obtain ⟨K, hK⟩ : ∃ K, K = zCt.cells := ⟨_, rfl⟩
          have LK : Hid (K.length = 11) := by rw [hK]; exact rfl
          have OK : Hid (∀ u ∈ K, u.oneCell' = true) := by rw [hK]; exact ct_one _
          have CB := hide O2.out.1
          have FB := hide O2.out.2.1
          obtain ⟨w9, hw9⟩ : ∃ w9, w9 = w6.setCells s2 0 K := ⟨_, rfl⟩
          have C9 : Hid (CellsAt w9 s2 0 K) := by rw [hw9]; exact CB.out.stored (by rw [LK.out]; rfl)
          have B9 : Hid (Below w.heap.size w w9) := by rw [hw9]; exact B2.out.trans ((But.cells s2 K 0 w6).below B2.out.size (fun g hg e => by have e : g = s2 := e; have := Z2.out; omega))
          have EK : Hid (Value.agg #[.int .i64 0, .int .u32 0, .int .u32 0, .int .u32 0, .bool false, .int .i64 0, .int .u32 0, .int .u32 0, .int .u32 0, .int .u32 0, .int .u32 0] = .agg K.toArray) := by rw [hK]; exact rfl
          have hw9' := hw9.symm
          have HK := hide hK
          clear hw9 hK
          go_wp2_with (refine wpList_storeA rfl 24 11 sizCt _ _ rfl s2 0 rfl K zCt.cells EK.out LK.out rfl CB.out FB.out OK.out ?_; intro _; rw [hw9'])
          refine bodyPost_ret (v := .tuple #[.agg K.toArray, .int .i64 1]) (results_2 rfl _ _ s2 _ _ rfl rfl (run_loadVarA 24 11 aggCt sizCt s2 0 _ LK.out C9.out)) rfl ?_
          exact ⟨by rw [HK.out, HER.out], B9.out⟩
        | false =>
          have EE : E = 0 := by rw [HE.out]; unfold pasE; rw [if_pos (by rw [PB.out]; rfl)]
          have ER : C = { synC (begC 2 (fst32 now)) s with wl2 := fst32 now } := by rw [HC.out]; unfold pasC; rw [if_pos (by rw [PB.out]; rfl)]
          subst EE
          have HER := hide ER
          clear ER
          have D := rFirst_any now w6
          obtain ⟨f, hf⟩ : ∃ f, f = fst32 now := ⟨_, rfl⟩
          rw [← hf] at D HER
          have HD := hide D
          obtain ⟨K, hK⟩ : ∃ K, K = ({ synC (begC 2 f) s with wl2 := f } : Ct).cells := ⟨_, rfl⟩
          have LK : Hid (K.length = 11) := by rw [hK]; exact rfl
          have OK : Hid (∀ u ∈ K, u.oneCell' = true) := by rw [hK]; exact ct_one _
          have EK : Hid (Value.agg #[.int .i64 2, .int .u32 f, .int .u32 f, .int .u32 ((f + 1) % 4294967296), .bool false, .int .i64 s.wnd, .int .u32 s.seq, .int .u32 f, .int .u32 s.seq, .int .u32 ((s.seq + 1) % 4294967296), .int .u32 ((s.seq + 1) % 4294967296)] = .agg K.toArray) := by rw [hK]; exact rfl
          have cs := CS.out
          rw [ZV.out] at cs
          have x2 : w6.cell? ⟨s1, 2, none⟩ = some (.int .u32 s.seq) := cs 2 _ rfl
          have x5 : w6.cell? ⟨s1, 5, none⟩ = some (.int .i64 s.wnd) := cs 5 _ rfl
          have CB := hide O2.out.1
          have FB := hide O2.out.2.1
          obtain ⟨w9, hw9⟩ : ∃ w9, w9 = w6.setCells s2 0 K := ⟨_, rfl⟩
          have C9 : Hid (CellsAt w9 s2 0 K) := by rw [hw9]; exact CB.out.stored (by rw [LK.out]; rfl)
          have B9 : Hid (Below w.heap.size w w9) := by rw [hw9]; exact B2.out.trans ((But.cells s2 K 0 w6).below B2.out.size (fun g hg e => by have e : g = s2 := e; have := Z2.out; omega))
          have hw9' := hw9.symm
          have HK := hide hK
          clear hw9 hK hf D cs
          go_wp2_with fail
          refine HD.out.mono ?_
          rintro _ wx ⟨rfl, hwx⟩
          subst hwx
          clear HD
          go_wp2_with (refine wpList_storeA rfl 24 11 sizCt _ _ rfl s2 0 rfl K zCt.cells EK.out LK.out rfl CB.out FB.out OK.out ?_; intro _; rw [hw9'])
          refine bodyPost_ret (v := .tuple #[.agg K.toArray, .int .i64 0]) (results_2 rfl _ _ s2 _ _ rfl rfl (run_loadVarA 24 11 aggCt sizCt s2 0 _ LK.out C9.out)) rfl ?_
          exact ⟨by rw [HK.out, HER.out], B9.out⟩
end Go.Proofs.Ytgdcdgofahhfdaa
