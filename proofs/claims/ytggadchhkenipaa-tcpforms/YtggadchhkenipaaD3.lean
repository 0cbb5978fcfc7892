
/-
  Package tcp: optionsOf.
-/
import Derived.Test.YtggadchhkenipaaD2
namespace Go.Proofs.Ytggadchhkenipaa
open Go.RowKit Go.Shelf

set_option maxRecDepth 100000 in
set_option maxHeartbeats 8000000 in
theorem optionsOf_any {P : Nat → Prop} (s : Sg) (gv dv : Value) (w : World) (ok : s.Ok) (h3 : s.got.length ≤ 3) (hg : CG P w gv s.got) : Calls Try.prog 28 #[.agg (s.cells gv dv).toArray] w fun e w' => ∃ v, e = .returned v ∧ Gro w.heap.size w' v (otB s) ∧ Below w.heap.size w w' := by
  obtain ⟨w1, b, hs, hw, c1, f1, b1, l1⟩ := boxS w s gv dv
  have hg1 := hg.later b1
  obtain ⟨ga, gc, rfl⟩ := hg.shape
  obtain ⟨n, hn⟩ : ∃ n, n = s.got.length := ⟨_, rfl⟩
  have HN := hide hn
  obtain ⟨O1, hO1⟩ : ∃ O, O = oM s := ⟨_, rfl⟩
  obtain ⟨O2, hO2⟩ : ∃ O, O = oS s := ⟨_, rfl⟩
  obtain ⟨O3, hO3⟩ : ∃ O, O = oG s := ⟨_, rfl⟩
  have E1 : Hid (O1 = if s.mss = 0 then [] else [2, 4] ++ put16 s.mss) := by rw [hO1]; exact rfl
  have E2 : Hid (O2 = if s.sak = true then O1 ++ [4, 2] else O1) := by rw [hO2, hO1]; exact rfl
  have E3 : Hid (O3 = if n = 0 then O2 else O2 ++ [5, ((2 + 8 * n : Nat) : Int)]) := by rw [hO3, hO2, hn]; exact rfl
  have L1 : Hid (O1.length ≤ 4) := by rw [hO1]; exact oM_len s
  have L2 : Hid (O2.length ≤ 6) := by rw [hO2]; exact oS_len s
  have L3 : Hid (O3.length ≤ 8) := by rw [hO3]; exact oG_len s
  have E0 : Hid (O3 = oL s 0) := by rw [hO3]; unfold oL; simp [Hid]
  have C1 : Hid (CellsAt w1 b 0 (s.cells (.slice ga s.got.length gc) dv)) := c1
  have G1 := hide hg1
  have OK := hide ok
  have B1 : Hid (Below w.heap.size w w1) := b1
  have k6 : w1.cell? ⟨b, 6, none⟩ = some (.int .i64 s.mss) := c1 6 _ rfl
  rw [← hn] at h3 C1 G1 hw ⊢
  rw [show (Value.agg (s.cells (.slice ga n gc) dv).toArray) = .agg #[.int .i64 s.src, .int .i64 s.dst, .int .u32 s.seq, .int .u32 s.ack, .int .i64 s.flg, .int .i64 s.wnd, .int .i64 s.mss, .bool s.sak, .slice ga n gc, dv] from rfl]
  have CW : Hid (∀ W, Below w1.heap.size w1 W → CellsAt W b 0 (s.cells (.slice ga n gc) dv)) := fun W hW => C1.out.later l1 hW
  have hs' := hs.symm
  have hw' := hw.symm
  clear hs hw c1 f1 b1 hg1 hg hn ok hO1 hO2 hO3 C1
  obtain ⟨ms, hms⟩ : ∃ ms, ms = s.mss := ⟨_, rfl⟩
  rw [← hms] at k6 E1
  have HMS := hide hms
  clear hms
  go_enter Try.func28, Try.ntmps28
  go_upto_if 8 with fail
  clear hs' hw'
  go_cut [3] (fun v wc => ∃ a c, v = .slice a O1.length c ∧ Hid (Gro w1.heap.size wc (.slice a O1.length c) O1) ∧ Hid (Below w1.heap.size w1 wc))
  case first =>
    by_cases e0 : ms = 0
    · have z0 : (ms != 0) = false := by rw [e0]; rfl
      have EO : O1 = [] := by rw [E1.out, if_pos e0]
      clear e0 E2
      subst EO
      go_wp2
      go_meet
      exact ⟨_, _, rfl, Gro.nil _ _, Below.refl _ _⟩
    · have z0 : (ms != 0) = true := by simpa using e0
      have EO : Hid (O1 = [2, 4] ++ put16 ms) := by unfold Hid; rw [E1.out, if_neg e0]
      clear e0
      go_upto_region 3 with fail
      clear k6
      refine region_grow (w := w1) (fun i v W => match i with | 0 => v = .slice none 0 0 | 1 => IsB W.heap.size W v [2, 4] | 2 => IsB W.heap.size W v [2, 4] | 3 => v = .pointer (some ⟨b, 6, none⟩) | 4 => v = .int .i64 ms | 5 => Gro w1.heap.size W v ([2, 4] ++ put16 ms) | 6 => Gro w1.heap.size W v ([2, 4] ++ put16 ms) | _ => True) (by kernel_rfl) (by kernel_rfl) (by kernel_rfl) (no_guard (by kernel_rfl)) (fun i v W W' h hb => match i, h with | 0, h => h | 1, h => IsB.later h hb | 2, h => IsB.later h hb | 3, h => h | 4, h => h | 5, h => Gro.later h hb | 6, h => Gro.later h hb | _ + 7, h => h) ?_ ?_
      · intro listed a W hM hn i o ho hr
        have B := hM.bel
        match i, ho, hr with
        | 0, ho, hr =>
          have u3 : a.eval (.tmp 3) = .slice none 0 0 := hM.keepB (t := 3) hr (by kernel_rfl)
          exact Step.of rfl (.inl ⟨.slice none 0 0, W, exec_move _ _ rfl u3, Below.refl _ _, rfl⟩) ho
        | 1, ho, hr =>
          refine Step.of rfl (.inl ?_) ho
          exact row_bytes2 rfl rfl rfl
        | 2, ho, hr =>
          have u9 := hM.use hr rfl (j := 0) (by kernel_rfl) rfl rfl
          have u9 : a.eval (.tmp 9) = .slice none 0 0 := u9
          have u10 := hM.use hr rfl (j := 1) (by kernel_rfl) rfl rfl
          have u10 : (fun v W => IsB W.heap.size W v [2, 4]) (a.eval (.tmp 10)) W := u10
          refine Step.of rfl (.inl ?_) ho
          exact app_nil rfl rfl u9 u10 (by decide)
        | 3, ho, hr =>
          have u1 : a.eval (.tmp 1) = .pointer (some ⟨b, 0, none⟩) := hM.keep (t := 1) (by kernel_rfl)
          exact Step.of rfl (.inl ⟨.pointer (some ⟨b, 6, none⟩), W, exec_fieldO 26 _ 6 b 0 6 rfl u1 (fun w => by kernel_rfl), Below.refl _ _, rfl⟩) ho
        | 4, ho, hr =>
          have u12 := hM.use hr rfl (j := 3) (by kernel_rfl) rfl rfl
          have u12 : a.eval (.tmp 12) = .pointer (some ⟨b, 6, none⟩) := u12
          exact Step.of rfl (.inl ⟨.int .i64 ms, W, exec_load1 3 one1 _ rfl b 6 u12 (.int .i64 ms) ((by rw [HMS.out]; exact CW.out W (((Below.refl _ w1).drew).trans B) 6 _ rfl)), Below.refl _ _, rfl⟩) ho
        | 5, ho, hr =>
          have u11 := hM.use hr rfl (j := 2) (by kernel_rfl) rfl rfl
          have u11 : (fun v W => IsB W.heap.size W v [2, 4]) (a.eval (.tmp 11)) W := u11
          have u13 := hM.use hr rfl (j := 4) (by kernel_rfl) rfl rfl
          have u13 : a.eval (.tmp 13) = .int .i64 ms := u13
          refine Step.of rfl (.inr ⟨29, #[a.eval (.tmp 11), .int .i64 ms], exec_callF _ _ _ _ rfl (map2 rfl u13) (enters_of Try.func29 (by kernel_rfl) rfl), ?_⟩) ho
          exact put16_g u11 hn (by decide)
        | 6, ho, hr =>
          have u14 := hM.use hr rfl (j := 5) (by kernel_rfl) rfl rfl
          have u14 : (fun v W => Gro w1.heap.size W v ([2, 4] ++ put16 ms)) (a.eval (.tmp 14)) W := u14
          exact Step.of rfl (.inl ⟨_, W, exec_assign _ _ rfl rfl, Below.refl _ _, u14⟩) ho
        | n + 7, ho, _ => exact absurd (Array.getElem?_eq_some_iff.1 ho).1 (by simp)
      intro listed a W hM hl
      have B := hM.bel
      have p9 : a.tmps.getD 9 undef = .slice none 0 0 := hM.got 0 _ _ rfl (hl 0 (by decide)) rfl
      have p10 : (fun v W => IsB W.heap.size W v [2, 4]) (a.tmps.getD 10 undef) W := hM.got 1 _ _ rfl (hl 1 (by decide)) rfl
      have p11 : (fun v W => IsB W.heap.size W v [2, 4]) (a.tmps.getD 11 undef) W := hM.got 2 _ _ rfl (hl 2 (by decide)) rfl
      have p12 : a.tmps.getD 12 undef = .pointer (some ⟨b, 6, none⟩) := hM.got 3 _ _ rfl (hl 3 (by decide)) rfl
      have p13 : a.tmps.getD 13 undef = .int .i64 ms := hM.got 4 _ _ rfl (hl 4 (by decide)) rfl
      have p14 : (fun v W => Gro w1.heap.size W v ([2, 4] ++ put16 ms)) (a.tmps.getD 14 undef) W := hM.got 5 _ _ rfl (hl 5 (by decide)) rfl
      have p3 : (fun v W => Gro w1.heap.size W v ([2, 4] ++ put16 ms)) (a.tmps.getD 3 undef) W := hM.got 6 _ _ rfl (hl 6 (by decide)) rfl
      rw [hM.lit [9, 10, 11, 12, 13, 14, 3] (by kernel_rfl)]
      clear hM hl
      simp only [fill, List.foldl_cons, List.foldl_nil, Act.put, List.setIfInBounds_toArray, List.set_cons_zero, List.set_cons_succ]
      clear p9
      generalize a.tmps.getD 9 undef = x9 at *
      generalize a.tmps.getD 10 undef = x10 at *
      generalize a.tmps.getD 11 undef = x11 at *
      clear p12
      generalize a.tmps.getD 12 undef = x12 at *
      clear p13
      generalize a.tmps.getD 13 undef = x13 at *
      generalize a.tmps.getD 14 undef = x14 at *
      generalize a.tmps.getD 3 undef = x3 at *
      rw [← EO.out] at p3
      obtain ⟨a3, c3, e3, _⟩ := p3.isB.shape
      subst e3
      have G3 := hide p3
      have BW : Hid (Below w1.heap.size w1 W) := ((Below.refl _ w1).drew).trans B
      clear p10 p11 p14 p3 B
      go_wp2
      go_meet
      exact ⟨_, _, rfl, G3.out, BW.out⟩
  case rest =>
  obtain ⟨a1, c1, rfl, G3, B3⟩ := hcut
  obtain ⟨w2, hw2⟩ : ∃ w2, w2 = wc := ⟨_, rfl⟩
  rw [← hw2] at G3 B3 ⊢
  have k7 : w2.cell? ⟨b, 7, none⟩ = some (.bool s.sak) := CW.out w2 B3.out 7 _ rfl
  obtain ⟨sk, hsk⟩ : ∃ sk, sk = s.sak := ⟨_, rfl⟩
  rw [← hsk] at k7 E2
  clear hw2 k6 hsk
  go_upto_if 16 with fail
  go_cut [3] (fun v wc => ∃ a c, v = .slice a O2.length c ∧ Hid (Gro w1.heap.size wc (.slice a O2.length c) O2) ∧ Hid (Below w1.heap.size w1 wc))
  case first =>
    cases sk with
    | false =>
      have EO : O2 = O1 := by rw [E2.out]; rfl
      subst EO
      go_wp2
      go_meet
      exact ⟨_, _, rfl, G3.out, B3.out⟩
    | true =>
      have EO : Hid (O1 ++ [4, 2] = O2) := by unfold Hid; rw [E2.out]; rfl
      obtain ⟨w3, s3, hs3, hw3, i3, b3⟩ := lit2 w2 4 2
      have I3 := hide i3
      have G4 := hide (G3.out.later b3)
      have B4 := hide (B3.out.trans (b3.mono B3.out.size))
      have Z4 : Hid (w1.heap.size ≤ w3.heap.size) := B4.out.size
      have LL : Hid (O1.length + [(4 : Int), 2].length ≤ 140737488355328) := by have := L1.out; simp [Hid]; omega
      have hs3' := hs3.symm
      have hw3' := hw3.symm
      clear hs3 hw3 i3 b3 k7
      go_wp2_with (at_builtin; refine wpList_growB rfl _ _ rfl rfl w1.heap.size (.slice a1 O1.length c1) (.slice (some ⟨s3, 0, none⟩) 2 2) O1 [4, 2] rfl rfl G4.out I3.out Z4.out LL.out O2 EO.out ?_)
      intro a5 c5 w5 _ g5 b5
      have G5 := hide g5
      have B5 := hide (B4.out.trans b5)
      clear g5 b5 hs3' hw3'
      go_wp2
      go_meet
      exact ⟨_, _, rfl, G5.out, B5.out⟩
  case rest =>
  clear a1 c1 G3 B3
  obtain ⟨a1, c1, rfl, G3, B3⟩ := hcut
  obtain ⟨w2, hw2⟩ : ∃ w2, w2 = wc := ⟨_, rfl⟩
  rw [← hw2] at G3 B3 ⊢
  have k8 : w2.cell? ⟨b, 8, none⟩ = some (.slice ga n gc) := CW.out w2 B3.out 8 _ rfl
  clear hw2 k7
  go_upto_if 23 with fail
  go_cut [3] (fun v wc => ∃ a c, v = .slice a O3.length c ∧ Hid (Gro w1.heap.size wc (.slice a O3.length c) O3) ∧ Hid (Below w1.heap.size w1 wc))
  case first =>
    by_cases e0 : n = 0
    · have EO : O3 = O2 := by rw [E3.out, if_pos e0]
      subst EO
      have z0 : ¬ (0 : Int) < (n : Int) := by omega
      clear e0
      go_wp2
      go_meet
      exact ⟨_, _, rfl, G3.out, B3.out⟩
    · have z0 : (0 : Int) < (n : Int) := by omega
      obtain ⟨m, hm⟩ : ∃ m : Nat, m = 2 + 8 * n := ⟨_, rfl⟩
      have EO : Hid (O2 ++ [5, (m : Int)] = O3) := by unfold Hid; rw [E3.out, if_neg e0, hm]
      have GS := hide (gotSize_any n (by omega) w2)
      rw [← hm] at GS
      have zm : (m : Int) % 256 = (m : Int) := by omega
      obtain ⟨w3, s3, hs3, hw3, i3, b3⟩ := lit2 w2 5 (m : Int)
      have I3 := hide i3
      have G4 := hide (G3.out.later b3)
      have B4 := hide (B3.out.trans (b3.mono B3.out.size))
      have Z4 : Hid (w1.heap.size ≤ w3.heap.size) := B4.out.size
      have LL : Hid (O2.length + [(5 : Int), (m : Int)].length ≤ 140737488355328) := by have := L2.out; simp [Hid]; omega
      have hs3' := hs3.symm
      have hw3' := hw3.symm
      clear hs3 hw3 i3 b3 hm e0
      go_wp2_with fail
      refine GS.out.mono ?_
      rintro _ wx ⟨rfl, hwx⟩
      rw [hwx]
      clear hwx wx GS k8
      go_wp2_with (at_builtin; refine wpList_growB rfl _ _ rfl rfl w1.heap.size (.slice a1 O2.length c1) (.slice (some ⟨s3, 0, none⟩) 2 2) O2 [5, (m : Int)] rfl rfl G4.out I3.out Z4.out LL.out O3 EO.out ?_)
      intro a5 c5 w5 _ g5 b5
      have G5 := hide g5
      have B5 := hide (B4.out.trans b5)
      clear g5 b5 hs3' hw3'
      go_wp2
      go_meet
      exact ⟨_, _, rfl, G5.out, B5.out⟩
  case rest =>
  clear a1 c1 G3 B3
  obtain ⟨a1, c1, rfl, G3, B3⟩ := hcut
  obtain ⟨w2, hw2⟩ : ∃ w2, w2 = wc := ⟨_, rfl⟩
  rw [← hw2] at G3 B3 ⊢
  have k8 : w2.cell? ⟨b, 8, none⟩ = some (.slice ga n gc) := CW.out w2 B3.out 8 _ rfl
  clear hw2
  go_wp2
  clear k8
  go_loopw [3, 35] (fun v3 v35 wr => ∃ (k : Nat) (L : List Int) (a : Option Addr) (c : Nat), v35 = .int .i64 (k : Int) ∧ k ≤ n ∧ v3 = .slice a L.length c ∧ Hid (L = oL s k) ∧ Hid (Gro w1.heap.size wr (.slice a L.length c) L) ∧ Hid (Below w1.heap.size w1 wr)) (fun _ v35 _ => n - (intOf v35).toNat)
  case atStart => exact ⟨0, O3, a1, c1, rfl, by omega, rfl, E0.out, G3.out, B3.out⟩
  case round =>
    clear G3 B3
    obtain ⟨k, L, a3, c3, rfl, hk, rfl, HL, G3, B3⟩ := hrel
    by_cases hlt : k < n
    · have zk : (k : Int) < (n : Int) := by omega
      obtain ⟨x, hx⟩ : ∃ x, s.got[k]? = some x := ⟨_, List.getElem?_eq_getElem (by rw [← HN.out]; exact hlt)⟩
      obtain ⟨X0, X1, X2, X3⟩ := OK.out.got x (List.mem_of_getElem? hx)
      have hgr := G1.out.later B3.out
      obtain ⟨a', cap', e', h1, h2, h3'⟩ := hgr
      simp only [Value.slice.injEq] at e'
      obtain ⟨rfl, e0, rfl⟩ := e'
      clear e0
      obtain ⟨g, off, rfl, _, gl, hcs⟩ := h3' (by have := HN.out; omega)
      have cx := hide (hcs k x hx)
      obtain ⟨wb, hwb⟩ : ∃ wb, wb = wr.alloc (.cells #[.int .u32 0, .int .u32 0] 68) := ⟨_, rfl⟩
      obtain ⟨sx, hsx⟩ : ∃ sx, sx = wr.heap.size := ⟨_, rfl⟩
      have bb : Below wr.heap.size wr wb := by rw [hwb]; exact later_alloc _ _
      have cb : CellsAt wb sx 0 [.int .u32 0, .int .u32 0] := by rw [hwb, hsx]; exact CellsAt.new wr _ _
      have fb : ∀ y, wb.frozen? ⟨sx, y, none⟩ = false := by rw [hwb, hsx]; exact fun y => frozen_new wr _ _ _
      have lb := cb.lt (by decide)
      obtain ⟨wd, hwd⟩ : ∃ wd, wd = wb.setCells sx 0 x.cells := ⟨_, rfl⟩
      have CD : Hid (CellsAt wd sx 0 x.cells) := by rw [hwd]; exact cb.stored rfl
      have bd : Below wr.heap.size wr wd := by
        rw [hwd]
        exact bb.trans ((But.cells sx x.cells 0 wb).below bb.size (fun q hq e => by have e : q = sx := e; omega))
      have LD : sx < wd.heap.size := Nat.lt_of_lt_of_le lb (by rw [hwd]; exact (But.cells sx x.cells 0 wb).size)
      have OX : Hid (∀ u ∈ x.cells, u.oneCell' = true) := by
        intro u hu
        simp only [Sp.cells, List.mem_cons, List.not_mem_nil, or_false] at hu
        rcases hu with rfl | rfl <;> rfl
      have CB2 := hide cb
      have FB := hide fb
      have G4 := hide (G3.out.later bd)
      have B4 : Hid (Below w1.heap.size w1 wd) := B3.out.trans (bd.mono B3.out.size)
      have HX := hide hx
      have hsx' := hsx.symm
      have hwb' := hwb.symm
      have hwd' := hwd.symm
      have LX : Hid (x.cells.length = 2) := rfl
      have N1 : Hid (L.length ≤ 100000) := by have := oL_len s k; have := HL.out; unfold Hid; rw [HL.out]; omega
      have HN2 : Hid (oL s (k + 1) = L ++ put32 x.f ++ put32 x.t) := by unfold Hid; rw [oL_succ s k x HX.out, ← HL.out]
      clear hsx hwb hwd bb cb fb bd hx hcs h3' h1 h2
      go_upto_region 11 with (first | refine wpList_loadA rfl 68 2 aggSp sizSp _ rfl g (off + k * 2) rfl x.cells LX.out cx.out ?_ | (refine wpList_storeA rfl 68 2 sizSp _ _ rfl sx 0 rfl x.cells [.int .u32 0, .int .u32 0] rfl LX.out rfl CB2.out FB.out OX.out ?_; intro _; rw [hwd']))
      clear hsx' hwb' hwd' CB2 FB cx
      have CV : ∀ W, Below wd.heap.size wd.drew W → CellsAt W sx 0 x.cells := fun W hb => CD.out.later LD (((Below.refl _ wd).drew).trans hb)
      have GW : ∀ W, Below wd.heap.size wd.drew W → IsB W.heap.size W (.slice a3 L.length c3) L := fun W hb => (G4.out.later (((Below.refl _ wd).drew).trans hb)).isB
      refine region_grow (w := wd) (fun i v W => match i with | 0 => v = .slice a3 L.length c3 | 1 => v = .pointer (some ⟨sx, 0, none⟩) | 2 => v = .int .u32 x.f | 3 => Gro w1.heap.size W v (L ++ put32 x.f) | 4 => v = .pointer (some ⟨sx, 1, none⟩) | 5 => v = .int .u32 x.t | 6 => Gro w1.heap.size W v (L ++ put32 x.f ++ put32 x.t) | 7 => Gro w1.heap.size W v (L ++ put32 x.f ++ put32 x.t) | _ => True) (by kernel_rfl) (by kernel_rfl) (by kernel_rfl) (no_guard (by kernel_rfl)) (fun i v W W' h hb => match i, h with | 0, h => h | 1, h => h | 2, h => h | 3, h => Gro.later h hb | 4, h => h | 5, h => h | 6, h => Gro.later h hb | 7, h => Gro.later h hb | _ + 8, h => h) ?_ ?_
      · intro listed a W hM hn i o ho hr
        have B := hM.bel
        match i, ho, hr with
        | 0, ho, hr =>
          have u3 : a.eval (.tmp 3) = .slice a3 L.length c3 := hM.keepB (t := 3) hr (by kernel_rfl)
          exact Step.of rfl (.inl ⟨.slice a3 L.length c3, W, exec_move _ _ rfl u3, Below.refl _ _, rfl⟩) ho
        | 1, ho, hr =>
          have u5 : a.eval (.tmp 5) = .pointer (some ⟨sx, 0, none⟩) := hM.keep (t := 5) (by kernel_rfl)
          exact Step.of rfl (.inl ⟨.pointer (some ⟨sx, 0, none⟩), W, exec_fieldO 68 _ 0 sx 0 0 rfl u5 (fun w => by kernel_rfl), Below.refl _ _, rfl⟩) ho
        | 2, ho, hr =>
          have u40 := hM.use hr rfl (j := 1) (by kernel_rfl) rfl rfl
          have u40 : a.eval (.tmp 40) = .pointer (some ⟨sx, 0, none⟩) := u40
          exact Step.of rfl (.inl ⟨.int .u32 x.f, W, exec_load1 22 one32 _ rfl sx 0 u40 (.int .u32 x.f) (CV W B 0 _ rfl), Below.refl _ _, rfl⟩) ho
        | 3, ho, hr =>
          have u39 := hM.use hr rfl (j := 0) (by kernel_rfl) rfl rfl
          have u39 : a.eval (.tmp 39) = .slice a3 L.length c3 := u39
          have u41 := hM.use hr rfl (j := 2) (by kernel_rfl) rfl rfl
          have u41 : a.eval (.tmp 41) = .int .u32 x.f := u41
          refine Step.of rfl (.inr ⟨30, #[.slice a3 L.length c3, .int .u32 x.f], exec_callF _ _ _ _ rfl (map2 u39 u41) (enters_of Try.func30 (by kernel_rfl) rfl), ?_⟩) ho
          exact put32_g (GW W B) ⟨X0, X1⟩ (Nat.le_trans B4.out.size hn) N1.out
        | 4, ho, hr =>
          have u5 : a.eval (.tmp 5) = .pointer (some ⟨sx, 0, none⟩) := hM.keep (t := 5) (by kernel_rfl)
          exact Step.of rfl (.inl ⟨.pointer (some ⟨sx, 1, none⟩), W, exec_fieldO 68 _ 1 sx 0 1 rfl u5 (fun w => by kernel_rfl), Below.refl _ _, rfl⟩) ho
        | 5, ho, hr =>
          have u43 := hM.use hr rfl (j := 4) (by kernel_rfl) rfl rfl
          have u43 : a.eval (.tmp 43) = .pointer (some ⟨sx, 1, none⟩) := u43
          exact Step.of rfl (.inl ⟨.int .u32 x.t, W, exec_load1 22 one32 _ rfl sx 1 u43 (.int .u32 x.t) (CV W B 1 _ rfl), Below.refl _ _, rfl⟩) ho
        | 6, ho, hr =>
          have u42 := hM.use hr rfl (j := 3) (by kernel_rfl) rfl rfl
          have u42 : (fun v W => Gro w1.heap.size W v (L ++ put32 x.f)) (a.eval (.tmp 42)) W := u42
          have u44 := hM.use hr rfl (j := 5) (by kernel_rfl) rfl rfl
          have u44 : a.eval (.tmp 44) = .int .u32 x.t := u44
          refine Step.of rfl (.inr ⟨30, #[a.eval (.tmp 42), .int .u32 x.t], exec_callF _ _ _ _ rfl (map2 rfl u44) (enters_of Try.func30 (by kernel_rfl) rfl), ?_⟩) ho
          exact put32_g u42.isB ⟨X2, X3⟩ (Nat.le_trans B4.out.size hn) (by have := N1.out; rw [List.length_append]; simp [put32]; have := oL_len s k; rw [HL.out]; omega)
        | 7, ho, hr =>
          have u45 := hM.use hr rfl (j := 6) (by kernel_rfl) rfl rfl
          have u45 : (fun v W => Gro w1.heap.size W v (L ++ put32 x.f ++ put32 x.t)) (a.eval (.tmp 45)) W := u45
          exact Step.of rfl (.inl ⟨_, W, exec_assign _ _ rfl rfl, Below.refl _ _, u45⟩) ho
        | n + 8, ho, _ => exact absurd (Array.getElem?_eq_some_iff.1 ho).1 (by simp)
      intro listed a W hM hl
      have B := hM.bel
      have p39 : a.tmps.getD 39 undef = .slice a3 L.length c3 := hM.got 0 _ _ rfl (hl 0 (by decide)) rfl
      have p40 : a.tmps.getD 40 undef = .pointer (some ⟨sx, 0, none⟩) := hM.got 1 _ _ rfl (hl 1 (by decide)) rfl
      have p41 : a.tmps.getD 41 undef = .int .u32 x.f := hM.got 2 _ _ rfl (hl 2 (by decide)) rfl
      have p42 : (fun v W => Gro w1.heap.size W v (L ++ put32 x.f)) (a.tmps.getD 42 undef) W := hM.got 3 _ _ rfl (hl 3 (by decide)) rfl
      have p43 : a.tmps.getD 43 undef = .pointer (some ⟨sx, 1, none⟩) := hM.got 4 _ _ rfl (hl 4 (by decide)) rfl
      have p44 : a.tmps.getD 44 undef = .int .u32 x.t := hM.got 5 _ _ rfl (hl 5 (by decide)) rfl
      have p45 : (fun v W => Gro w1.heap.size W v (L ++ put32 x.f ++ put32 x.t)) (a.tmps.getD 45 undef) W := hM.got 6 _ _ rfl (hl 6 (by decide)) rfl
      have p3 : (fun v W => Gro w1.heap.size W v (L ++ put32 x.f ++ put32 x.t)) (a.tmps.getD 3 undef) W := hM.got 7 _ _ rfl (hl 7 (by decide)) rfl
      rw [hM.lit [39, 40, 41, 42, 43, 44, 45, 3] (by kernel_rfl)]
      clear hM hl
      simp only [fill, List.foldl_cons, List.foldl_nil, Act.put, List.setIfInBounds_toArray, List.set_cons_zero, List.set_cons_succ]
      clear p39
      generalize a.tmps.getD 39 undef = x39 at *
      clear p40
      generalize a.tmps.getD 40 undef = x40 at *
      clear p41
      generalize a.tmps.getD 41 undef = x41 at *
      generalize a.tmps.getD 42 undef = x42 at *
      clear p43
      generalize a.tmps.getD 43 undef = x43 at *
      clear p44
      generalize a.tmps.getD 44 undef = x44 at *
      generalize a.tmps.getD 45 undef = x45 at *
      generalize a.tmps.getD 3 undef = x3 at *
      rw [← HN2.out] at p3
      obtain ⟨a5, c5, e5, _⟩ := p3.isB.shape
      subst e5
      have G5 := hide p3
      have B5 : Hid (Below w1.heap.size w1 W) := B4.out.trans ((((Below.refl _ wd).drew).trans B).mono B4.out.size)
      clear p42 p45 p3 B CV GW
      go_wp2
      go_roundw
      case rel => exact ⟨k + 1, _, _, _, by go_num, hlt, rfl, rfl, G5.out, B5.out⟩
      case measure => simp [intOf]; omega
    · obtain rfl : k = n := by omega
      have zk : ¬ (k : Int) < (k : Int) := by omega
      have EP : Hid (padT L = otB s) := by unfold Hid otB; rw [HL.out, HN.out]
      have N1 : Hid (L.length ≤ 40) := by have := oL_len s k; unfold Hid; rw [HL.out]; omega
      go_wp2
      go_loopw [3] (fun v3 wr => ∃ (L : List Int) (q : Nat) (a : Option Addr) (c : Nat), v3 = .slice a q c ∧ Hid (q = L.length) ∧ q ≤ 44 ∧ Hid (padT L = otB s) ∧ Hid (Gro w1.heap.size wr (.slice a q c) L) ∧ Hid (Below w1.heap.size w1 wr)) (fun v3 _ => match v3 with | .slice _ q _ => (4 - q % 4) % 4 | _ => 0)
      case atStart => exact ⟨L, L.length, a3, c3, rfl, rfl, by have := N1.out; omega, EP.out, G3.out, B3.out⟩
      case round =>
        clear G3 B3 EP N1 HL
        obtain ⟨L, q, a3, c3, rfl, HQ, q43, EP, G3, B3⟩ := hrel
        have tm : (q : Int).tmod 4 = ((q % 4 : Nat) : Int) := by rw [Int.tmod_eq_emod_of_nonneg (by omega)]; omega
        obtain ⟨r, hr⟩ : ∃ r, r = q % 4 := ⟨_, rfl⟩
        rw [← hr] at tm
        by_cases h0 : r = 0
        · have EL : L = otB s := by rw [← EP.out, padT_end L (by rw [← HQ.out, ← hr]; exact h0)]
          subst EL
          have BF : Hid (Below w.heap.size w wr) := B1.out.trans (B3.out.mono B1.out.size)
          have GF : Hid (Gro w.heap.size wr (.slice a3 q c3) (otB s)) := G3.out.low B1.out.size
          subst h0
          clear hr
          go_wp2
          go_ret
          exact ⟨_, rfl, GF.out, BF.out⟩
        · have q0 : ((r : Int) != 0) = true := by simpa using h0
          obtain ⟨wk, hwk⟩ : ∃ wk, wk = wr := ⟨_, rfl⟩
          rw [← hwk] at G3 B3 ⊢
          obtain ⟨w3, s3, hs3, hw3, i3, b3⟩ := lit1 wk 1
          have I3 := hide i3
          have G4 := hide (G3.out.later b3)
          have B4 := hide (B3.out.trans (b3.mono B3.out.size))
          have Z4 : Hid (w1.heap.size ≤ w3.heap.size) := B4.out.size
          obtain ⟨M, hM⟩ : ∃ M, L ++ [1] = M := ⟨_, rfl⟩
          have EM : Hid (padT M = otB s) := by unfold Hid; rw [← hM, padT_step L (by rw [← HQ.out, ← hr]; exact h0), EP.out]
          have LM : Hid (M.length = q + 1) := by unfold Hid; rw [← hM, List.length_append, ← HQ.out]; rfl
          have ME : Hid ((4 - (q + 1) % 4) % 4 < (4 - q % 4) % 4) := by unfold Hid; omega
          have HM := hide hM
          have LL : Hid (L.length + [(1 : Int)].length ≤ 140737488355328) := by have := HQ.out; simp [Hid]; omega
          have q42 : Hid (q + 1 ≤ 44) := by unfold Hid; omega
          have hs3' := hs3.symm
          have hw3' := hw3.symm
          clear hs3 hw3 i3 b3 hM h0 hwk
          go_wp2_with (at_builtin; refine wpList_growB rfl _ _ rfl rfl w1.heap.size (.slice a3 q c3) (.slice (some ⟨s3, 0, none⟩) 1 1) L [1] rfl rfl G4.out I3.out Z4.out LL.out M HM.out ?_)
          intro a5 c5 w5 _ g5 b5
          rw [LM.out] at g5 ⊢
          have G5 := hide g5
          have B5 := hide (B4.out.trans b5)
          clear g5 b5 hs3' hw3'
          go_wp2
          go_roundw
          case rel => exact ⟨M, q + 1, a5, c5, rfl, LM.out.symm, q42.out, EM.out, G5.out, B5.out⟩
          case measure => exact ME.out
end Go.Proofs.Ytggadchhkenipaa
