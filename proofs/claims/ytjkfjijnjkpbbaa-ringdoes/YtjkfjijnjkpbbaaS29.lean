
/-
  nums: two lists of numbers that are the same. alike: both rings say the same. RingDoes: its walk.
-/
import Derived.BigQuiet
import Derived.Deep.RegionHeld3
import Derived.Test.YtjkfjijnjkpbbaaS25
namespace Go.Proofs.Ytjkfjijnjkpbbaa
open Go.RowKit

/-- the numbers from i on, in block g -/
def NmAt (W : World) (g i : Nat) (L : List Int) : Prop := ∀ j y, i ≤ j → L[j]? = some y → W.cell? ⟨g, j, none⟩ = some (.int .i64 y)

set_option maxRecDepth 100000 in
set_option maxHeartbeats 2000000 in
theorem nums_same {w : World} {N : Nat} {aa ba : Option Addr} {ca bc : Nat} {L : List Int} {O : Nat → Prop} (ha : w.ownsRow N 3 1 (.slice aa L.length ca) L.length (ints L)) (hb : RowN O w (.slice ba L.length bc) L) (hd : ∀ g, Value.ownBlock (.slice aa L.length ca) = some g → ¬ O g) (hl : L.length ≤ 15) :
    Calls Try.prog 44 #[.slice aa L.length ca, .slice ba L.length bc] w fun e w' => e = .returned (.bool true) ∧ But (fun g => Value.ownBlock (.slice aa L.length ca) = some g) w w' := by
  obtain ⟨m, hm⟩ : ∃ m, m = L.length := ⟨_, rfl⟩
  have HM := hide hm
  rw [← hm] at ha hb hd hl ⊢
  have HA := hide ha
  have HB := hide hb
  have HD := hide hd
  have zm : (m : Int) ≤ 15 := by omega
  clear ha hb hd hm
  go_enter Try.func44, Try.ntmps44
  go_wp2
  go_loopw [5, 6] (fun v5 v6 wr => ∃ i : Nat, v5 = .bool true ∧ v6 = .int .i64 (i : Int) ∧ i ≤ m ∧ Hid (But (fun g => Value.ownBlock (.slice aa m ca) = some g) w wr ∧ ∀ g, aa = some ⟨g, 0, none⟩ → NmAt wr g i L ∧ ∀ j, wr.frozen? ⟨g, j, none⟩ = false)) (fun _ v6 _ => m - (intOf v6).toNat)
  case atStart =>
    refine ⟨0, rfl, rfl, Nat.zero_le _, But.refl _ _, fun g e => ⟨fun j y _ hy => ?_, fun j => by subst e; exact own_fz HA.out j⟩⟩
    subst e
    have jl : j < L.length := (List.getElem?_eq_some_iff.1 hy).1
    have o := HA.out
    rw [World.ownsRow.cellAt o j (by have := HM.out; omega), ints_get, hy]; rfl
  case round =>
    obtain ⟨i, rfl, rfl, hi, hq⟩ := hrel
    by_cases hlt : i < m
    · have zi : (i : Int) < (m : Int) := by omega
      obtain ⟨y, hy⟩ : ∃ y, L[i]? = some y := ⟨_, List.getElem?_eq_getElem (by have := HM.out; omega)⟩
      obtain ⟨_, _, e0, hs, _⟩ := row_shape HA.out
      simp only [Value.slice.injEq, true_and] at e0
      obtain ⟨g, e, _⟩ := hs (by omega)
      rw [← e0.1] at e
      subst e
      have hb1 := HB.out.but hq.out.1 (fun b e1 e2 => HD.out b e2 e1)
      obtain ⟨bg, off, rfl, hbl, hbo, hcs⟩ := hb1.at (by have := HM.out; omega)
      have cb := hcs i y hy
      have cg := (hq.out.2 g rfl).1 i y (Nat.le_refl _) hy
      have fg := (hq.out.2 g rfl).2 i
      have gl : g < wr.heap.size := Nat.lt_of_lt_of_le (World.ownsRow.lt HA.out g rfl).2 hq.out.1.size
      have b2 : But (Only g) wr (wr.setCell ⟨g, i, none⟩ (.int .i64 (-9))) := (But.refl _ _).cellb _ _
      have Q2 : Hid (∀ t, But (fun g' => Value.ownBlock (.slice (some ⟨g, 0, none⟩) m ca) = some g') w ((wr.drewN t).setCell ⟨g, i, none⟩ (.int .i64 (-9))) ∧ ∀ g', some (⟨g, 0, none⟩ : Addr) = some ⟨g', 0, none⟩ → NmAt ((wr.drewN t).setCell ⟨g, i, none⟩ (.int .i64 (-9))) g' (i + 1) L ∧ ∀ j, ((wr.drewN t).setCell ⟨g, i, none⟩ (.int .i64 (-9))).frozen? ⟨g', j, none⟩ = false) := fun t => by
        refine ⟨(hq.out.1.drewN t).setCell (p := ⟨g, i, none⟩) (.inr rfl) _, fun g' e => ?_⟩
        have e : g = g' := by simpa using e
        subst e
        refine ⟨fun j y' hj hy' => ?_, fun j => (World.frozen?_setCell ..).trans ((hq.out.2 g rfl).2 j)⟩
        rw [setCell_out (by omega)]
        exact (hq.out.2 g rfl).1 j y' (by omega) hy'
      clear hb1 hcs hq b2 hy e0 hs
      go_upto_region 7 with fail
      go_quiet (fail)
      have Q3 := hide (Q2.out nq)
      clear Q2
      go_wp2
      go_roundw
      case rel => exact ⟨i + 1, rfl, by go_num, hlt, Q3.out⟩
      case measure => simp [intOf]; omega
    · obtain rfl : i = m := by omega
      have zi : ¬ (i : Int) < (i : Int) := by omega
      have F := hide hq.out.1
      clear hq
      go_wp2
      go_ret
      exact ⟨rfl, F.out⟩

set_option maxRecDepth 100000 in
set_option maxHeartbeats 4000000 in
theorem alike_any {ρ : Nat → Nat} {w : World} {x : Nat} {q k : Bl} {n : Nat} {X : Rg} {tv cv ov mv : Value} {Cm Mn : List Int} (h : Two ρ w x q k n X X tv cv ov mv Cm Mn) {hl : Nat → Nat} {g : Nat} (zX : Hz n X hl g) :
    Calls Try.prog 10 #[.pointer (some ⟨x, 0, none⟩)] w fun e w' => e = .returned (.bool true) ∧ Two ρ w' x q k n X X tv cv ov mv Cm Mn ∧ Mv ρ w ρ w' := by
  obtain ⟨ta, tc, et⟩ := (RQ.t h.r).shape
  obtain ⟨ca, cc, ec⟩ := (RQ.c h.r).shape
  obtain ⟨T, hT⟩ : ∃ T, T = X.s.ids := ⟨_, rfl⟩
  obtain ⟨C, hC⟩ : ∃ C, C = X.c.ids := ⟨_, rfl⟩
  rw [← hT] at et
  rw [← hC] at ec
  subst et ec
  have H := hide h
  have HT := hide hT
  have HC := hide hC
  have T15 : T.length ≤ 15 := by rw [hT]; exact zX.sm
  have C15 : C.length ≤ 15 := by rw [hC]; exact zX.cm
  have zT : (T.length : Int) ≤ 15 := by omega
  have zC : (C.length : Int) ≤ 15 := by omega
  have n4 : n ≤ 4096 := h.p.p.pool.n1
  have zn : (n : Int) ≤ 4096 := by omega
  have OK := hide zX.ok
  have KP : Hid (∀ W, Below w.heap.size w W → W.cell? ⟨x, 2, none⟩ = some (.pointer (some ⟨q.r, 0, none⟩)) ∧ W.cell? ⟨x, 5, none⟩ = some (.pointer (some ⟨k.r, 0, none⟩)) ∧ W.cell? ⟨k.r, 2, none⟩ = some (.slice ta T.length tc) ∧ W.cell? ⟨k.r, 3, none⟩ = some (.slice ca C.length cc)) := fun W hb => by
    have t := H.out.later hb
    exact ⟨t.p.c2, t.c5, (RQ.rf t.r).c2, (RQ.rf t.r).c3⟩
  have XS : Hid (∀ W, Below w.heap.size w W → Calls Try.prog 23 #[.pointer (some ⟨q.r, 0, none⟩)] W fun e w' => ∃ a c, e = .returned (.slice a T.length c) ∧ w'.ownsRow W.heap.size 3 1 (.slice a T.length c) T.length (ints T) ∧ Below w.heap.size w w') := fun W hb => by
    refine (Sending_any (H.out.later hb).p.p).mono ?_
    rintro _ w' ⟨v, rfl, ho, hbw⟩
    rw [← HT.out] at ho
    obtain ⟨a, c, rfl, _⟩ := row_shape ho
    exact ⟨a, c, rfl, ho, hb.trans (hbw.mono hb.size)⟩
  have XC : Hid (∀ W, Below w.heap.size w W → Calls Try.prog 26 #[.pointer (some ⟨q.r, 0, none⟩)] W fun e w' => ∃ a c, e = .returned (.slice a C.length c) ∧ w'.ownsRow W.heap.size 3 1 (.slice a C.length c) C.length (ints C) ∧ Below w.heap.size w w') := fun W hb => by
    refine (Coming_any (H.out.later hb).p.p).mono ?_
    rintro _ w' ⟨v, rfl, ho, hbw⟩
    rw [← HC.out] at ho
    obtain ⟨a, c, rfl, _⟩ := row_shape ho
    exact ⟨a, c, rfl, ho, hb.trans (hbw.mono hb.size)⟩
  have XNT : Hid (∀ W a c N, w.heap.size ≤ N → Below w.heap.size w W → W.ownsRow N 3 1 (.slice a T.length c) T.length (ints T) → Calls Try.prog 44 #[.slice a T.length c, .slice ta T.length tc] W fun e w' => e = .returned (.bool true) ∧ Below w.heap.size w w') := fun W a c N hN hb ho => by
    have r : RowN (fun g => ρ g = 9) W (.slice ta T.length tc) T := by have := RQ.t (H.out.later hb).r; rw [← HT.out] at this; exact this
    refine (nums_same ho r (fun g e e2 => by have h1 := (World.ownsRow.lt ho g e).1; have h2 := H.out.lt g (by omega); omega) T15).mono ?_
    rintro _ w' ⟨rfl, hbw⟩
    exact ⟨rfl, hb.trans (hbw.below hb.size (fun g hg e => by have h1 := (World.ownsRow.lt ho g e).1; omega))⟩
  have XNC : Hid (∀ W a c N, w.heap.size ≤ N → Below w.heap.size w W → W.ownsRow N 3 1 (.slice a C.length c) C.length (ints C) → Calls Try.prog 44 #[.slice a C.length c, .slice ca C.length cc] W fun e w' => e = .returned (.bool true) ∧ Below w.heap.size w w') := fun W a c N hN hb ho => by
    have r : RowN (fun g => ρ g = 10) W (.slice ca C.length cc) C := by have := RQ.c (H.out.later hb).r; rw [← HC.out] at this; exact this
    refine (nums_same ho r (fun g e e2 => by have h1 := (World.ownsRow.lt ho g e).1; have h2 := H.out.lt g (by omega); omega) C15).mono ?_
    rintro _ w' ⟨rfl, hbw⟩
    exact ⟨rfl, hb.trans (hbw.below hb.size (fun g hg e => by have h1 := (World.ownsRow.lt ho g e).1; omega))⟩
  obtain ⟨c2, c5, k2, k3⟩ := KP.out w (Below.refl _ _)
  clear h hT hC zX
  go_enter Try.func10, Try.ntmps10
  go_upto_region 1 with fail
  go_cut [3] (fun v3 wc => v3 = .bool true ∧ Hid (Below w.heap.size w wc))
  case first =>
    have qd : Below w.heap.size w w.drew := undrew0 (Below.refl _ _)
    go_region_held3 (fun W => W.cell? ⟨x, 2, none⟩ = some (.pointer (some ⟨q.r, 0, none⟩)) ∧ W.cell? ⟨x, 5, none⟩ = some (.pointer (some ⟨k.r, 0, none⟩)) ∧ W.cell? ⟨k.r, 2, none⟩ = some (.slice ta T.length tc) ∧ W.cell? ⟨k.r, 3, none⟩ = some (.slice ca C.length cc)) (first | exact KP.out _ (by assumption) | assumption) (first
      | (go_at_call 23; refine (XS.out w.drew qd).mono ?_; rintro _ w7 ⟨a7, e7, rfl, o7, q7⟩; have O7 := hide o7; clear o7)
      | (go_at_call 44; refine (XNT.out w7 a7 e7 w.heap.size (Nat.le_refl _) q7 O7.out).mono ?_; rintro _ w8 ⟨rfl, q8⟩))
    all_goals go_wp2
    all_goals go_meet
    all_goals exact ⟨rfl, q8⟩
  case rest =>
    obtain ⟨rfl, hb1⟩ := hcut
    obtain ⟨w1, hw1⟩ : ∃ w1, w1 = wc := ⟨_, rfl⟩
    rw [← hw1] at hb1 ⊢
    clear hw1 c2 c5 k2 k3
    obtain ⟨c2, c5, k2, k3⟩ := KP.out w1 hb1.out
    go_upto_region 2 with fail
    go_cut [4] (fun v4 wc => v4 = .bool true ∧ Hid (Below w.heap.size w wc))
    case first =>
      have qd : Below w.heap.size w w1.drew := undrew0 hb1.out
      go_region_held3 (fun W => W.cell? ⟨x, 2, none⟩ = some (.pointer (some ⟨q.r, 0, none⟩)) ∧ W.cell? ⟨x, 5, none⟩ = some (.pointer (some ⟨k.r, 0, none⟩)) ∧ W.cell? ⟨k.r, 2, none⟩ = some (.slice ta T.length tc) ∧ W.cell? ⟨k.r, 3, none⟩ = some (.slice ca C.length cc)) (first | exact KP.out _ (by assumption) | assumption) (first
        | (go_at_call 26; refine (XC.out w1.drew qd).mono ?_; rintro _ w7 ⟨a7, e7, rfl, o7, q7⟩; have O7 := hide o7; clear o7)
        | (go_at_call 44; refine (XNC.out w7 a7 e7 w1.heap.size hb1.out.size q7 O7.out).mono ?_; rintro _ w8 ⟨rfl, q8⟩))
      all_goals go_wp2
      all_goals go_meet
      all_goals exact ⟨rfl, q8⟩
    case rest =>
      obtain ⟨rfl, hb2⟩ := hcut
      obtain ⟨w2, hw2⟩ : ∃ w2, w2 = wc := ⟨_, rfl⟩
      rw [← hw2] at hb2 ⊢
      clear hw2 c2 c5 k2 k3 hb1 XS XC XNT XNC
      obtain ⟨c2, c5, k2, k3⟩ := KP.out w2 hb2.out
      have t2 := H.out.later hb2.out
      have c1 := t2.p.c1
      have c4 := t2.c4
      obtain ⟨lf, hlf⟩ : ∃ lf : Int, lf = (lft X.B n : Int) := ⟨_, rfl⟩
      have XL1 : Hid (∀ t, Calls Try.prog 27 #[.pointer (some ⟨q.p, 0, none⟩)] (w2.drewN t) fun e w' => e = .returned (.int .i64 lf) ∧ w' = w2.drewN t) := fun t => by rw [hlf]; exact Left_any (t2.later (undrewK0 (Below.refl _ _))).p.p.pool
      have XL2 : Hid (∀ t, Calls Try.prog 45 #[.pointer (some ⟨k.p, 0, none⟩)] (w2.drewN t) fun e w' => e = .returned (.int .i64 lf) ∧ w' = w2.drewN t) := fun t => by rw [hlf]; exact rLeft_any (RQ.rf (t2.later (undrewK0 (Below.refl _ _))).r).pool
      have XRM : Hid (∀ t, Calls Try.prog 24 #[.pointer (some ⟨q.r, 0, none⟩)] (w2.drewN t) fun e w' => e = .returned (.int .i64 (15 - (T.length : Int))) ∧ w' = w2.drewN t) := fun t => by rw [HT.out]; exact Room_any (t2.later (undrewK0 (Below.refl _ _))).p.p
      have wr1 : IntKind.i64.wrap (15 - (T.length : Int)) = 15 - (T.length : Int) := by rw [IntKind.wrap_i64]; omega
      clear t2 hlf
      go_upto_region 3 with fail
      refine wp_region_quiet_lit (by kernel_rfl) (by kernel_rfl) ?_
      iterate 11 go_big_quiet_step (fail)
      go_big_quiet_want
      go_big_quiet_op
      refine ⟨_, fun n => Calls.quiet_of_same (XL1.out n), ?_⟩
      go_big_quiet_on
      iterate 4 go_big_quiet_step (fail)
      go_big_quiet_want
      go_big_quiet_op
      refine ⟨_, fun n => Calls.quiet_of_same (XL2.out n), ?_⟩
      go_big_quiet_on
      iterate 7 go_big_quiet_step (fail)
      go_big_quiet_want
      go_big_quiet_op
      refine ⟨_, fun n => Calls.quiet_of_same (XRM.out n), ?_⟩
      go_big_quiet_on
      iterate 11 go_big_quiet_step (fail)
      refine wpQuiet_nil ?_
      intro _ hw'
      obtain ⟨nq, hw''⟩ := hw'
      subst hw''
      have B3 : Hid (Below w.heap.size w (w2.drewN nq)) := undrewK0 hb2.out
      clear XL1 XL2 XRM c1 c4 c2 c5 k2 k3 hb2 wr1
      generalize w2.drewN nq = w3 at *
      go_wp2
      go_loopw [5] (fun v5 wr => ∃ i : Nat, v5 = .int .i64 (i : Int) ∧ i ≤ n ∧ Hid (Below w.heap.size w wr)) (fun v5 _ => n - (intOf v5).toNat)
      case atStart => exact ⟨0, rfl, Nat.zero_le _, B3.out⟩
      case round =>
        clear B3
        obtain ⟨i, rfl, hi, hB⟩ := hrel
        have t3 := H.out.later hB.out
        have c1 := t3.p.c1
        have c4 := t3.c4
        have kp := (RQ.rf t3.r).pool.cell
        by_cases hlt : i < n
        · have zi : (i : Int) < (n : Int) := by omega
          obtain ⟨rf, hrf⟩ : ∃ rf : Int, rf = ((seX n X.B (i : Int)).refs : Int) := ⟨_, rfl⟩
          obtain ⟨eo, heo⟩ : ∃ eo : Int, eo = hoE n X.B (i : Int) := ⟨_, rfl⟩
          have XE := hide (See_any t3.p.p.pool (i : Int))
          rw [← hrf, ← heo] at XE
          have HRF := hide (And.intro hrf heo)
          clear t3 hrf heo
          go_wp2_with fail
          refine XE.out.mono ?_
          rintro _ w4 ⟨ha, hc, da, dc, rfl, _, b4⟩
          generalize (seX n X.B (i : Int)).head.length = hl1 at *
          generalize (seX n X.B (i : Int)).data.length = dl1 at *
          have b5 := b4.alloc b4.size (.cells #[.int .i64 rf, .slice ha hl1 hc, .slice da dl1 dc] 35)
          have y0 : (w4.alloc (.cells #[.int .i64 rf, .slice ha hl1 hc, .slice da dl1 dc] 35)).cell? ⟨w4.heap.size, 0, none⟩ = some (.int .i64 rf) := by rw [cell_of_row _ w4.heap.size 0 _ 35 (0, 0) (heap_alloc_new w4 _)]; rfl
          have B5 := hide (hB.out.trans (b5.mono hB.out.size))
          have t5 := H.out.later B5.out
          have c45 := t5.c4
          have XR := hide (rSee_any (RQ.rf t5.r).pool (i : Int))
          rw [← HRF.out.1, ← HRF.out.2] at XR
          have SL : Hid (w4.heap.size < (w4.alloc (.cells #[.int .i64 rf, .slice ha hl1 hc, .slice da dl1 dc] 35)).heap.size) := by unfold Hid; simp
          have Y0 := hide y0
          clear t5 b4 b5 XE c1 c4 kp hB y0 HRF
          go_upto_region 9 with fail
          obtain ⟨sa, hsa⟩ : ∃ sa, sa = w4.heap.size := ⟨_, rfl⟩
          rw [← hsa] at Y0 SL ⊢
          generalize w4.alloc (.cells #[.int .i64 rf, .slice ha hl1 hc, .slice da dl1 dc] 35) = w5 at *
          clear hsa
          go_wp2_with fail
          refine XR.out.mono ?_
          rintro _ w6 ⟨hv, dv, rfl, i1, i2, b6⟩
          obtain ⟨ga, gc, rfl, _⟩ := i1.shape
          obtain ⟨ea, ec, rfl, _⟩ := i2.shape
          generalize (seX n X.B (i : Int)).head.length = hl2 at *
          generalize (seX n X.B (i : Int)).data.length = dl2 at *
          have z6 : Below w6.heap.size w6 (w6.alloc (.cells #[.int .i64 rf, .slice ga hl2 gc, .slice ea dl2 ec] 35)) := (Below.refl _ _).alloc (Nat.le_refl _) _
          have y06 := (z6.cell (p := ⟨sa, 0, none⟩) (Nat.lt_of_lt_of_le SL.out b6.size)).trans ((b6.cell (p := ⟨sa, 0, none⟩) SL.out).trans Y0.out)
          have v0 : (w6.alloc (.cells #[.int .i64 rf, .slice ga hl2 gc, .slice ea dl2 ec] 35)).cell? ⟨w6.heap.size, 0, none⟩ = some (.int .i64 rf) := by rw [cell_of_row _ w6.heap.size 0 _ 35 (0, 0) (heap_alloc_new w6 _)]; rfl
          have B7 := hide (B5.out.trans ((b6.trans (z6.mono b6.size)).mono B5.out.size))
          clear i1 i2 b6 z6 XR c45 B5 Y0 SL
          go_upto_region 10 with fail
          obtain ⟨sc, hsc⟩ : ∃ sc, sc = w6.heap.size := ⟨_, rfl⟩
          rw [← hsc] at v0 ⊢
          generalize w6.alloc (.cells #[.int .i64 rf, .slice ga hl2 gc, .slice ea dl2 ec] 35) = w7 at *
          clear hsc
          go_wp2
          go_roundw
          case rel => exact ⟨i + 1, by go_num, hlt, B7.out⟩
          case measure => simp [intOf]; omega
        · obtain rfl : i = n := by omega
          have zi : ¬ (i : Int) < (i : Int) := by omega
          have Q0 : Hid (Two ρ wr x q k i X X (.slice ta T.length tc) (.slice ca C.length cc) ov mv Cm Mn ∧ Mv ρ w ρ wr) := ⟨t3, Mv.below H.out.lt hB.out⟩
          clear t3
          go_wp2
          clear c1 c4 kp hB
          go_loopw [10] (fun v10 wr2 => ∃ j : Nat, v10 = .int .i64 (j : Int) ∧ j ≤ 8 ∧ Hid (Two ρ wr2 x q k i X X (.slice ta T.length tc) (.slice ca C.length cc) ov mv Cm Mn ∧ Mv ρ w ρ wr2)) (fun v10 _ => 8 - (intOf v10).toNat)
          case atStart => exact ⟨0, rfl, by omega, Q0.out⟩
          case round =>
            clear Q0
            obtain ⟨j, rfl, hj, hQ⟩ := hrel
            by_cases hj8 : j < 8
            · have zj : (j : Int) < 8 := by omega
              by_cases h6 : j = 6
              · subst h6
                go_wp2
                go_roundw
                case rel => exact ⟨7, rfl, by omega, hQ.out⟩
                case measure => simp [intOf]
              · have z6 : ((j : Int) == 6) = false := by rw [beq_eq_false_iff_ne]; omega
                have XR := hide (Read_any hQ.out.1.p.p.dev (j : Int))
                obtain ⟨r, hr⟩ : ∃ r, r = X.D.r j := ⟨_, rfl⟩
                rw [rdV_of X.D j (by omega), rdD_of X.D (j : Int) (by omega), show rdE (j : Int) = 0 by unfold rdE; rw [if_pos (by omega)], ← hr] at XR
                have c0 := hQ.out.1.p.c0
                have HR := hide hr
                clear hr
                go_wp2_with fail
                refine XR.out.mono ?_
                rintro _ w8 ⟨rfl, d8, b8⟩
                have t8 := hQ.out.1.prog (X' := X) (b8.mono (fun g e => .inl e)) (hQ.out.1.p.p.onDev b8 d8)
                have m8 := hQ.out.2.trans (Mv.of hQ.out.1.lt b8 (fun g e => by have e : g = q.d := e; rw [e, hQ.out.1.q1]; omega))
                have Q8 := hide (And.intro t8 m8)
                have c38 := t8.c3
                have er := (RQ.rf t8.r).dev.creg j hj8
                rw [← HR.out] at er
                clear t8 m8 d8 b8 XR c0 hQ
                go_wp2
                go_roundw
                case rel => exact ⟨j + 1, by go_num, hj8, Q8.out⟩
                case measure => simp [intOf]; omega
            · obtain rfl : j = 8 := by omega
              have F := hide hQ.out
              clear hQ
              go_wp2
              go_ret
              exact ⟨rfl, F.out.1, F.out.2⟩

set_option maxRecDepth 100000 in
set_option maxHeartbeats 4000000 in
theorem Does_walk (many : Int) (v : Value) (l : List OpV) (W : World) (hI : IsO W.heap.size W v l) (hl : l.length ≤ 2932031007318) :
    Calls Try.prog 3 #[.int .i64 many, v] W fun e W' => e = .returned (.bool true) ∧ Below W.heap.size W W' := by
  have HI := hide hI
  obtain ⟨a, cap, rfl, _, _⟩ := hI
  have ZL : Hid (l.length ≤ 2932031007318) := hl
  have zl : (l.length : Int) ≤ 2932031007318 := by omega
  clear hl
  by_cases hmany : many < 1 ∨ 60 < many
  · have XB := hide (fun w => begun_no w many hmany)
    go_enter Try.func3, Try.ntmps3
    go_wp2_with fail
    refine (awake_any W).mono ?_
    rintro _ w1 ⟨rfl, hb1⟩
    go_wp2_with fail
    refine (XB.out w1).mono ?_
    rintro _ w2 ⟨rfl, hw⟩
    subst hw
    rcases hmany with h | h
    · go_wp2
      go_ret
      exact ⟨rfl, hb1⟩
    · have h1 : ¬ many < 1 := by omega
      go_wp2
      go_ret
      exact ⟨rfl, hb1⟩
  · obtain ⟨n, rfl⟩ : ∃ n : Nat, many = n := ⟨many.toNat, by omega⟩
    have n0 : 0 < n := by omega
    have n60 : n ≤ 60 := by omega
    have z0 : ¬ (n : Int) < 1 := by omega
    have z1 : (n : Int) ≤ 60 := by omega
    clear hmany
    go_enter Try.func3, Try.ntmps3
    go_wp2_with fail
    refine (awake_any W).mono ?_
    rintro _ w1 ⟨rfl, hb1⟩
    have B1 := hide hb1
    clear hb1
    go_wp2_with fail
    refine (begun2_yes w1 n n0 n60).mono ?_
    rintro _ w2 ⟨x, q, k, ρ, tv, cv, rfl, t2, b2, r2⟩
    have S0 : Hid (Fst W.heap.size W x q k n 0 ρ (rg0 n) (rg0 n) tv cv (.slice none 0 0) (.slice none 0 0) [] [] w2) := ⟨t2, B1.out.trans (b2.mono B1.out.size), fun g e => Nat.le_trans B1.out.size (r2 g e), inv0 n, Nat.le_refl _⟩
    clear t2 b2 r2 B1
    go_wp2
    go_loopw [7] (fun v7 wr => ∃ (i : Nat) (ρ : Nat → Nat) (X : Rg) (tv cv ov mv : Value) (Cm Mn : List Int), v7 = .int .i64 (i : Int) ∧ i ≤ l.length ∧ Hid (Fst W.heap.size W x q k n i ρ X X tv cv ov mv Cm Mn wr)) (fun v7 _ => l.length - (intOf v7).toNat)
    case atStart => exact ⟨0, ρ, _, _, _, _, _, _, _, rfl, Nat.zero_le _, S0.out⟩
    case round =>
      clear S0
      obtain ⟨i, ρ, X, tv, cv, ov, mv, Cm, Mn, rfl, hi, hS⟩ := hrel
      by_cases hlt : i < l.length
      · have zi : (i : Int) < (l.length : Int) := by omega
        obtain ⟨o, ho⟩ : ∃ o, l[i]? = some o := ⟨_, List.getElem?_eq_getElem hlt⟩
        obtain ⟨a', cap', e', hc', hf'⟩ := HI.out.below hS.out.b
        simp only [Value.slice.injEq, true_and] at e'
        obtain ⟨rfl, rfl⟩ := e'
        obtain ⟨og, off, rfl, hog, hcs⟩ := hc' (by omega)
        obtain ⟨o0, o1, o2, o3⟩ := hcs i o ho
        obtain ⟨io, iol, ioc⟩ := hf' o (List.mem_of_getElem? ho)
        obtain ⟨kd, kk, bv, bs, ys⟩ := o
        simp only at o0 o1 o2 o3 io iol ioc
        obtain ⟨ba, bc, rfl, _⟩ := io.shape
        have XD := hide (does_any hS.out.t hS.out.i (by have := ZL.out; omega) (by have := hS.out.i.x.len; have := ZL.out; omega) (by have := hS.out.m; have := ZL.out; omega) hS.out.r kd kk ys ba bc bs iol io hS.out.b.size (ioc _ _ _ rfl))
        clear hcs hc' hf' ho io iol ioc
        go_wp2_with fail
        refine XD.out.mono ?_
        rintro _ w3 ⟨b3, ρ3, tv3, cv3, ov3, mv3, X3, Y3, Cm3, Mn3, rfl, t3, m3, i3, l3, _, hEq⟩
        obtain ⟨rfl, rfl⟩ := hEq rfl
        have F3 := hide (hS.out.mv (Nat.le_refl _) (i' := i + 1) m3 t3 i3 (by have := hS.out.m; omega))
        clear t3 m3 i3 l3 XD o0 o1 o2 o3 hS hEq
        obtain ⟨hlX, gX, zX, _⟩ := F3.out.i.x
        have XA := hide (alike_any F3.out.t zX)
        clear zX
        go_wp2_with fail
        refine XA.out.mono ?_
        rintro _ w4 ⟨rfl, t4, m4⟩
        have F4 := hide (F3.out.mv (Nat.le_refl _) (i' := i + 1) m4 t4 F3.out.i F3.out.m)
        clear t4 m4 XA F3
        go_wp2
        go_roundw
        case rel => exact ⟨i + 1, ρ3, _, _, _, _, _, _, _, by go_num, hlt, F4.out⟩
        case measure => simp [intOf]; omega
      · obtain rfl : i = l.length := by omega
        have zi : ¬ (l.length : Int) < (l.length : Int) := by omega
        have BF := hide hS.out.b
        go_wp2
        go_ret
        exact ⟨rfl, BF.out⟩
end Go.Proofs.Ytjkfjijnjkpbbaa
