
/-
  WireBrings: its walk.
-/
import Derived.Test.YtghojbgjmpjhgaaB5
namespace Go.Proofs.Ytghojbgjmpjhgaa
open Go.RowKit

set_option maxRecDepth 100000 in
set_option maxHeartbeats 16000000 in
theorem Brings_walk (v : Value) (l : List OpV) (W : World) (hI : IsO W.heap.size W v l) (hl : l.length ≤ 2513169434843) :
    Calls Try.prog 4 #[v] W fun e W' => e = .returned (.bool true) ∧ Below W.heap.size W W' := by
  have HI := hide hI
  obtain ⟨a, cap, rfl, _, _⟩ := hI
  go_enter Try.func4, Try.ntmps4
  go_wp2_with fail
  refine (awake_any W).mono ?_
  rintro e w1 ⟨rfl, hb1⟩
  go_wp2_with fail
  refine (begun_any w1).mono ?_
  rintro e w2 ⟨rfl, ⟨b, rb, dv, rdv, h2⟩, hb2⟩
  obtain ⟨P, hP⟩ : ∃ P : Pl, P = ⟨w1.heap.size, b, rb, dv, rdv, w1.heap.size⟩ := ⟨_, rfl⟩
  have hPx : w1.heap.size = P.x := by rw [hP]
  have HPN : Hid (W.heap.size ≤ P.n₀) := by rw [hP]; exact hb1.size
  rw [← hP] at h2
  rw [hPx]
  have R2 := hide h2
  have B2 := hide (hb1.trans (hb2.mono hb1.size))
  clear h2 hb1 hb2 hP hPx
  go_wp2
  go_loopw [5, 6, 7, 8] (fun v5 v6 v7 v8 wr => ∃ (i n : Nat) (ρ : Nat → Nat) (ck : Int) (L : Nat → List (Value × Frm)) (D : Nat → Dev) (T F : Nat → Nat) (S : Nat → List (List Int)) (TT : Nat → List Int) (tk : Nat → Nat) (BS : List (List Int)) (PT LF : List Int) (pa ba la : Option Addr) (pc bc lc : Nat), v8 = .int .i64 (i : Int) ∧ v5 = .slice pa n pc ∧ v6 = .slice ba n bc ∧ v7 = .slice la n lc ∧ i ≤ l.length ∧ n ≤ 60000 ∧ Hid (BS.length = n) ∧ Hid (Mem P ρ wr ck L D T F i (.slice pa n pc) (.slice ba n bc) (.slice la n lc) BS PT LF) ∧ Hid (Brg ck (ab L) D F S TT tk BS PT LF i) ∧ Hid (∀ j, j < 2 → T j = (S j).length % 16) ∧ Hid (Below W.heap.size W wr)) (fun _ _ _ vi _ => l.length - (intOf vi).toNat)
  case atStart => exact ⟨0, 0, _, _, _, _, _, _, fun _ => [], fun _ => [], fun _ => 0, [], [], [], none, none, none, 0, 0, 0, rfl, rfl, rfl, rfl, Nat.zero_le _, by omega, rfl, ⟨R2.out.toHalf, rws0 _ _⟩, brg0, fun _ _ => rfl, B2.out⟩
  case round =>
    obtain ⟨i, n, ρ, ck, L, D, T, F, S, TT, tk, BS, PT, LF, pa, ba, la, pc, bc, lc, rfl, rfl, rfl, rfl, hi, hn6, hN, hM, hG, hT, hB⟩ := hrel
    clear R2 B2
    by_cases hlt : i < l.length
    · obtain ⟨a', cap', e', hc, hf⟩ := HI.out.below hB.out
      simp only [Value.slice.injEq] at e'
      obtain ⟨rfl, _, rfl⟩ := e'
      obtain ⟨gl, off, rfl, hgl, hcs⟩ := hc (by omega)
      obtain ⟨o, ho⟩ : ∃ o, l[i]? = some o := ⟨l[i], List.getElem?_eq_getElem hlt⟩
      obtain ⟨q0, q1, q2, q3, q4⟩ := hcs i o ho
      obtain ⟨hbv, hbl, hby⟩ := hf o (List.mem_of_getElem? ho)
      obtain ⟨dd, dc, ed, _, _⟩ := hbv.shape
      obtain ⟨kd, od, ok, ot, odv, ods⟩ := o
      simp only at q0 q1 q2 q3 q4 hbv hbl ed
      subst ed
      have zi : (i : Int) < (l.length : Int) := by omega
      have zl : (l.length : Int) ≤ 2513169434843 := by omega
      have HM : Hid (i ≤ 2513169434843) := by unfold Hid; omega
      have HLI : Hid (i < l.length) := hlt
      have FV := hide (hbv.alloc (.cells #[.int .i64 kd, .int .i64 od, .int .i64 ok, .int .i64 ot, .slice dd ods.length dc] 29))
      have FL := hide hbl
      have FY := hide hby
      have bx : Below wr.heap.size wr (wr.alloc (.cells #[.int .i64 kd, .int .i64 od, .int .i64 ok, .int .i64 ot, .slice dd ods.length dc] 29)) := (Below.refl _ _).alloc (Nat.le_refl _) _
      have M3 := hide (hM.out.later bx)
      have B3 := hide (hB.out.trans (bx.mono hB.out.size))
      have F5 := Five.new wr kd od ok ot (.slice dd ods.length dc) 29
      have NS : Hid (ρ wr.heap.size = 0) := hM.out.fresh0
      obtain ⟨s, hs⟩ : ∃ s, s = wr.heap.size := ⟨_, rfl⟩
      rw [← hs] at F5 NS
      have hs' := hs
      clear hcs hf hc ho hbv hbl hby bx hM hB hs hlt
      go_upto_region 12 with fail
      rw [← hs']
      clear hs' q0 q1 q2 q3 q4
      generalize wr.alloc (.cells #[.int .i64 kd, .int .i64 od, .int .i64 ok, .int .i64 ot, .slice dd ods.length dc] 29) = w3 at *
      have F5H := hide F5
      have LOW := hide M3.out.h.low
      have NXT : Hid (∀ W', But (Mine ρ) w3 W' → Below W.heap.size W W') := fun W' hb => below_mine B3.out hb (fun g e => Nat.le_trans HPN.out (LOW.out g e))
      by_cases k0 : kd = 0
      · subst k0
        by_cases hbig : 60000 ≤ n
        · obtain ⟨c0, _, _, _, _⟩ := F5
          have zb : (60000 : Int) ≤ (n : Int) := by omega
          go_wp2
          go_ret
          exact ⟨rfl, B3.out⟩
        have xn : (n : Int) < 60000 := by omega
        have HN6 := hide hn6
        have HNB := hide hbig
        clear hn6 hbig
        obtain ⟨c0, _, _, _, _⟩ := F5
        have xm : ¬ (60000 : Int) ≤ (n : Int) := by omega
        have xd : decide ((60000 : Int) ≤ (n : Int)) = false := by simp only [decide_eq_false_iff_not]; omega
        clear xn
        go_upto_region 17 with fail
        clear c0 xd
        have xn : (n : Int) < 60000 := by omega
        clear xm
        have hn6 := HN6.out
        have hi2 := sd_lt od
        obtain ⟨ad, had⟩ : ∃ ad, ad = sd od := ⟨_, rfl⟩
        rw [← had] at hi2
        have XSD : Hid (∀ W, Calls Try.prog 11 #[.int .i64 od] W fun e w' => e = .returned (.int .i64 (ad : Int)) ∧ w' = W) := fun W => by rw [had]; exact side_any od W
        clear had
        obtain ⟨A, hA'⟩ : ∃ A, A = n / 256 := ⟨_, rfl⟩
        obtain ⟨C, hC'⟩ : ∃ C, C = n % 256 := ⟨_, rfl⟩
        have hA1 : (n : Int) / 256 = (A : Int) := by omega
        have hA2 : IntKind.u8.wrap (A : Int) = (A : Int) := by simp only [IntKind.wrap, IntKind.signed, IntKind.bits]; simp; omega
        have hA3 : IntKind.i64.wrap (A : Int) = (A : Int) := by simp only [IntKind.wrap, IntKind.signed, IntKind.bits]; simp; omega
        have hC1 : IntKind.u8.wrap (n : Int) = (C : Int) := by simp only [IntKind.wrap, IntKind.signed, IntKind.bits]; simp; omega
        have hI1 : IntKind.u8.wrap (ad : Int) = (ad : Int) := by simp only [IntKind.wrap, IntKind.signed, IntKind.bits]; simp; omega
        have HA' := hide hA'
        have HC' := hide hC'
        have keepS : Hid (∀ W : World, Below w3.heap.size w3 W → (W.cell? ⟨s, 1, none⟩ = some (.int .i64 od) ∧ W.cell? ⟨s, 4, none⟩ = some (.slice dd ods.length dc))) := fun W hb => by
          have k5 := F5H.out.but (But.of_below (K := fun _ => False) hb) id
          exact ⟨k5.c1, k5.c4⟩
        have q2 : Below w3.heap.size w3 w3.drew := ⟨rfl, rfl, rfl, Nat.le_refl _, fun _ _ => rfl⟩
        have qb : Below w3.heap.size w3 (w3.alloc (.cells #[.int .u8 (A : Int), .int .u8 (C : Int), .int .u8 (ad : Int)] 5)).drew := ⟨rfl, rfl, rfl, by simp, fun k hk => ((Below.refl _ w3).alloc (Nat.le_refl _) _).block k hk⟩
        have GX : Hid (Gro w3.heap.size (w3.alloc (.cells #[.int .u8 (A : Int), .int .u8 (C : Int), .int .u8 (ad : Int)] 5)).drew (.slice (some ⟨w3.heap.size, 0, none⟩) 3 3) [(A : Int), (C : Int), (ad : Int)]) := by
          have := World.ownsRow_lit (base := w3.heap.size) w3 (e := 5) (size := 1) #[.int .u8 (A : Int), .int .u8 (C : Int), .int .u8 (ad : Int)] 3 (Nat.le_refl _) (by decide) rfl
          exact row_keep this ((But.refl (fun _ => False) _).drew) (fun _ _ => id)
        have FVb := hide (FV.out.later qb)
        obtain ⟨bL, hbL⟩ : ∃ bL, bL = (A : Int) :: (C : Int) :: (ad : Int) :: ods := ⟨_, rfl⟩
        have EL : Hid ([(A : Int), (C : Int), (ad : Int)] ++ ods = bL) := by rw [hbL]; rfl
        have HBL := hide hbL
        have FLb : Hid (3 + ods.length ≤ 140737488355328) := by have := FL.out; unfold Hid; omega
        clear hA' hC' hbL
        go_region_held_law (fun W => W.cell? ⟨s, 1, none⟩ = some (.int .i64 od) ∧ W.cell? ⟨s, 4, none⟩ = some (.slice dd ods.length dc)) (exact keepS.out _ (by assumption))
          (first
            | (refine step_more rfl _ _ rfl rfl _ _ [(A : Int), (C : Int), (ad : Int)] ods (by simp [Act.eval]) (by simp [Act.eval]) GX.out FVb.out (by simp) FLb.out bL EL.out ?_; intro a4 cap4 w4 hG4 hb4; have q4 : Below w3.heap.size w3 w4 := qb.trans hb4; have G4 := hide hG4; clear hG4 hb4)
            | (refine step_call rfl 11 #[.int .i64 od] (by simp [Act.eval, go_sem]) (XSD.out _) (fun e w' h => by obtain ⟨rfl, _⟩ := h; exact ⟨_, rfl⟩) ?_; rintro _ _ ⟨hre, rfl⟩; cases hre))
        simp only [List.getElem_toArray, List.getElem_cons_succ, List.getElem_cons_zero, List.set_cons_succ, List.set_cons_zero, List.setIfInBounds_toArray]
        have M4 := hide (M3.out.later q4)
        have F54 := hide (F5H.out.but (But.of_below (K := fun _ => False) q4) id)
        have VB := hide (G4.out.isF (A := Mine ρ) (fun g hg e => by have := M3.out.h.n.lt g e; omega))
        have BM4 : Hid (But (Mine ρ) w3 w4) := But.of_below q4
        have lbL : bL.length = 3 + ods.length := by rw [HBL.out]; simp; omega
        have CB := hide (hG.out.car ad hi2)
        obtain ⟨t, ht⟩ : ∃ t, t = T ad := ⟨_, rfl⟩
        have HT := hide ht
        have ht2 : t = (S ad).length % 16 := by rw [ht]; exact hT.out ad hi2
        have htb : t < 16 := by omega
        have CT : Hid (∀ W, Cells P W T F → W.cell? ⟨P.x, 6 + ad, none⟩ = some (.int .i64 (t : Int))) := fun W c => by rw [ht]; exact c.ct ad hi2
        have OK1 := hide ((M4.out.h.n.ok ad hi2).st (t : Int) bL)
        have BYT : Hid (Byt bL) := by
          show Byt bL
          rw [HBL.out]
          intro b hb
          rcases List.mem_cons.1 hb with rfl | hb
          · omega
          · rcases List.mem_cons.1 hb with rfl | hb
            · have := HC'.out; omega
            · rcases List.mem_cons.1 hb with rfl | hb
              · omega
              · exact FY.out b hb
        have DI1 := hide ((M4.out.h.i.dv ad hi2).st (t : Int) bL BYT.out)
        have X := SetTx_any (M4.out.drew.h.n.dev ad hi2) (M4.out.h.n.ok ad hi2) (fun g e => M4.out.h.n.lt g e) (t : Int) _ bL VB.out.drew (by have := FLb.out; omega)
        have zi : (ad : Int) < 2 := by omega
        have zi0 : (0 : Int) ≤ (ad : Int) := by omega
        have K4 : Hid (∀ W, But (Mid ρ) w4 W → W.cell? ⟨P.x, ad, none⟩ = some (.pointer (some ⟨P.dv ad, 0, none⟩)) ∧ W.cell? ⟨P.x, 6 + ad, none⟩ = some (.int .i64 (t : Int)) ∧ W.cell? ⟨s, 1, none⟩ = some (.int .i64 od)) := fun W hb => by
          have kc := M4.out.h.c.but hb (fun e => by unfold Mid at e; rw [M4.out.h.rx] at e; omega)
          have k5 := F54.out.but hb (fun e => by unfold Mid at e; rw [NS.out] at e; omega)
          exact ⟨kc.cd ad hi2, CT.out W kc, k5.c1⟩
        have q5 : But (Mid ρ) w4 w4.drew := (But.refl _ _).drew
        have HLB := hide lbL
        have HT2 := hide ht2
        obtain ⟨er, her⟩ : ∃ er, er = (D ad).stE (t : Int) bL := ⟨_, rfl⟩
        obtain ⟨D1, hD1⟩ : ∃ D1, D1 = (D ad).stD (t : Int) bL := ⟨_, rfl⟩
        rw [← her, ← hD1] at X
        rw [← hD1] at OK1 DI1
        have HER := hide her
        have HD1 := hide hD1
        have HX := hide X
        clear ht2 X her hD1 lbL q2 qb GX FVb keepS q4 G4 hA1 hA2 hA3 hC1 hI1 ht
        go_upto_region 18 with fail
        go_region_held (fun W => W.cell? ⟨P.x, ad, none⟩ = some (.pointer (some ⟨P.dv ad, 0, none⟩)) ∧ W.cell? ⟨P.x, 6 + ad, none⟩ = some (.int .i64 (t : Int)) ∧ W.cell? ⟨s, 1, none⟩ = some (.int .i64 od)) (exact K4.out _ (by assumption))
          (first
            | (go_at_call 11; refine (XSD.out _).mono ?_; rintro _ _ ⟨rfl, rfl⟩)
            | (go_at_call 12; refine HX.out.mono ?_; rintro e w5 ⟨rfl, hd5, hb5⟩; obtain ⟨m5, b5⟩ := M4.out.drew.dev ad hi2 hd5 OK1.out hb5 DI1.out; have M5 := hide m5; have q6 : But (Mid ρ) w4 w5 := q5.trans b5; clear hd5 hb5 m5 b5))
        by_cases hlen : bL.length ≤ 274
        · obtain ⟨e0, a1, ha1, hc1⟩ := CB.out.post bL (by have := HLB.out; omega) hlen
          rw [← HT2.out] at e0 hc1
          rw [← HER.out] at e0
          rw [← HD1.out] at hc1
          subst e0
          have CAR := hide hc1
          have HA1 := hide ha1
          clear hc1 ha1 hlen
          have F55 := hide (F54.out.but q6 (fun e => by unfold Mid at e; rw [NS.out] at e; omega))
          have VB5 := hide (VB.out.but q6 (fun g e => by unfold Mid at e; unfold Mine; omega))
          have BM5 := hide (BM4.out.trans (mid_mine q6))
          clear q5 q6 K4 M4 F54 VB BM4 HX
          have ET : ((t : Int) + 1) % 16 = (((t + 1) % 16 : Nat) : Int) := by omega
          have HET := hide ET
          clear ET
          have ct := CT.out _ M5.out.h.c
          have fx := M5.out.h.c.fz (6 + ad)
          have hx := M5.out.h.c.lt
          have zt : (t : Int) < 16 := by omega
          have zt0 : (0 : Int) ≤ (t : Int) := by omega
          have M6 := hide (M5.out.setT ad hi2 ((t + 1) % 16) (by omega)).drew
          have B6 : Hid (But (Mine ρ) w5 (w5.setCell ⟨P.x, 6 + ad, none⟩ (.int .i64 (((t + 1) % 16 : Nat) : Int))).drew) := (M5.out.h.setB (6 + ad) _).drew
          have hw1 : IntKind.i64.wrap ((t : Int) + 1) = (t : Int) + 1 := by simp only [IntKind.wrap, IntKind.signed, IntKind.bits]; simp; omega
          have hw2 : ((t : Int) + 1).tmod 16 = (((t + 1) % 16 : Nat) : Int) := by rw [Int.tmod_eq_emod_of_nonneg (by omega)]; omega
          have c1 := F55.out.c1
          go_upto_region 20 with fail
          go_cut [11] from 79 to 95 (fun v11 wx => v11 = .int .i64 0 ∧ Hid (wx = (w5.setCell ⟨P.x, 6 + ad, none⟩ (.int .i64 (((t + 1) % 16 : Nat) : Int))).drew))
          case first =>
            go_region_with (go_at_call 11; refine (XSD.out _).mono ?_; rintro _ _ ⟨rfl, rfl⟩)
            all_goals (go_wp2_with fail; go_meet; exact ⟨rfl, by rw [HET.out]; exact rfl⟩)
          case rest =>
          obtain ⟨rfl, hwc⟩ := hcut
          have hwc := hwc.out
          subst hwc
          clear ct fx hx hw1 hw2 c1 M5
          have HTN : Hid ((t + 1) % 16 < 16) := by unfold Hid; omega
          rw [show ((S ad).length + 1) % 16 = (t + 1) % 16 from by have := HT2.out; omega] at CAR
          have TN2 : Hid ((t + 1) % 16 = ((S ad).length + 1) % 16) := by have := HT2.out; unfold Hid; omega
          generalize (t + 1) % 16 = tn at *
          generalize (w5.setCell ⟨P.x, 6 + ad, none⟩ (.int .i64 (tn : Int))).drew = w6 at *
          have F56 := hide (F55.out.but B6.out (fun e => e NS.out))
          have VB6 := hide (VB5.out.but B6.out (fun _ e => e))
          have BM6 := hide (BM5.out.trans B6.out)
          clear F55 VB5 BM5 B6 CT
          have hdA := M6.out.drew.h.n.dev ad hi2
          rw [upd_same] at hdA
          have X8 := hide (Write_any hdA OK1.out 5 (tn : Int))
          have OK2 := hide (OK1.out.wr 5 (tn : Int))
          have DI2 := hide (DI1.out.wr M6.out.h.i.ck0.1 5 (tn : Int))
          have K6 : Hid (∀ W, But (Mid ρ) w6 W → W.cell? ⟨P.x, ad, none⟩ = some (.pointer (some ⟨P.dv ad, 0, none⟩)) ∧ W.cell? ⟨P.x, 6 + ad, none⟩ = some (.int .i64 (tn : Int)) ∧ W.cell? ⟨s, 1, none⟩ = some (.int .i64 od)) := fun W hb => by
            have kc := M6.out.h.c.but hb (fun e => by unfold Mid at e; rw [M6.out.h.rx] at e; omega)
            have k5 := F56.out.but hb (fun e => by unfold Mid at e; rw [NS.out] at e; omega)
            have k6 := kc.ct ad hi2
            rw [upd_same] at k6
            exact ⟨kc.cd ad hi2, k6, k5.c1⟩
          have q5 : But (Mid ρ) w6 w6.drew := (But.refl _ _).drew
          clear hdA
          generalize wrE 5 (tn : Int) = we at *
          go_upto_region 21 with fail
          go_region_held (fun W => W.cell? ⟨P.x, ad, none⟩ = some (.pointer (some ⟨P.dv ad, 0, none⟩)) ∧ W.cell? ⟨P.x, 6 + ad, none⟩ = some (.int .i64 (tn : Int)) ∧ W.cell? ⟨s, 1, none⟩ = some (.int .i64 od)) (exact K6.out _ (by assumption))
            (first
              | (go_at_call 11; refine (XSD.out _).mono ?_; rintro _ _ ⟨rfl, rfl⟩)
              | (go_at_call 13; refine X8.out.mono ?_; rintro e w7 ⟨rfl, hd7, hb7⟩; obtain ⟨m7, b7⟩ := M6.out.drew.dev ad hi2 hd7 OK2.out hb7 DI2.out; have M7 := hide m7; have q7 : But (Mid ρ) w6 w7 := q5.trans b7; clear hd7 hb7 m7 b7))
          have VB7 := hide (VB6.out.but q7 (fun g e => by unfold Mid at e; unfold Mine; omega))
          have BM7 := hide (BM6.out.trans (mid_mine q7))
          have m7 := M7.out
          rw [upd_upd] at m7
          have M7 := hide m7
          clear m7 q5 q7 K6 M6 F56 VB6 BM6 X8 OK2 DI2
          have hPl : PT.length = n := by rw [hG.out.lenP]; exact hN.out
          have hLl : LF.length = n := by rw [hG.out.lenL]; exact hN.out
          have hnn := hN.out
          obtain ⟨g8, c8, w8, ρ8, r8, m8, e8, b8⟩ := M7.out.addP hPl hn6 ck
          have cw := M7.out.h.c.cw
          have XN := hide (Now_any M7.out.h.n)
          have HR8 := hide r8
          have M8 := hide m8
          have VB8 := hide (VB7.out.ext b8 (fun _ e => e) e8)
          have BR8 : Hid (∀ W, But (Mine ρ8) w8 W → But (Mine ρ) w3 W) := fun W hb => (BM7.out.trans b8).trans' hb (fun g hg e => by
            unfold Mine at e ⊢
            rw [← e8 g (Nat.lt_of_lt_of_le hg BM7.out.size)]; exact e)
          obtain ⟨g9, c9, w9, ρ9, r9, m9, e9, b9⟩ := M8.out.addB hnn hn6 _ bL VB8.out
          have HR9 := hide r9
          have M9 := hide m9
          have BR9 : Hid (∀ W, But (Mine ρ9) w9 W → But (Mine ρ) w3 W) := fun W hb => BR8.out W (b9.trans' hb (fun g hg e => by
            unfold Mine at e ⊢
            rw [← e9 g hg]; exact e))
          obtain ⟨g10, c10, w10, ρ10, r10, m10, e10, b10⟩ := M9.out.addL hLl hn6 1
          have HR10 := hide r10
          have M10 := hide m10
          have BN := hide (NXT.out _ (BR9.out _ b10))
          clear r8 m8 e8 b8 r9 m9 e9 b9 r10 m10 e10 b10 hPl hLl hnn
          go_wp2_with fail
          refine XN.out.mono ?_
          rintro e wy ⟨rfl, hwy⟩
          subst hwy
          go_upto_region 23 with (at_builtin; refine wpList_app rfl _ _ 31 rfl _ _ rfl rfl HR8.out ?_)
          go_upto_region 24 with (at_builtin; refine wpList_app rfl _ _ 32 rfl _ _ rfl rfl HR9.out ?_)
          go_wp2_with (at_builtin; refine wpList_app rfl _ _ 31 rfl _ _ rfl rfl HR10.out ?_)
          go_roundw
          case rel =>
            have hcl : (D ad).clock = ck := (M3.out.h.i.dv ad hi2).clk
            have hc2 := CAR.out
            rw [hcl] at hc2
            have GN := hG.out.post ad hi2 ods bL (by rw [HBL.out, hN.out, ← HA'.out, ← HC'.out]) a1 HA1.out hc2
            exact ⟨i + 1, n + 1, ρ10, ck, L, _, _, F, _, _, _, _, _, _, some ⟨g8, 0, none⟩, some ⟨g9, 0, none⟩, some ⟨g10, 0, none⟩, c8, c9, c10, by go_num, rfl, rfl, rfl, by have := HLI.out; omega, by omega, by show (BS ++ [bL]).length = n + 1; rw [List.length_append, hN.out]; rfl, M10.out.more, GN, fun j hj => by
              by_cases e : j = ad
              · subst e; rw [upd_same, upd_same, List.length_append]; exact TN2.out
              · rw [upd_other _ _ _ _ e, upd_other _ _ _ _ e]; exact hT.out j hj, BN.out⟩
          case measure => have := HLI.out; simp [intOf]; omega
        · obtain ⟨e0, eD⟩ := CB.out.long bL (by omega)
          rw [← HT2.out] at e0 eD
          rw [← HER.out] at e0
          rw [← HD1.out] at eD
          subst e0
          have m5 := M5.out
          rw [eD, upd_self] at m5
          have M5 := hide m5.more
          have BN := hide (NXT.out _ (BM4.out.trans (mid_mine q6)))
          clear eD hlen m5 q5 q6 K4 M4 F54 VB BM4 HX
          go_wp2
          go_roundw
          case rel => exact ⟨i + 1, n, ρ, ck, L, D, T, F, S, TT, tk, BS, PT, LF, pa, ba, la, pc, bc, lc, by go_num, rfl, rfl, rfl, by have := HLI.out; omega, hn6, hN.out, M5.out, hG.out.more, hT.out, BN.out⟩
          case measure => have := HLI.out; simp [intOf]; omega
      by_cases k4 : kd = 4
      · subst k4
        have BND := hide (M3.out.h.bounds HM.out)
        have keepS : Hid (∀ W : World, Below w3.heap.size w3 W → (W.cell? ⟨P.x, 2, none⟩ = some (.pointer (some ⟨P.b, 0, none⟩)) ∧ W.cell? ⟨s, 1, none⟩ = some (.int .i64 od) ∧ W.cell? ⟨s, 2, none⟩ = some (.int .i64 ok))) := fun W hb => by
          have kc := (M3.out.later hb).h.c
          have k5 := F5H.out.but (But.of_below (K := fun _ => False) hb) id
          exact ⟨kc.cw, k5.c1, k5.c2⟩
        have XS : ∀ W, Below w3.heap.size w3 W → Calls Try.prog 15 #[.pointer (some ⟨P.b, 0, none⟩), .int .i64 od, .int .i64 ok] W fun e w' => ∃ a c, e = .returned (.tuple #[.agg #[.slice a (lkA (ab L) od ok).bs.length c, .bool (lkA (ab L) od ok).bad, .int .i64 (lkA (ab L) od ok).tick], .int .i64 (thE (fun i => (ab L i).length) od ok)]) ∧ Gro W.heap.size w' (.slice a (lkA (ab L) od ok).bs.length c) (lkA (ab L) od ok).bs ∧ Below W.heap.size W w' := fun W hb => by
          have := See_any (M3.out.later hb).h.n od ok
          rw [look_ab, ← lens_ab] at this
          exact this
        have DB : Hid (dbA (ab L) od ok = if thE (fun i => (ab L i).length) od ok = 0 then upd (ab L) od.toNat (ab L od.toNat ++ [lkA (ab L) od ok]) else ab L) := by
          unfold dbA lkA
          by_cases e : thE (fun i => (ab L i).length) od ok = 0
          · rw [if_pos e, if_pos e, if_pos e]; exact rfl
          · rw [if_neg e, if_neg e]; exact rfl
        have LKE : Hid (thE (fun i => (ab L i).length) od ok = 0 → ∃ a j : Nat, od = (a : Int) ∧ a < 2 ∧ ok = (j : Int) ∧ (ab L a)[j]? = some (lkA (ab L) od ok)) := fun e => by
          obtain ⟨a, rfl, ha, j, rfl, hj⟩ := thE_dir e
          obtain ⟨f, hf⟩ : ∃ f, (ab L a)[j]? = some f := ⟨_, List.getElem?_eq_getElem hj⟩
          exact ⟨a, j, rfl, ha, rfl, by rw [(lk_i ha hf).1]; exact hf⟩
        have XB := hide (fun (w5 : World) (h5 : Net ρ w5 P.b P.dv ck L D) => pDouble h5 BND.out.2.2.2 od ok)
        obtain ⟨f, hf⟩ : ∃ f, f = lkA (ab L) od ok := ⟨_, rfl⟩
        obtain ⟨er, her⟩ : ∃ er, er = thE (fun i => (ab L i).length) od ok := ⟨_, rfl⟩
        rw [← hf, ← her] at XS DB LKE
        rw [← her] at XB
        have HXS := hide XS
        have q2 : Below w3.heap.size w3 w3.drew := ⟨rfl, rfl, rfl, Nat.le_refl _, fun _ _ => rfl⟩
        have IV := hide (M3.out.h.i.double od ok)
        clear hf her XS
        obtain ⟨c0, _, _, _, _⟩ := F5
        go_upto_region 26 with fail
        clear c0
        go_cut [12, 13] from 130 to 141 (fun v12 v13 wx => ∃ (s5 : Nat) (fa : Option Addr) (fc : Nat), v12 = .pointer (some ⟨s5, 0, none⟩) ∧ v13 = .int .i64 er ∧ Hid (T3 wx s5 (.slice fa f.bs.length fc) (.bool f.bad) (.int .i64 f.tick)) ∧ Hid (IsF (Mine ρ) wx (.slice fa f.bs.length fc) f.bs) ∧ Hid (ρ s5 = 0) ∧ Hid (Below w3.heap.size w3 wx))
        case first =>
          have qa : Below w3.heap.size w3 (w3.alloc (.cells #[.slice none 0 0, .bool false, .int .i64 0] 48)).drew := ⟨rfl, rfl, rfl, by simp, fun k hk => ((Below.refl _ w3).alloc (Nat.le_refl _) _).block k hk⟩
          have T0 := hide ((T3.new w3 (.slice none 0 0) (.bool false) (.int .i64 0) 48).later (W' := (w3.alloc (.cells #[.slice none 0 0, .bool false, .int .i64 0] 48)).drew) ⟨rfl, rfl, rfl, Nat.le_refl _, fun _ _ => rfl⟩)
          go_region_held (fun W => W.cell? ⟨P.x, 2, none⟩ = some (.pointer (some ⟨P.b, 0, none⟩)) ∧ W.cell? ⟨s, 1, none⟩ = some (.int .i64 od) ∧ W.cell? ⟨s, 2, none⟩ = some (.int .i64 ok)) (first | exact keepS.out _ (by assumption) | exact keepS.out _ (undrew qa) | exact keepS.out _ (q4.alloc q4.size _) | exact keepS.out _ (((q4.setCell (p := ⟨w3.heap.size, 0, none⟩) (Nat.le_refl _) _).setCell (p := ⟨w3.heap.size, 1, none⟩) (Nat.le_refl _) _).setCell (p := ⟨w3.heap.size, 2, none⟩) (Nat.le_refl _) _))
            (first
              | (go_at_call 15; refine (HXS.out _ qa).mono ?_; rintro e w4 ⟨fa, fc, rfl, hG4, hb4⟩; have q4 : Below w3.heap.size w3 w4 := qa.trans (hb4.mono qa.size); have G4 := hide hG4; have t4 := T0.out.later hb4; obtain ⟨t0, t1, t2, f0, f1, f2⟩ := t4; have BB4 := hide hb4; clear hG4 hb4)
              | (go_at_call 15; refine (HXS.out _ q2).mono ?_; rintro e w4 ⟨fa, fc, rfl, hG4, hb4⟩; have q4 : Below w3.heap.size w3 w4 := q2.trans hb4; have G4 := hide hG4; clear hG4 hb4))
          · have BE5 : Below w3.heap.size w3 (w4.alloc (.cells #[.slice fa f.bs.length fc, .bool f.bad, .int .i64 f.tick] 48)) := q4.alloc q4.size _
            have t5 := T3.new w4 (.slice fa f.bs.length fc) (.bool f.bad) (.int .i64 f.tick) 48
            have G5 := hide ((G4.out.isF (A := Mine ρ) (fun g hg e => by have h1 : w3.heap.size ≤ g := hg; have := M3.out.h.n.lt g e; omega)).alloc (.cells #[.slice fa f.bs.length fc, .bool f.bad, .int .i64 f.tick] 48))
            obtain ⟨s5, hs5⟩ : ∃ s5, s5 = w4.heap.size := ⟨_, rfl⟩
            have NS5 : Hid (ρ s5 = 0) := by
              by_cases e : ρ s5 = 0
              · exact e
              · have := M3.out.h.n.lt s5 e; have := q4.size; omega
            rw [← hs5] at t5 ⊢
            have T5 := hide t5
            have HBE := hide BE5
            clear t5 hs5 G4 q4 BE5 q2 qa T0 HXS keepS
            go_wp2_with fail
            go_meet
            case rel => exact ⟨s5, fa, fc, rfl, rfl, T5.out, G5.out, NS5.out, HBE.out⟩
          · obtain ⟨s5, hs5⟩ : ∃ s5, s5 = w3.heap.size := ⟨_, rfl⟩
            rw [← hs5] at t0 t1 t2 f0 f1 f2 ⊢
            have BE5 : Below w3.heap.size w3 (((w4.setCell ⟨s5, 0, none⟩ (.slice fa f.bs.length fc)).setCell ⟨s5, 1, none⟩ (.bool f.bad)).setCell ⟨s5, 2, none⟩ (.int .i64 f.tick)) := ((q4.setCell (p := ⟨s5, 0, none⟩) (by rw [hs5]; exact Nat.le_refl _) _).setCell (p := ⟨s5, 1, none⟩) (by rw [hs5]; exact Nat.le_refl _) _).setCell (p := ⟨s5, 2, none⟩) (by rw [hs5]; exact Nat.le_refl _) _
            have t5 := T3.put ⟨t0, t1, t2, f0, f1, f2⟩ (.slice fa f.bs.length fc) (.bool f.bad) (.int .i64 f.tick)
            have g4 : IsF (fun g => Mine ρ g ∨ g = s5) w4 (.slice fa f.bs.length fc) f.bs := G4.out.isF (fun g hg e => by
              have h1 : w3.heap.size + 1 ≤ g := by simpa using hg
              rcases e with e | e
              · have := M3.out.h.n.lt g e; omega
              · omega)
            have G5 := hide ((g4.but (T3.putB (s := s5) (.slice fa f.bs.length fc) (.bool f.bad) (.int .i64 f.tick)) (fun g e => .inr e)).avoid (A' := Mine ρ) (fun g _ e => .inl e))
            have NS5 : Hid (ρ s5 = 0) := by rw [hs5]; exact M3.out.fresh0
            have T5 := hide t5
            have HBE := hide BE5
            clear t5 hs5 g4 G4 q4 BE5 q2 qa T0 HXS keepS t0 t1 t2 f0 f1 f2 BB4
            go_wp2_with fail
            go_meet
            case rel => exact ⟨s5, fa, fc, rfl, rfl, T5.out, G5.out, NS5.out, HBE.out⟩
        case rest =>
        obtain ⟨s5, fa, fc, rfl, rfl, T5, G5, NS5, BE5⟩ := hcut
        have M5 := hide (M3.out.later BE5.out)
        have F55 := hide (F5H.out.but (But.of_below (K := fun _ => False) BE5.out) id)
        have BM5 : Hid (But (Mine ρ) w3 wc) := But.of_below BE5.out
        clear q2 HXS keepS BE5
        generalize hwc : wc = w5 at *
        clear hwc
        have q2 : But (Mid ρ) w5 w5.drew := (But.refl _ _).drew
        have kS : Hid (∀ W : World, But (Mid ρ) w5 W → (W.cell? ⟨P.x, 2, none⟩ = some (.pointer (some ⟨P.b, 0, none⟩)) ∧ W.cell? ⟨s, 1, none⟩ = some (.int .i64 od) ∧ W.cell? ⟨s, 2, none⟩ = some (.int .i64 ok))) := fun W hb => by
          have kc := M5.out.h.c.but hb (fun e => by unfold Mid at e; rw [M5.out.h.rx] at e; omega)
          have k5 := F55.out.but hb (fun e => by unfold Mid at e; rw [NS.out] at e; omega)
          exact ⟨kc.cw, k5.c1, k5.c2⟩
        go_upto_region 27 with fail
        go_region_held (fun W => W.cell? ⟨P.x, 2, none⟩ = some (.pointer (some ⟨P.b, 0, none⟩)) ∧ W.cell? ⟨s, 1, none⟩ = some (.int .i64 od) ∧ W.cell? ⟨s, 2, none⟩ = some (.int .i64 ok)) (exact kS.out _ (by assumption))
          (first
            | (go_at_call 16; refine (XB.out _ M5.out.drew.h.n).mono ?_; rintro e w6 ⟨rfl, L6, hD, hA⟩; obtain ⟨ρ6, m6, e6, b6⟩ := M5.out.drew.did hD (by rw [hA]; exact IV.out); have M6 := hide m6; have HA := hide hA; have E6 := hide e6; have q3 : But (Mid ρ) w5 w6 := q2.trans b6; clear hD hA m6 e6 b6))
        have T6 := hide (T5.out.but q3 (fun e => by unfold Mid at e; rw [NS5.out] at e; omega))
        have G6 := hide (G5.out.but q3 (fun g e => by unfold Mid at e; unfold Mine; omega))
        have B6 := hide (BM5.out.trans (mid_mine q3))
        have BR6 : Hid (∀ W, But (Mine ρ6) w6 W → But (Mine ρ) w3 W) := fun W hb => B6.out.trans' hb (fun g hg e => by
          have hq : g < w5.drew.heap.size := Nat.lt_of_lt_of_le hg BM5.out.size
          unfold Mine at e ⊢
          rw [← E6.out g hq]; exact e)
        clear q2 q3 kS M5 F55 G5
        obtain ⟨s0, s1, s2, _, _, _⟩ := T6.out
        by_cases e0 : er = 0
        · subst e0
          have hdb := DB.out
          rw [if_pos rfl] at hdb
          obtain ⟨ad, j, rfl, had, rfl, hfr⟩ := LKE.out rfl
          rw [Int.toNat_natCast] at hdb
          cases hbd : f.bad with
          | true =>
            rw [hbd] at s1
            have GN : Hid (Brg ck (ab L6) D F S TT tk BS PT LF (i + 1)) := by
              rw [HA.out, hdb]; exact hG.out.twiceB had hfr hbd
            have BN := hide (NXT.out _ B6.out)
            clear hdb hfr
            go_wp2
            go_roundw
            case rel => exact ⟨i + 1, n, ρ6, ck, L6, D, T, F, S, TT, tk, BS, PT, LF, pa, ba, la, pc, bc, lc, by go_num, rfl, rfl, rfl, by have := HLI.out; omega, hn6, hN.out, M6.out, GN.out, hT.out, BN.out⟩
            case measure => have := HLI.out; simp [intOf]; omega
          | false =>
            rw [hbd] at s1
            obtain ⟨z0, z1, z2, z3, r, z4⟩ := hG.out.known had hfr hbd
            have GN := hide (hG.out.twice had hfr hbd)
            rw [← hdb, ← HA.out] at GN
            obtain ⟨q, hq⟩ : ∃ q, q = numN f.bs := ⟨_, rfl⟩
            rw [← hq] at z0 z1 z2 z3 z4 GN
            obtain ⟨lf, hlf⟩ : ∃ lf, lf = LF[q]?.getD 0 := ⟨_, rfl⟩
            rw [← hlf] at z3 GN
            have hLl := hG.out.lenL
            have hnn := hN.out
            have hlf2 : LF[q]? = some lf := by rw [hlf, List.getElem?_eq_getElem (by omega)]; rfl
            have hub : lf ≤ (i : Int) + 1 := by rw [hlf, List.getElem?_eq_getElem (by omega)]; exact hG.out.lfb _ (List.getElem_mem _)
            obtain ⟨A, hA'⟩ : ∃ A, A = q / 256 := ⟨_, rfl⟩
            obtain ⟨C, hC'⟩ : ∃ C, C = q % 256 := ⟨_, rfl⟩
            rw [← hA', ← hC'] at z4
            have EQ : 256 * (A : Int) + (C : Int) = (q : Int) := by omega
            have zA : (A : Int) ≤ 255 := by omega
            have zC : (C : Int) ≤ 255 := by omega
            have h3 : 3 ≤ f.bs.length := by rw [z4]; simp
            have xq : (q : Int) < (n : Int) := by omega
            have xq0 : (0 : Int) ≤ (q : Int) := by omega
            have xn : (n : Int) ≤ 60000 := by omega
            obtain ⟨gx, off', rfl, hgx, _, ycell⟩ : ∃ b off, fa = some ⟨b, off, none⟩ ∧ b < w6.heap.size ∧ ¬ Mine ρ b ∧ ∀ j, j < f.bs.length → w6.cell? ⟨b, off + j, none⟩ = some (.int .u8 (f.bs[j]?.getD 0)) := by
              obtain ⟨a0, cap0, e0, _, _, hc0⟩ := G6.out
              simp only [Value.slice.injEq] at e0
              obtain ⟨rfl, _, _⟩ := e0
              exact hc0 (by omega)
            have y0 : w6.cell? ⟨gx, off', none⟩ = some (.int .u8 (A : Int)) := by have := ycell 0 (by omega); rw [z4] at this; exact this
            have y1 : w6.cell? ⟨gx, off' + 1, none⟩ = some (.int .u8 (C : Int)) := by have := ycell 1 (by omega); rw [z4] at this; exact this
            have hLn : 0 < n := by omega
            have hRL : w6.ownsRow 0 3 1 (.slice la n lc) n (LF.map (Value.int .i64)) := by have := M6.out.r.l; rw [hLl, hnn] at this; exact this
            obtain ⟨gl2, rfl⟩ := row_some hRL hLn
            have l0 : w6.cell? ⟨gl2, q, none⟩ = some (.int .i64 lf) := int_cellAt hRL (by omega) hlf2
            have fzl : w6.frozen? ⟨gl2, q, none⟩ = false := World.ownsRow.frozenAt hRL q
            obtain ⟨ρ7, m7, _, b7⟩ := M6.out.drew.setL (by rw [hLl]; exact hnn) q (lf + 1)
            have M7 := hide m7
            have BN := hide (NXT.out _ (BR6.out _ ((But.refl (Mine ρ6) w6).drew.trans b7)))
            obtain ⟨ln, hln⟩ : ∃ ln, ln = f.bs.length := ⟨_, rfl⟩
            have zl2 : (3 : Int) ≤ (ln : Int) := by omega
            rw [← hln] at s0
            clear m7 b7 hRL hlf hlf2 hLl hnn hA' hC' h3 ycell z0 z1 z2 z4 hq hdb hfr hln hgx G6
            go_upto_region 29 with fail
            go_region
            go_wp2
            go_roundw
            case rel => exact ⟨i + 1, n, ρ7, ck, L6, D, T, F, S, TT, tk, BS, PT, _, pa, ba, _, pc, bc, lc, by go_num, rfl, rfl, rfl, by have := HLI.out; omega, hn6, hN.out, M7.out, GN.out, hT.out, BN.out⟩
            case measure => have := HLI.out; simp [intOf]; omega
        · have y : (er == 0) = false := by simp [e0]
          have hdb := DB.out
          rw [if_neg e0] at hdb
          have GN : Hid (Brg ck (ab L6) D F S TT tk BS PT LF (i + 1)) := by
            rw [HA.out, hdb]; exact hG.out.more
          have BN := hide (NXT.out _ B6.out)
          clear hdb e0
          go_wp2
          go_roundw
          case rel => exact ⟨i + 1, n, ρ6, ck, L6, D, T, F, S, TT, tk, BS, PT, LF, pa, ba, la, pc, bc, lc, by go_num, rfl, rfl, rfl, by have := HLI.out; omega, hn6, hN.out, M6.out, GN.out, hT.out, BN.out⟩
          case measure => have := HLI.out; simp [intOf]; omega
      by_cases k7 : kd = 7
      · subst k7
        obtain ⟨c0, c1, c2, c3, c4⟩ := F5
        have X := hide (delivered_any M3.out hG.out HM.out hN.out hn6 od ok ot dd dc ods.length)
        go_wp2_with fail
        refine X.out.mono ?_
        rintro e w4 ⟨rfl, ρ', L', D', F', LF', m4, g4, b4⟩
        have M4 := hide m4
        have G4 := hide g4
        have B4 := hide (NXT.out _ b4)
        clear m4 g4 b4 c0 c1 c2 c3 c4 X
        go_wp2
        go_roundw
        case rel => exact ⟨i + 1, n, ρ', ck, L', D', T, F', S, TT, tk, BS, PT, LF', pa, ba, la, pc, bc, lc, by go_num, rfl, rfl, rfl, by have := HLI.out; omega, hn6, hN.out, M4.out, G4.out, hT.out, B4.out⟩
        case measure => have := HLI.out; simp [intOf]; omega
      · have y0 : (kd == 0) = false := by simp [k0]
        have y4 : (kd == 4) = false := by simp [k4]
        have y7 : (kd == 7) = false := by simp [k7]
        obtain ⟨c0, c1, c2, c3, c4⟩ := F5
        have X := hide (other_any M3.out hG.out HM.out kd od ok ot dd dc ods.length)
        clear k0 k4 k7
        go_wp2_with fail
        refine X.out.mono ?_
        rintro e w4 ⟨rfl, ρ', ck', L', D', tk', m4, g4, b4⟩
        have M4 := hide m4
        have G4 := hide g4
        have B4 := hide (NXT.out _ b4)
        clear m4 g4 b4 c0 c1 c2 c3 c4 X
        go_wp2
        go_roundw
        case rel => exact ⟨i + 1, n, ρ', ck', L', D', T, F, S, TT, tk', BS, PT, LF, pa, ba, la, pc, bc, lc, by go_num, rfl, rfl, rfl, by have := HLI.out; omega, hn6, hN.out, M4.out, G4.out, hT.out, B4.out⟩
        case measure => have := HLI.out; simp [intOf]; omega
    · obtain rfl : i = l.length := by omega
      go_wp2
      go_ret
      exact ⟨rfl, hB.out⟩
end Go.Proofs.Ytghojbgjmpjhgaa
