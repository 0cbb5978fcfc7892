
/-
  IcmpBuckets: the walk.
-/
import Derived.Test.YteiendigcaedhaaT12
namespace Go.Proofs.Yteiendigcaedhaa
open Go.RowKit Go.Shelf

/-- the slice v holds these calls, all of it below n₀ -/
def IsA (n₀ : Nat) (W : World) (v : Value) (l : List (Bool × Int)) : Prop :=
  ∃ a cap, v = .slice a l.length cap ∧ (0 < l.length → ∃ g off, a = some ⟨g, off, none⟩ ∧ g < n₀ ∧ ∀ (i : Nat) o, l[i]? = some o → CellsAt W g (off + i * 2) [.bool o.1, .int .i64 o.2])
section
variable {o : Oper} {w : World} {ev : Operand → Value}
theorem exec_gti2 (x y : Operand) (t : TypeId) (a b : Int) (r : Bool) (ho : o.op = .binOp .gtr 3 x y t) (hx : ev x = .int .i64 a) (hy : ev y = .int .i64 b) (hr : decide (b < a) = r) : (execOp ev o).run Try.prog w = .ok (.value (.bool r)) w := by
  subst hr
  unfold execOp
  simp [ho, hx, hy, go_sem]
theorem exec_ixn2 (x y : Operand) (g off n c k : Nat) (ho : o.op = .indexAddr 48 x y) (hx : ev x = .slice (some ⟨g, off, none⟩) n c) (hy : ev y = .int .i64 (k : Int)) (hk : k < n) : (execOp ev o).run Try.prog w = .ok (.value (.pointer (some ⟨g, off + k, none⟩))) w := by
  have hki : (k : Int) < n := by omega
  unfold execOp
  simp [ho, hx, hy, go_sem, hki]
end
section
variable {w : World} {ops : Array Oper} {rest : List Oper} {o : Oper} {a : Act} {Q : Exit → Act → World → Prop}
theorem wpList_appI (hgd : o.guard = none) (s x : Operand) (hop : o.op = Op.call { callee := Callee.builtin Builtin.append, args := #[s, x], argTypes := #[48, 48] }) (hty : o.type = 48) (v u : Value) (hs : a.eval s = v) (hx : a.eval x = u) {v' : Value} {w' : World}
    (hr : (Builtin.append_ #[48, 48] 48 #[v, u]).run Try.prog w = .ok v' w') (h : wpList Try.prog ops Q rest (a.put o.dst v') w') : wpList Try.prog ops Q (o :: rest) a w := by
  refine wpList_plain hgd fun K hK => ?_
  unfold Oper.wp
  simp only [execOp, hop, hty]
  simp [resolve, invoke, builtin, hs, hx, hr, Result.andThen]
  exact hK _ _ h
end
/-- all of the law's memory -/
structure BkM (w : World) (kb rb : Nat) (x y : Bk) (tv : Value) (T : List Int) (W : World) : Prop where
  p : BkAt W kb x
  r : BkAt W rb y
  row : RowN (fun g => rb < g) W tv T
  bel : Below w.heap.size w W
  br : BR x y
  tk : TkI T y
  lo : w.heap.size ≤ kb
  kr : kb < rb
theorem BkM.prog {w : World} {kb rb : Nat} {x y x' : Bk} {tv : Value} {T : List Int} {W W' : World} (h : BkM w kb rb x y tv T W) (hp : BkAt W' kb x') (hb : But (Only kb) W W') : BkAt W' kb x' ∧ BkAt W' rb y ∧ RowN (fun g => rb < g) W' tv T ∧ Below w.heap.size w W' := by
  have h1 := h.kr
  have h2 := h.lo
  exact ⟨hp, h.r.but hb (fun e => by have e : rb = kb := e; omega), h.row.but hb (fun g hg e => by have e : g = kb := e; have hg : rb < g := hg; omega), h.bel.trans (hb.below h.bel.size (fun g hg e => by have e : g = kb := e; omega))⟩
set_option maxRecDepth 100000 in
set_option maxHeartbeats 16000000 in
theorem Buckets_walk (now : Int) (lv : Value) (l : List (Bool × Int)) (w : World) (_ : -9223372036854775808 ≤ now) (_ : now ≤ 9223372036854775807) (hl : IsA w.heap.size w lv l) (_ : l.length ≤ 8796093021952) :
    Calls Try.prog 5 #[.int .i64 now, lv] w fun e w' => e = .returned (.bool true) ∧ Below w.heap.size w w' := by
  obtain ⟨la, lc, rfl, hlc⟩ := hl
  obtain ⟨n, hn⟩ : ∃ n, n = l.length := ⟨_, rfl⟩
  rw [← hn] at hlc ⊢
  have HLC := hide hlc
  have HN := hide hn
  clear hlc hn
  go_enter Try.func5, Try.ntmps5
  go_wp2_with fail
  refine (icAwake_any w).mono ?_
  rintro _ w2 ⟨rfl, b2⟩
  have HB2 := hide b2
  clear b2
  by_cases g1 : now < -1000000
  · go_wp2
    go_ret
    exact ⟨rfl, HB2.out⟩
  by_cases g2 : 1099511627776 < now
  · go_wp2
    go_ret
    exact ⟨rfl, HB2.out⟩
  by_cases g3 : (2000 : Int) < (n : Int)
  · go_wp2
    go_ret
    exact ⟨rfl, HB2.out⟩
  have NB := hide (icNewB_any now w2)
  obtain ⟨kb, hkb⟩ : ∃ kb, kb = w2.heap.size := ⟨_, rfl⟩
  rw [← hkb] at NB
  have KLO : Hid (w.heap.size ≤ kb) := by rw [hkb]; exact HB2.out.size
  go_wp2_with fail
  refine NB.out.mono ?_
  rintro _ w3 ⟨rfl, K3, b3'⟩
  have b3 : Below w2.heap.size w2 w3 := by rw [← hkb]; exact b3'
  obtain ⟨rb, hrb⟩ : ∃ rb, rb = w3.heap.size := ⟨_, rfl⟩
  obtain ⟨w4, hw4⟩ : ∃ w4, w4 = w3.alloc (.cells #[.int .i64 4, .int .i64 now, .int .i64 now] 47) := ⟨_, rfl⟩
  have b4 : Below w3.heap.size w3 w4 := by rw [hw4]; exact later_alloc _ _
  have R4 : BkAt w4 rb ⟨4, now, now⟩ := by rw [hw4, hrb]; exact ⟨CellsAt.new w3 [.int .i64 4, .int .i64 now, .int .i64 now] _, fun y => frozen_new w3 _ _ _⟩
  have OK0 : Bk.Ok ⟨4, now, now⟩ := ⟨by simp only; omega, by simp only; omega, Int.le_refl _, by simp only; omega, by simp only; omega⟩
  have KR : kb < rb := by rw [hrb]; exact K3.lt
  have M4 : Hid (BkM w kb rb ⟨4, now, now⟩ ⟨4, now, now⟩ (.slice none 0 0) [] w4) :=
    ⟨K3.later b4, R4, RowN.nil _ _, later (later HB2.out b3) b4, ⟨rfl, rfl, fun _ => rfl, fun _ => rfl, OK0, OK0⟩, ⟨(fun i v hv => by cases hv), (fun i n u v _ hu => by cases hu), (fun i v hv => by cases hv)⟩, KLO.out, KR⟩
  have hw4' := hw4.symm
  have hrb' := hrb.symm
  clear K3 b3 b3' b4 R4 OK0 hw4 hrb NB HB2 hkb
  go_upto_region 8 with fail
  clear hw4' hrb'
  go_wp2
  go_loopw [0, 8, 9, 10] (fun v0 v8 v9 v10 wr => ∃ (i : Nat) (nw late : Int) (x y : Bk) (T : List Int) (ta : Option Addr) (tn tc : Nat), v0 = .int .i64 nw ∧ v8 = .int .i64 late ∧ v9 = .slice ta tn tc ∧ v10 = .int .i64 (i : Int) ∧ i ≤ n ∧ now - 49 * (i : Int) ≤ nw ∧ nw ≤ now + 49 * (i : Int) ∧ Hid (late = y.now ∧ tn = T.length ∧ T.length ≤ i) ∧ Hid (BkM w kb rb x y (.slice ta tn tc) T wr)) (fun _ _ _ v10 _ => n - (intOf v10).toNat)
  case atStart => exact ⟨0, now, now, _, _, [], none, 0, 0, rfl, rfl, rfl, rfl, Nat.zero_le _, by omega, by omega, ⟨rfl, rfl, by simp⟩, M4.out⟩
  case round =>
    obtain ⟨i, nw, late, x, y, T, ta, tn, tc, rfl, rfl, rfl, rfl, hi, hw0, hw1, EQ, MI⟩ := hrel
    obtain ⟨wp, hwp⟩ : ∃ wp, wp = wr := ⟨_, rfl⟩
    rw [← hwp] at MI ⊢
    clear hwp
    by_cases hlt : i < n
    · obtain ⟨lg, off, rfl, hg, hcs⟩ := HLC.out (by omega)
      obtain ⟨o, ho⟩ : ∃ o, l[i]? = some o := ⟨_, List.getElem?_eq_getElem (by rw [← HN.out]; exact hlt)⟩
      obtain ⟨tk, wt⟩ := o
      have co := (hcs i _ ho).later hg MI.out.bel
      have k0 : wp.cell? ⟨lg, off + i * 2, none⟩ = some (.bool tk) := co 0 _ rfl
      have k1 : wp.cell? ⟨lg, off + i * 2 + 1, none⟩ = some (.int .i64 wt) := co 1 _ rfl
      obtain ⟨d, hd⟩ : ∃ d, d = wt.tmod 50 := ⟨_, rfl⟩
      have d0 : -49 ≤ d ∧ d ≤ 49 := by
        have h1 := Int.tmod_lt_of_pos wt (show (0 : Int) < 50 by decide)
        have h2 := Int.lt_tmod_of_pos wt (show (0 : Int) < 50 by decide)
        omega
      obtain ⟨d1, d2⟩ := d0
      have hd' := hd.symm
      obtain ⟨t, ht⟩ : ∃ t, t = nw + d := ⟨_, rfl⟩
      have t1 : t ≤ 1152921504606846976 := by omega
      have t0 : -1152921504606846976 ≤ t := by omega
      have iz : (i : Int) < (n : Int) := by omega
      have u0 : now - 49 * ((i : Int) + 1) ≤ t := by omega
      have u1 : t ≤ now + 49 * ((i : Int) + 1) := by omega
      obtain ⟨lt2, hlt2⟩ : ∃ lt2, lt2 = max late t := ⟨_, rfl⟩
      have HT := hide ht
      have HL2 := hide hlt2
      have hnt : nw + d = t := ht.symm
      clear hd ht hcs ho co hlt2
      go_upto_if 56 with fail
      go_cut [8] (fun v wc => v = .int .i64 lt2 ∧ wp = wc)
      case first =>
        by_cases e : late < t
        · go_wp2
          go_meet
          case rel => exact ⟨by rw [HL2.out, Int.max_eq_right (by omega)], rfl⟩
        · go_wp2
          go_meet
          case rel => exact ⟨by rw [HL2.out, Int.max_eq_left (by omega)], rfl⟩
      case rest =>
        obtain ⟨rfl, hcw⟩ := hcut
        subst hcw
        clear k1 hd' hnt
        have GS := MI.out.br.oy.gs t1
        have BL := MI.out.br.lf t1
        have NOW : Hid ((y.gs t).now = lt2) := by rw [GS.2.1, HL2.out, EQ.out.1]; exact rfl
        cases tk with
        | false =>
          have C1 := hide (icLeft_any MI.out.p MI.out.br.ox t t1 t0)
          obtain ⟨q, hq⟩ : ∃ q, q = (y.gs t).left := ⟨_, rfl⟩
          rw [BL.l, ← hq] at C1
          have HQ := hide hq
          have TG := hide (MI.out.tk.gs MI.out.br.oy MI.out.br.f (t := t))
          have HBL := hide BL
          clear hq GS BL
          go_wp2_with fail
          clear k0
          refine C1.out.mono ?_
          rintro _ w5 ⟨rfl, K5, bo5⟩
          obtain ⟨p5, r5, row5, bel5⟩ := MI.out.prog K5 bo5
          have C2 := hide (rLeft_any r5 MI.out.br.oy t t1 t0)
          rw [← HQ.out] at C2
          have P5 := hide p5
          have ROW5 := hide row5
          have BEL5 := hide bel5
          clear K5 bo5 p5 r5 row5 bel5 C1
          go_wp2_with fail
          refine C2.out.mono ?_
          rintro _ w6 ⟨rfl, K6, bo6⟩
          have M6 : Hid (BkM w kb rb (x.lf t) (y.gs t) (.slice ta tn tc) T w6) := by
            have h1 := MI.out.kr
            have h2 := MI.out.lo
            exact ⟨P5.out.but bo6 (fun e => by have e : kb = rb := e; omega), K6, ROW5.out.but bo6 (fun g hg e => by have e : g = rb := e; have hg : rb < g := hg; omega), BEL5.out.trans (bo6.below BEL5.out.size (fun g hg e => by have e : g = rb := e; omega)), HBL.out, TG.out, h2, h1⟩
          clear K6 bo6 C2
          go_wp2
          go_roundw
          case rel => exact ⟨i + 1, t, lt2, _, _, T, ta, tn, tc, rfl, rfl, rfl, by go_num, by omega, by rw [show ((i + 1 : Nat) : Int) = (i : Int) + 1 by omega]; exact u0, by rw [show ((i + 1 : Nat) : Int) = (i : Int) + 1 by omega]; exact u1, ⟨NOW.out.symm, EQ.out.2.1, by have := EQ.out.2.2; omega⟩, M6.out⟩
          case measure => simp [intOf]; omega
        | true =>
          have BT := MI.out.br.tk t1
          have C1 := hide (icTake_any MI.out.p MI.out.br.ox t t1 t0)
          obtain ⟨q, hq⟩ : ∃ q, q = y.gtE t := ⟨_, rfl⟩
          rw [BT.1, ← hq] at C1
          have HQ := hide hq
          have TG := hide (MI.out.tk.gs MI.out.br.oy MI.out.br.f (t := t))
          have HBT := hide BT.2
          have HGS := hide GS
          clear hq GS BL BT
          go_wp2_with fail
          clear k0
          refine C1.out.mono ?_
          rintro _ w5 ⟨rfl, K5, bo5⟩
          obtain ⟨p5, r5, row5, bel5⟩ := MI.out.prog K5 bo5
          have C2 := hide (rTake_any r5 MI.out.br.oy t t1 t0)
          rw [← HQ.out] at C2
          have P5 := hide p5
          have ROW5 := hide row5
          have BEL5 := hide bel5
          clear K5 bo5 p5 r5 row5 bel5 C1
          go_wp2_with fail
          refine C2.out.mono ?_
          rintro _ w6 ⟨rfl, K6, bo6⟩
          have h1 := MI.out.kr
          have h2 := MI.out.lo
          have P6 := hide (P5.out.but bo6 (fun e => by have e : kb = rb := e; omega))
          have ROW6 := hide (ROW5.out.but bo6 (fun g hg e => by have e : g = rb := e; have hg : rb < g := hg; omega))
          have BEL6 := hide (BEL5.out.trans (bo6.below BEL5.out.size (fun g hg e => by have e : g = rb := e; omega)))
          have K6 := hide K6
          clear bo6 C2
          by_cases z : (y.gs t).left = 0
          · have eq : q = 120 := by rw [HQ.out, Bk.gtE, if_pos z]
            subst eq
            have eg : y.gt t = y.gs t := by unfold Bk.gt; rw [if_pos z]
            have M6 : Hid (BkM w kb rb (x.tk t) (y.gt t) (.slice ta tn tc) T w6) := ⟨P6.out, K6.out, ROW6.out, BEL6.out, HBT.out, by rw [eg]; exact TG.out, h2, h1⟩
            have NOW2 : Hid ((y.gt t).now = lt2) := by rw [eg]; exact NOW.out
            clear z eg
            go_wp2
            go_roundw
            case rel => exact ⟨i + 1, t, lt2, _, _, T, ta, tn, tc, rfl, rfl, rfl, by go_num, by omega, by rw [show ((i + 1 : Nat) : Int) = (i : Int) + 1 by omega]; exact u0, by rw [show ((i + 1 : Nat) : Int) = (i : Int) + 1 by omega]; exact u1, ⟨NOW2.out.symm, EQ.out.2.1, by have := EQ.out.2.2; omega⟩, M6.out⟩
            case measure => simp [intOf]; omega
          · have eq : q = 0 := by rw [HQ.out, Bk.gtE, if_neg z]
            subst eq
            have eg : y.gt t = ⟨(y.gs t).left - 1, (y.gs t).since, (y.gs t).now⟩ := by unfold Bk.gt; rw [if_neg z]
            have TT : Hid (TkI (T ++ [lt2]) (y.gt t)) := by
              rw [eg, ← NOW.out]
              have o := HGS.out.1
              exact TG.out.take o.l4 HGS.out.2.2.1 HGS.out.2.2.2 (by have := o.l0; omega) o.sn (by have := o.s0; have := o.sn; omega)
            have NOW2 : Hid ((y.gt t).now = lt2) := by rw [eg]; exact NOW.out
            obtain ⟨a7, c7, w7, hrun, hrow, hb7⟩ := ROW6.out.push lt2 (by have := EQ.out.2.2; omega)
            have RUN : Hid ((Builtin.append_ #[48, 48] 48 #[.slice ta tn tc, .slice (some ⟨w6.heap.size, 0, none⟩) 1 1]).run Try.prog (w6.alloc (.cells #[.int .i64 lt2] 3)) = .ok (.slice a7 (tn + 1) c7) w7) := by rw [EQ.out.2.1] at hrun ⊢; exact hrun
            have rl : rb < w6.heap.size := K6.out.lt
            have M7 : Hid (BkM w kb rb (x.tk t) (y.gt t) (.slice a7 (tn + 1) c7) (T ++ [lt2]) w7) := by
              refine ⟨P6.out.but hb7 (fun e => by have e : rb < kb := e; omega), K6.out.but hb7 (fun e => by have e : rb < rb := e; omega), ?_, BEL6.out.trans (hb7.below BEL6.out.size (fun g hg e => by have e : rb < g := e; omega)), HBT.out, TT.out, h2, h1⟩
              rw [EQ.out.2.1]
              exact hrow.own (fun g _ e => by rcases e with e | e; exact e; show rb < g; omega)
            clear z eg hrun hrow hb7
            go_upto_region 12 with (at_builtin; refine wpList_appI rfl _ _ rfl rfl _ _ rfl rfl RUN.out ?_)
            go_wp2
            go_roundw
            case rel => exact ⟨i + 1, t, lt2, _, _, T ++ [lt2], a7, tn + 1, c7, rfl, rfl, rfl, by go_num, by omega, by rw [show ((i + 1 : Nat) : Int) = (i : Int) + 1 by omega]; exact u0, by rw [show ((i + 1 : Nat) : Int) = (i : Int) + 1 by omega]; exact u1, ⟨NOW2.out.symm, by rw [List.length_append, ← EQ.out.2.1]; rfl, by rw [List.length_append]; have := EQ.out.2.2; simp; omega⟩, M7.out⟩
            case measure => simp [intOf]; omega
    · have TL : Hid (tn = T.length) := EQ.out.2.1
      have tz : (tn : Int) ≤ 2000 := by have := EQ.out.2.2; have := TL.out; omega
      have TB := hide MI.out.tk.b
      have TA := hide MI.out.tk.a
      have LOW := hide MI.out.tk.c
      have NB2 : Hid (y.now ≤ 1152921504606846976) := MI.out.br.oy.n1
      obtain ⟨ga, ga2, hga⟩ : ∃ g off, 0 < tn → ta = some ⟨g, off, none⟩ ∧ g < wp.heap.size ∧ ∀ (k : Nat) x, T[k]? = some x → wp.cell? ⟨g, off + k, none⟩ = some (.int .i64 x) := by
        by_cases e : 0 < tn
        · obtain ⟨g, off, h1, h2, h3, h4⟩ := MI.out.row.at (by have := TL.out; omega)
          exact ⟨g, off, fun _ => ⟨h1, h2, h4⟩⟩
        · exact ⟨0, 0, fun e' => absurd e' e⟩
      have GA := hide hga
      have BEL := hide MI.out.bel
      have iz : ¬ (i : Int) < (n : Int) := by omega
      clear hga MI EQ hi hlt
      go_wp2
      go_loopw [12] (fun vi wr => ∃ i : Nat, vi = .int .i64 (i : Int) ∧ i ≤ tn ∧ Hid (Below wp.heap.size wp wr)) (fun vi _ => tn - (intOf vi).toNat)
      case atStart => exact ⟨0, rfl, Nat.zero_le _, Below.refl _ _⟩
      case round =>
        obtain ⟨i, rfl, hi, BI⟩ := hrel
        obtain ⟨wi, hwi⟩ : ∃ wi, wi = wr := ⟨_, rfl⟩
        rw [← hwi] at BI ⊢
        clear hwi
        by_cases hlt : i < tn
        · have iz : (i : Int) < (tn : Int) := by omega
          go_wp2
          go_loopw [13] (fun vk wr => ∃ k : Nat, vk = .int .i64 (k : Int) ∧ i ≤ k ∧ k ≤ tn ∧ Hid (Below wp.heap.size wp wr)) (fun vk _ => tn - (intOf vk).toNat)
          case atStart => exact ⟨i, rfl, Nat.le_refl _, by omega, BI.out⟩
          case round =>
            obtain ⟨k, rfl, hik, hk, BK⟩ := hrel
            obtain ⟨wk, hwk⟩ : ∃ wk, wk = wr := ⟨_, rfl⟩
            rw [← hwk] at BK ⊢
            clear hwk
            by_cases hkt : k < tn
            · obtain ⟨ea, hg, hcs⟩ := GA.out (by omega)
              subst ea
              obtain ⟨u, hu⟩ : ∃ u, T[i]? = some u := ⟨_, List.getElem?_eq_getElem (by rw [← TL.out]; exact hlt)⟩
              obtain ⟨v, hv⟩ : ∃ v, T[k]? = some v := ⟨_, List.getElem?_eq_getElem (by rw [← TL.out]; exact hkt)⟩
              have cu := fun W (hW : Below wk.heap.size wk W) => ((later BK.out hW).cell (p := ⟨ga, ga2 + i, none⟩) hg).trans (hcs i u hu)
              have cv := fun W (hW : Below wk.heap.size wk W) => ((later BK.out hW).cell (p := ⟨ga, ga2 + k, none⟩) hg).trans (hcs k v hv)
              obtain ⟨q1, q2⟩ := TB.out i k u v hik hu hv
              have q3 := (TA.out k v hv).2
              have q5 := NB2.out
              have q4 := LOW.out i u hu
              have kz : (k : Int) < (tn : Int) := by omega
              have ik : (i : Int) ≤ (k : Int) := by omega
              go_upto_region 30 with fail
              refine region_quiet_C (fun W => Below wk.heap.size wk W) (by kernel_rfl) (by kernel_rfl) (later_drew _) ?_
              go_big_quiet_step (fail)
              go_big_quiet_step (fail)
              go_big_quiet_want
              refine quiet_pure (.int .i64 ((k : Int) - (i : Int))) (fun W hW => exec_subi2 _ _ _ _ _ rfl rfl rfl (by omega) (by omega)) ?_
              go_big_quiet_on
              simp only [Act.put, List.setIfInBounds_toArray, List.set_cons_succ, List.set_cons_zero]
              go_big_quiet_want
              refine quiet_pure (.int .i64 ((k : Int) - (i : Int) + 1)) (fun W hW => exec_addi _ _ _ _ _ rfl rfl rfl (by omega) (by omega)) ?_
              go_big_quiet_on
              simp only [Act.put, List.setIfInBounds_toArray, List.set_cons_succ, List.set_cons_zero]
              go_big_quiet_step (fail)
              go_big_quiet_step (fail)
              go_big_quiet_want
              refine quiet_pure (.pointer (some ⟨ga, ga2 + k, none⟩)) (fun W hW => exec_ixn2 _ _ ga ga2 tn tc k rfl rfl rfl hkt) ?_
              go_big_quiet_on
              simp only [Act.put, List.setIfInBounds_toArray, List.set_cons_succ, List.set_cons_zero]
              go_big_quiet_want
              refine quiet_pure (.int .i64 v) (fun W hW => exec_load1 3 one1 _ rfl ga (ga2 + k) rfl (.int .i64 v) (cv W hW)) ?_
              go_big_quiet_on
              simp only [Act.put, List.setIfInBounds_toArray, List.set_cons_succ, List.set_cons_zero]
              go_big_quiet_step (fail)
              go_big_quiet_step (fail)
              go_big_quiet_want
              refine quiet_pure (.pointer (some ⟨ga, ga2 + i, none⟩)) (fun W hW => exec_ixn2 _ _ ga ga2 tn tc i rfl rfl rfl hlt) ?_
              go_big_quiet_on
              simp only [Act.put, List.setIfInBounds_toArray, List.set_cons_succ, List.set_cons_zero]
              go_big_quiet_want
              refine quiet_pure (.int .i64 u) (fun W hW => exec_load1 3 one1 _ rfl ga (ga2 + i) rfl (.int .i64 u) (cu W hW)) ?_
              go_big_quiet_on
              simp only [Act.put, List.setIfInBounds_toArray, List.set_cons_succ, List.set_cons_zero]
              go_big_quiet_want
              refine quiet_pure (.int .i64 (v - u)) (fun W hW => exec_subi2 _ _ _ _ _ rfl rfl rfl (by omega) (by omega)) ?_
              go_big_quiet_on
              simp only [Act.put, List.setIfInBounds_toArray, List.set_cons_succ, List.set_cons_zero]
              go_big_quiet_want
              refine quiet_pure (.int .i64 ((v - u) / 2)) (fun W hW => exec_quo2 _ _ _ rfl (fun _ => rfl) rfl (by omega) (by omega)) ?_
              go_big_quiet_on
              simp only [Act.put, List.setIfInBounds_toArray, List.set_cons_succ, List.set_cons_zero]
              go_big_quiet_want
              refine quiet_pure (.int .i64 (4 + (v - u) / 2)) (fun W hW => exec_addi _ _ _ _ _ rfl rfl rfl (by omega) (by omega)) ?_
              go_big_quiet_on
              simp only [Act.put, List.setIfInBounds_toArray, List.set_cons_succ, List.set_cons_zero]
              go_big_quiet_want
              refine quiet_pure (.bool false) (fun W hW => exec_gti2 _ _ _ _ _ _ rfl rfl rfl (decide_eq_false (by omega))) ?_
              go_big_quiet_on
              simp only [Act.put, List.setIfInBounds_toArray, List.set_cons_succ, List.set_cons_zero]
              refine wpQuiet_nil ?_
              intro wq bq
              have BQ := hide (later BK.out bq)
              clear bq cu cv q1 q2 q3 q4 q5 hu hv
              go_wp2
              go_roundw
              case rel => exact ⟨k + 1, by go_num, by omega, by omega, BQ.out⟩
              case measure => simp [intOf]; omega
            · have ekt : k = tn := by omega
              clear hik
              go_wp2
              go_roundw
              case rel => exact ⟨i + 1, by go_num, by omega, BK.out⟩
              case measure => simp [intOf]; omega
        · go_wp2
          go_ret
          exact ⟨rfl, later BEL.out BI.out⟩
end Go.Proofs.Yteiendigcaedhaa
