
/-
  The document's ring: Poll while the link is up.
-/
import Derived.Test.YtjkfjijnjkpbbaaS8
namespace Go.Proofs.Ytjkfjijnjkpbbaa
open Go.RowKit

/-- the last part: fill, and what is told -/
def RPost (ρ : Nat → Nat) (w : World) (k : Bl) (n : Nat) (P : Rg) (L : List (Int × Bool)) (e : Ending) (w' : World) : Prop :=
  ∃ v, e = .returned v ∧ w'.ownsRow w.heap.size 67 2 v L.length (flc L) ∧ ∃ ρ' tv' cv', RS ρ' w' k n P tv' cv' ∧ Nx ρ w ρ' w' ∧ ∀ b, v.ownBlock = some b → ρ' b = 14

section
variable {ρ : Nat → Nat} {w : World} {k : Bl} {n : Nat} {Y : Rg} {tv cv : Value}

set_option maxRecDepth 100000 in
set_option maxHeartbeats 4000000 in
theorem rPoll_up (h : RS ρ w k n Y tv cv) {hl : Nat → Nat} {g : Nat} (hz : Hz n Y hl g) {m : Nat} (hm : Bdd m Y.B) (hm2 : m < 4611686018427387904) (hd : ¬ Y.down) :
    Calls Try.prog 75 #[.pointer (some ⟨k.r, 0, none⟩)] w (RPost ρ w k n (Y.polled n) Y.come) := by
  have X6 := hide (rRead_any (RQ.rf h).dev 6)
  rw [show Y.D.rdV 6 = Y.D.r 6 from rdV_of Y.D 6 (by omega)] at X6
  have c0 := (RQ.rf h).c0
  have H := hide h
  have LT0 := hide (RQ.lt h)
  have ev := (RQ.rf h).ok.ev
  have lk := (RQ.rf h).ok.link
  have HZ := hide hz
  have HM := hide hm
  obtain ⟨e6, he6⟩ : ∃ e6, e6 = Y.D.r 6 := ⟨_, rfl⟩
  obtain ⟨e1, he1⟩ : ∃ e1, e1 = Y.D.r 1 := ⟨_, rfl⟩
  have f6 : e6 = 0 ∨ e6 = 1 ∨ e6 = 2 ∨ e6 = 3 ∨ ((e6 = 4 ∨ e6 = 5 ∨ e6 = 6 ∨ e6 = 7) ∧ e1 = 1) := by
    by_cases q : e6 < 4
    · omega
    · have : e1 = 1 := by
        rcases lk with l | l
        · exact absurd ⟨by rw [← he6]; omega, l⟩ hd
        · rw [he1]; exact l
      omega
  have hr1 : (Y.D.rdD 6).r 1 = e1 := (rd6_r Y.D 1 (by omega)).trans he1.symm
  rw [← he6] at X6
  -- numbers of both rings
  have sf := hz.sf
  have sm := hz.sm
  have cf := hz.cf
  have cm := hz.cm
  obtain ⟨sn, b4⟩ := hz.sent
  obtain ⟨gn, _⟩ := hz.got
  have b5 := hz.h5
  have b3 := hz.h3
  have gl := hz.h2.1
  have b2 := hz.h2.2.1
  obtain ⟨S, hS⟩ : ∃ S, S = Y.sent := ⟨_, rfl⟩
  rw [← hS] at sn b4
  obtain ⟨a4, h4⟩ : ∃ a4, a4 = (Y.s.first + S) % 16 := ⟨_, rfl⟩
  obtain ⟨a5, h5⟩ : ∃ a5, a5 = Y.s.nx := ⟨_, rfl⟩
  obtain ⟨a2, h2⟩ : ∃ a2, a2 = (Y.c.first + g) % 16 := ⟨_, rfl⟩
  obtain ⟨a3, h3⟩ : ∃ a3, a3 = Y.c.nx := ⟨_, rfl⟩
  obtain ⟨tr, htr⟩ : ∃ tr, tr = Y.s.ids.length - S := ⟨_, rfl⟩
  obtain ⟨cr, hcr⟩ : ∃ cr, cr = Y.c.ids.length - g := ⟨_, rfl⟩
  have r4 : (Y.D.rdD 6).r 4 = (a4 : Int) := by rw [rd6_r Y.D 4 (by omega), b4, h4]
  have r5 : (Y.D.rdD 6).r 5 = (a5 : Int) := by rw [rd6_r Y.D 5 (by omega), b5, h5]
  have r2 : (Y.D.rdD 6).r 2 = (a2 : Int) := by rw [rd6_r Y.D 2 (by omega), b2, h2]
  have r3 : (Y.D.rdD 6).r 3 = (a3 : Int) := by rw [rd6_r Y.D 3 (by omega), b3, h3]
  have nxs : Y.s.nx = (Y.s.first + Y.s.ids.length) % 16 := rfl
  have nxc : Y.c.nx = (Y.c.first + Y.c.ids.length) % 16 := rfl
  have q45 : (a5 + 16 - a4) % 16 = tr := by omega
  have q23 : (a3 + 16 - a2) % 16 = cr := by omega
  have XM1 : Hid (∀ W, Calls Try.prog 95 #[.int .i64 (a4 : Int), .int .i64 (a5 : Int)] W fun e w' => e = .returned (.int .i64 (tr : Int)) ∧ w' = W) := fun W => by
    have := many_any W a4 a5 (by omega) (by omega)
    rw [q45] at this
    exact this
  have XM2 : Hid (∀ W, Calls Try.prog 95 #[.int .i64 (a2 : Int), .int .i64 (a3 : Int)] W fun e w' => e = .returned (.int .i64 (cr : Int)) ∧ w' = W) := fun W => by
    have := many_any W a2 a3 (by omega) (by omega)
    rw [q23] at this
    exact this
  have tr15 : tr ≤ 15 := by omega
  have cr15 : cr ≤ 15 := by omega
  have a316 : a3 < 16 := by omega
  obtain ⟨T, hT⟩ : ∃ T, T = Y.s.ids := ⟨_, rfl⟩
  obtain ⟨C, hC⟩ : ∃ C, C = Y.c.ids := ⟨_, rfl⟩
  rw [← hT] at sn htr sm
  rw [← hC] at gl hcr cm
  have atE : ∀ j, j < g → (((a3 + 32 - (C.length - j)) % 16 : Nat)) = (Y.c.first + j) % 16 := fun j hj => by rw [hC] at gl cm ⊢; omega
  have ATE := hide atE
  have HS := hide hS
  have HT := hide hT
  have HC := hide hC
  have H3 := hide h3
  have R4 := hide (And.intro r4 (And.intro r5 (And.intro r2 r3)))
  have OK6 := hide ((RQ.rf h).ok.rd 6)
  have GN := hide gn
  have TR := hide (And.intro htr sn)
  have CR := hide (And.intro hcr gl)
  have HR1 := hide hr1
  have SM : Hid (T.length ≤ 15 ∧ C.length ≤ 15) := ⟨sm, cm⟩
  clear hd h hz hm ev lk he6 he1 b4 b5 b3 b2 h4 h5 h2 nxs nxc q45 q23 htr hcr sn gl gn sf cf hS hT hC h3 r4 r5 r2 r3 atE hr1 sm cm
  go_enter Try.func75, Try.ntmps75
  go_wp2_with fail
  refine X6.out.mono ?_
  rintro _ w1 ⟨rfl, p1, b1⟩
  obtain ⟨q1, n1⟩ := RQ.onDev H.out b1 p1 OK6.out
  have c01 := q1.rf.c0
  have d11 := q1.rf.dev.creg 1 (by omega)
  rw [HR1.out] at d11
  have I0 : Hid (RQ ρ w1 k n (Y.D.rdD 6) (frs n Y.B (T.take 0)) tv cv Y.s.nx Y.c.nx (T.drop 0) C ∧ Nx ρ w ρ w1) := by
    rw [List.take_zero, List.drop_zero, HT.out, HC.out]
    exact ⟨q1, n1⟩
  clear q1 n1 p1 b1 X6 c0 H
  go_upto_region 2 with fail
  go_cut [32] (fun v32 wc => v32 = .bool false ∧ w1 = wc)
  case first =>
    rcases f6 with rfl | rfl | rfl | rfl | ⟨rfl | rfl | rfl | rfl, rfl⟩
    all_goals go_wp2
    all_goals go_meet
    all_goals exact ⟨rfl, rfl⟩
  case rest =>
    obtain ⟨rfl, rfl⟩ := hcut
    clear c01 d11 f6
    go_wp2
    go_loopw [] (fun wr => ∃ (j : Nat) (tv : Value), j ≤ S ∧ Hid (RQ ρ wr k n (Y.D.rdD 6) (frs n Y.B (T.take j)) tv cv Y.s.nx Y.c.nx (T.drop j) C ∧ Nx ρ w ρ wr)) (fun wr => lenV ((wr.cell? ⟨k.r, 2, none⟩).getD undef))
    case atStart => exact ⟨0, tv, Nat.zero_le _, I0.out⟩
    case round =>
      clear I0
      obtain ⟨j, tv, hj, hq⟩ := hrel
      obtain ⟨U, hU⟩ : ∃ U, U = T.drop j := ⟨_, rfl⟩
      have lU : U.length = T.length - j := by rw [hU, List.length_drop]
      obtain ⟨ta, tc, et⟩ := hq.out.1.t.shape
      rw [← hU] at et
      subst et
      have c0 := hq.out.1.rf.c0
      have c2 := hq.out.1.rf.c2
      have d4 := hq.out.1.rf.dev.creg 4 (by omega)
      have d5 := hq.out.1.rf.dev.creg 5 (by omega)
      rw [R4.out.1] at d4
      rw [R4.out.2.1] at d5
      have C2R := hide c2
      have U15 : U.length ≤ 15 := by have := SM.out.1; omega
      have HU := hide hU
      by_cases hlt : j < S
      · have zl : (tr : Int) < (U.length : Int) := by have := TR.out; omega
        have q5 : decide (tr < U.length) = true := by have := TR.out; rw [decide_eq_true_eq]; omega
        have q6 : decide (U.length ≤ tr) = false := by have := TR.out; rw [decide_eq_false_iff_not]; omega
        obtain ⟨x, U', hx⟩ : ∃ x U', U = x :: U' := by
          cases U with
          | nil => have := TR.out; simp at lU; omega
          | cons x U' => exact ⟨x, U', rfl⟩
        have e1 : T.drop (j + 1) = U' := by rw [← List.drop_drop, ← hU, hx]; rfl
        have e2 : frB n (frs n Y.B (T.take j)) x = frs n Y.B (T.take (j + 1)) := by
          have hjt : j < T.length := by have := TR.out; omega
          have e3 : T[j]? = some x := by
            have : (T.drop j)[0]? = some x := by rw [← hU, hx]; rfl
            rw [List.getElem?_drop] at this
            exact this
          rw [take_snoc hjt, frs_snoc, e3]; rfl
        have E1 := hide e1
        have E2 := hide e2
        clear hU e1 e2 lU
        subst hx
        have Q0 : Hid (RQ ρ wr k n (Y.D.rdD 6) (frs n Y.B (T.take j)) (.slice ta (x :: U').length tc) cv Y.s.nx Y.c.nx (x :: U') C) := by have := hq.out.1; rw [← HU.out] at this; exact this
        obtain ⟨tg, off, cap, et, hc1, hc2, cx, hpop⟩ := Q0.out.popT
        simp only [Value.slice.injEq, List.length_cons, true_and] at et
        obtain ⟨rfl, rfl⟩ := et
        have HPOP := hide hpop
        have zc : (tc : Int) ≤ 9223372036854775807 := by unfold maxLen at hc2; omega
        have zc1 : (U'.length : Int) + 1 ≤ (tc : Int) := by omega
        have XF : Hid (∀ W, Below wr.heap.size wr W → Calls Try.prog 76 #[.pointer (some ⟨k.p, 0, none⟩), .int .i64 x] W fun e w' => (∃ v, e = .returned (.int .i64 v)) ∧ Hid (RQ ρ w' k n (Y.D.rdD 6) (frs n Y.B (T.take (j + 1))) (.slice (some ⟨tg, off, none⟩) (U'.length + 1) tc) cv Y.s.nx Y.c.nx (x :: U') C ∧ Nx ρ w ρ w')) := fun W hb => by
          have q := Q0.out.later hb
          refine (rFree_any q.rf.pool x (by have := (HM.out.frs (n := n) (T.take j)) x.toNat; omega)).mono ?_
          rintro _ w1 ⟨rfl, hp1, hb1⟩
          obtain ⟨q1, n1⟩ := q.onPool hb1 hp1
          rw [E2.out] at q1
          exact ⟨⟨_, rfl⟩, q1, hq.out.2.trans ((Q0.out.nx0 hb).trans n1)⟩
        have c1 := Q0.out.rf.c1
        clear hpop hc1 hc2 HU
        simp only [List.length_cons] at *
        go_upto_region 5 with fail
        go_quiet ((go_at_call 95; exact Calls.quiet_of_same (XM1.out _)))
        go_upto_region 6 with fail
        have bq : Below wr.heap.size wr (wr.drewN nq) := undrewK0 (Below.refl _ _)
        have q7 : Below wr.heap.size wr (wr.drewN nq).drew := undrew0 bq
        go_cut [] from 35 to 76 (fun wc => Hid (RQ ρ wc k n (Y.D.rdD 6) (frs n Y.B (T.take (j + 1))) (.slice (some ⟨tg, off, none⟩) (U'.length + 1) tc) cv Y.s.nx Y.c.nx (x :: U') C ∧ Nx ρ w ρ wc))
        case first =>
          go_region_with (go_at_call 76; refine (XF.out (wr.drewN nq).drew q7).mono ?_; rintro _ w9 ⟨⟨vx, rfl⟩, F9⟩)
          all_goals go_wp2
          all_goals go_meet
          all_goals exact F9.out
        case rest =>
          obtain ⟨q1, n1⟩ := hcut.out
          clear XF c0 c1 c2 d4 d5 cx bq q7 Q0 hq
          have c2 := q1.rf.c2
          have f2 := q1.rf.fz 2
          by_cases e1 : tc = 1
          · subst e1
            obtain ⟨q2, n2⟩ := HPOP.out wc _ _ q1 ⟨tg, off, none⟩ (fun h => by omega)
            have M2 := hide q2.rf.c2
            have Q2 := hide (And.intro q2 (n1.trans n2))
            clear q1 n1 q2 n2 hcut HPOP
            go_wp2
            go_roundw
            case rel => exact ⟨j + 1, _, hlt, by rw [E1.out]; exact Q2.out⟩
            case measure =>
              rw [M2.out, C2R.out]
              show U'.length < U'.length + 1
              omega
          · have e2 : ¬ (tc : Int) = 1 := by omega
            obtain ⟨q2, n2⟩ := HPOP.out wc _ _ q1 ⟨tg, off + 1, none⟩ (fun _ => rfl)
            have M2 := hide q2.rf.c2
            have Q2 := hide (And.intro q2 (n1.trans n2))
            clear q1 n1 q2 n2 hcut HPOP
            go_wp2
            go_roundw
            case rel => exact ⟨j + 1, _, hlt, by rw [E1.out]; exact Q2.out⟩
            case measure =>
              rw [M2.out, C2R.out]
              show U'.length < U'.length + 1
              omega
      · obtain rfl : j = S := by omega
        have q5 : ¬ (tr : Int) < (U.length : Int) := by have := TR.out; omega
        have q6 : decide (tr < U.length) = false := by have := TR.out; rw [decide_eq_false_iff_not]; omega
        have q7 : decide (U.length ≤ tr) = true := by have := TR.out; rw [decide_eq_true_eq]; omega
        clear lU hU
        go_upto_region 5 with fail
        go_quiet ((go_at_call 95; exact Calls.quiet_of_same (XM1.out _)))
        have bq : Below wr.heap.size wr (wr.drewN nq) := undrewK0 (Below.refl _ _)
        obtain ⟨B1, hB1⟩ : ∃ B1, B1 = frs n Y.B (T.take j) := ⟨_, rfl⟩
        have HB1 := hide hB1
        have I1 : Hid (RQ ρ (wr.drewN nq) k n (Y.D.rdD 6) (rcB n (Y.D.rdD 6) Y.c B1 0) (.slice ta U.length tc) cv Y.s.nx Y.c.nx U (C.drop 0) ∧ Nx ρ w ρ (wr.drewN nq) ∧ (wr.drewN nq).ownsRow w.heap.size 67 2 (.slice none 0 0) (rcC (Y.D.rdD 6) Y.c 0).length (flc (rcC (Y.D.rdD 6) Y.c 0))) := by
          have q := hq.out.1.later bq
          rw [← HU.out, ← hB1] at q
          rw [List.drop_zero]
          exact ⟨q, hq.out.2.trans (hq.out.1.nx0 bq), World.ownsRow_nil _ _ _ _⟩
        have LB : Hid (Bdd m B1) := by rw [hB1]; exact HM.out.frs _
        clear c0 c2 d4 d5 hq U15 C2R XM1 bq hB1
        go_wp2
        clear q5 q6 q7
        generalize wr.drewN nq = w2 at *
        go_loopw [5] (fun v5 wr => ∃ (j : Nat) (cv : Value) (oa : Option Addr) (oc : Nat) (ρ' : Nat → Nat), v5 = .slice oa j oc ∧ j ≤ g ∧ Hid (RQ ρ' wr k n (Y.D.rdD 6) (rcB n (Y.D.rdD 6) Y.c B1 j) (.slice ta U.length tc) cv Y.s.nx Y.c.nx U (C.drop j) ∧ Nx ρ w ρ' wr ∧ wr.ownsRow w.heap.size 67 2 (.slice oa j oc) (rcC (Y.D.rdD 6) Y.c j).length (flc (rcC (Y.D.rdD 6) Y.c j)) ∧ ∀ b, Value.ownBlock (.slice oa j oc) = some b → ρ' b = 14)) (fun _ wr => lenV ((wr.cell? ⟨k.r, 3, none⟩).getD undef))
        case atStart => exact ⟨0, cv, none, 0, ρ, rfl, Nat.zero_le _, I1.out.1, I1.out.2.1, I1.out.2.2, fun b e => by cases e⟩
        case round =>
          clear I1
          obtain ⟨j2, cv, oa, oc, ρ', rfl, hj2, hq⟩ := hrel
          obtain ⟨V, hV⟩ : ∃ V, V = C.drop j2 := ⟨_, rfl⟩
          have lV : V.length = C.length - j2 := by rw [hV, List.length_drop]
          obtain ⟨ca, cc, ec⟩ := hq.out.1.c.shape
          rw [← hV] at ec
          subst ec
          have c0 := hq.out.1.rf.c0
          have c3 := hq.out.1.rf.c3
          have d2 := hq.out.1.rf.dev.creg 2 (by omega)
          have d3 := hq.out.1.rf.dev.creg 3 (by omega)
          rw [R4.out.2.2.1] at d2
          rw [R4.out.2.2.2] at d3
          have C3R := hide c3
          have V15 : V.length ≤ 15 := by have := SM.out.2; omega
          have HV := hide hV
          by_cases hlt : j2 < g
          · have zl : (cr : Int) < (V.length : Int) := by have := CR.out; omega
            have q5 : decide (cr < V.length) = true := by have := CR.out; rw [decide_eq_true_eq]; omega
            have q6 : decide (V.length ≤ cr) = false := by have := CR.out; rw [decide_eq_false_iff_not]; omega
            obtain ⟨x, V', hx⟩ : ∃ x V', V = x :: V' := by
              cases V with
              | nil => have := CR.out; simp at lV; omega
              | cons x V' => exact ⟨x, V', rfl⟩
            have e1 : C.drop (j2 + 1) = V' := by rw [← List.drop_drop, ← hV, hx]; rfl
            have e3 : Y.c.ids[j2]? = some x := by
              have : (C.drop j2)[0]? = some x := by rw [← hV, hx]; rfl
              rw [List.getElem?_drop, HC.out] at this
              exact this
            obtain ⟨at', hat⟩ : ∃ y, y = (Y.c.first + j2) % 16 := ⟨_, rfl⟩
            obtain ⟨fb, hfb⟩ : ∃ y, y = (Y.D.rdD 6).rxF (at' : Int) := ⟨_, rfl⟩
            obtain ⟨bd, hbd⟩ : ∃ y, y = (Y.D.rdD 6).rxB (at' : Int) := ⟨_, rfl⟩
            have eB : stB n (rcB n (Y.D.rdD 6) Y.c B1 j2) x fb = rcB n (Y.D.rdD 6) Y.c B1 (j2 + 1) := by
              rw [hfb, hat]
              show _ = stB n (rcB n (Y.D.rdD 6) Y.c B1 j2) (Y.c.ids[j2]?.getD 0) _
              rw [e3]; rfl
            have eC : rcC (Y.D.rdD 6) Y.c j2 ++ [(x, bd)] = rcC (Y.D.rdD 6) Y.c (j2 + 1) := by
              rw [hbd, hat]
              show _ = rcC (Y.D.rdD 6) Y.c j2 ++ [(Y.c.ids[j2]?.getD 0, _)]
              rw [e3]; rfl
            have ea := ATE.out j2 hlt
            rw [← hat, ← lV] at ea
            have E1 := hide e1
            have EB := hide eB
            have EC := hide eC
            have EA := hide ea
            have EFB := hide hfb
            have EBD := hide hbd
            have at16 : at' < 16 := by rw [hat]; exact Nat.mod_lt _ (by omega)
            clear hV e1 e3 eB eC ea hfb hbd hat lV
            subst hx
            have Q0 : Hid (RQ ρ' wr k n (Y.D.rdD 6) (rcB n (Y.D.rdD 6) Y.c B1 j2) (.slice ta U.length tc) (.slice ca (x :: V').length cc) Y.s.nx Y.c.nx U (x :: V')) := by have := hq.out.1; rw [← HV.out] at this; exact this
            have N0 := hide hq.out.2.1
            have O0 := hide hq.out.2.2.1
            have V14 := hide hq.out.2.2.2
            obtain ⟨cg, off, cap, et, hc1, hc2, cx, hpop⟩ := Q0.out.popC
            simp only [Value.slice.injEq, List.length_cons, true_and] at et
            obtain ⟨rfl, rfl⟩ := et
            have HPOP := hide hpop
            have CX := hide cx
            have zc : (cc : Int) ≤ 9223372036854775807 := by unfold maxLen at hc2; omega
            have zc1 : (V'.length : Int) + 1 ≤ (cc : Int) := by omega
            clear hpop hc1 hc2 HV cx hq
            simp only [List.length_cons] at *
            have c5 := Q0.out.rf.c5
            rw [← H3.out] at c5
            have z3 : (a3 : Int) < 16 := by omega
            have w1 : IntKind.i64.wrap ((a3 : Int) - ((V'.length : Int) + 1)) = (a3 : Int) - ((V'.length : Int) + 1) := by rw [IntKind.wrap_i64]; omega
            have w2 : IntKind.i64.wrap ((a3 : Int) - ((V'.length : Int) + 1) + 32) = (((a3 + 32 - (V'.length + 1)) : Nat) : Int) := by rw [IntKind.wrap_i64]; omega
            go_upto_region 9 with fail
            go_quiet ((go_at_call 95; exact Calls.quiet_of_same (XM2.out _)))
            go_upto_region 10 with fail
            have bq0 : Below wr.heap.size wr (wr.drewN nq) := undrewK0 (Below.refl _ _)
            have Q9 := hide (Q0.out.later bq0)
            have N9 := hide (N0.out.trans (Q0.out.nx0 bq0))
            have O9 := hide (row_keep O0.out (But.of_below (K := fun _ => False) bq0) (fun _ _ => id))
            clear bq0 c0 c3 d2 d3 c5 Q0 N0 O0 zl q5 q6
            generalize wr.drewN nq = wq0 at *
            have c3 := Q9.out.rf.c3
            have c5 := Q9.out.rf.c5
            rw [← H3.out] at c5
            go_quiet (fail)
            go_upto_region 11 with fail
            have es : ((a3 + 31 - V'.length : Nat) : Int) % 16 = (at' : Int) := by have := EA.out; omega
            rw [es]
            clear es w1 w2
            have bq : Below wq0.heap.size wq0 (wq0.drewN nq) := undrewK0 (Below.refl _ _)
            have Q1 := hide (Q9.out.later bq)
            have N1 := hide (N9.out.trans (Q9.out.nx0 bq))
            have O1 := hide (row_keep O9.out (But.of_below (K := fun _ => False) bq) (fun _ _ => id))
            clear bq c3 c5 Q9 N9 O9
            generalize wq0.drewN nq = wq at *
            have c0 := Q1.out.rf.c0
            have XX := hide (rRx_any Q1.out.rf.dev (at' : Int))
            rw [← EFB.out, ← EBD.out] at XX
            go_wp2_with fail
            refine XX.out.mono ?_
            rintro _ w4 ⟨fa, fc, rfl, if4, b4⟩
            generalize (Y.D.rdD 6).rxE (at' : Int) = ex at *
            have Q4 := hide (Q1.out.later b4)
            have N4 := hide (N1.out.trans (Q1.out.nx0 b4))
            have O4 := hide (row_keep O1.out (But.of_below (K := fun _ => False) b4) (fun _ _ => id))
            have IF4 := hide if4
            have XSE : Hid (∀ W, Below w4.heap.size w4 W → Calls Try.prog 69 #[.pointer (some ⟨k.p, 0, none⟩), .int .i64 x, .slice fa fb.length fc] W fun e w' => (∃ v, e = .returned (.int .i64 v)) ∧ Hid (RQ ρ' w' k n (Y.D.rdD 6) (rcB n (Y.D.rdD 6) Y.c B1 (j2 + 1)) (.slice ta U.length tc) (.slice (some ⟨cg, off, none⟩) (V'.length + 1) cc) Y.s.nx Y.c.nx U (x :: V') ∧ Nx ρ w ρ' w' ∧ w'.ownsRow w.heap.size 67 2 (.slice oa j2 oc) (rcC (Y.D.rdD 6) Y.c j2).length (flc (rcC (Y.D.rdD 6) Y.c j2)))) := fun W hb => by
              have q := Q4.out.later hb
              refine (rSet_any (A' := fun g => ρ' g ≠ 0) q.rf.pool q.lt x _ fb (IF4.out.later hb)).mono ?_
              rintro _ w' ⟨rfl, hp, hbb⟩
              obtain ⟨z1, z2⟩ := q.onPool hbb hp
              rw [EB.out] at z1
              have g7 := Q4.out.g7
              exact ⟨⟨_, rfl⟩, z1, N4.out.trans ((Q4.out.nx0 hb).trans z2), row_keep (row_keep O4.out (But.of_below (K := fun _ => False) hb) (fun _ _ => id)) hbb (fun b e e2 => by have e2 : b = k.g := e2; have h14 := V14.out b e; subst e2; omega)⟩
            have c1 := Q4.out.rf.c1
            have c3 := Q4.out.rf.c3
            have cx := CX.out w4 _ _ Q4.out
            clear if4 b4 XX Q1 N1 O1 c0
            go_upto_region 12 with fail
            go_cut [] from 77 to 152 (fun wc => Hid (RQ ρ' wc k n (Y.D.rdD 6) (rcB n (Y.D.rdD 6) Y.c B1 (j2 + 1)) (.slice ta U.length tc) (.slice (some ⟨cg, off, none⟩) (V'.length + 1) cc) Y.s.nx Y.c.nx U (x :: V') ∧ Nx ρ w ρ' wc ∧ wc.ownsRow w.heap.size 67 2 (.slice oa j2 oc) (rcC (Y.D.rdD 6) Y.c j2).length (flc (rcC (Y.D.rdD 6) Y.c j2))))
            case first =>
              have q7 : Below w4.heap.size w4 w4.drew := undrew0 (Below.refl _ _)
              go_region_with (go_at_call 69; refine (XSE.out w4.drew q7).mono ?_; rintro _ w9 ⟨⟨vx, rfl⟩, F9⟩)
              all_goals go_wp2
              all_goals go_meet
              all_goals exact F9.out
            case rest =>
              obtain ⟨q5, n5, o5⟩ := hcut.out
              clear XSE c1 c3 cx Q4 N4 O4 IF4
              have c3 := q5.rf.c3
              have cx := CX.out wc _ _ q5
              have ws : w.heap.size ≤ wc.heap.size := n5.but.size
              obtain ⟨og, oc', w6, hrun, o6, hb6, hg6, hB6, hlt6⟩ := more_come o5 (x, bd) ws (by rw [rcC_len]; have := SM.out.2; have := CR.out; omega)
              rw [rcC_len] at hrun o6
              have v14 : ∀ b, Value.ownBlock (.slice oa j2 oc) = some b → ρ' b = 14 := V14.out
              obtain ⟨ρ6, hρ⟩ : ∃ ρ6 : Nat → Nat, ρ6 = fun b => if wc.heap.size ≤ b ∧ b < w6.heap.size then 14 else ρ' b := ⟨_, rfl⟩
              have old : ∀ b, b < wc.heap.size → ρ6 b = ρ' b := fun b hb => by rw [hρ]; exact if_neg (by omega)
              have newr : ∀ b, wc.heap.size ≤ b → b < w6.heap.size → ρ6 b = 14 := fun b h1 h2 => by rw [hρ]; exact if_pos ⟨h1, h2⟩
              have lt6 : ∀ b, ρ6 b ≠ 0 → b < w6.heap.size := fun b e => by
                rcases Nat.lt_or_ge b w6.heap.size with h1 | h1
                · exact h1
                · have e2 : ρ6 b = ρ' b := by rw [hρ]; exact if_neg (by omega)
                  rw [e2] at e
                  exact Nat.lt_of_lt_of_le (q5.lt b e) hb6.size
              have q6 := q5.grow hb6 (fun b e => by rw [v14 b e]; omega) old lt6
              have n6 : Nx ρ w ρ6 w6 := ⟨n5.but.trans' hb6 (fun b hb e => by have := (World.ownsRow.lt o5 b e).1; omega), fun b hb => (old b (Nat.lt_of_lt_of_le hb ws)).trans (n5.old b hb), fun b hb e => by
                rcases Nat.lt_or_ge b wc.heap.size with h1 | h1
                · rw [old b h1] at e ⊢; exact n5.new b hb e
                · rw [newr b h1 (lt6 b e)]; omega⟩
              have og14 : ρ6 og = 14 := by
                rcases hg6 with h1 | h1
                · rw [old og (World.ownsRow.lt o5 og h1).2]; exact v14 og h1
                · exact newr og h1 hlt6
              obtain ⟨cg2, off2, cap2, e2, hc1, hc2, _, hpop⟩ := q6.popC
              simp only [Value.slice.injEq, Option.some.injEq, Addr.mk.injEq, and_true, true_and] at e2
              obtain ⟨⟨rfl, rfl⟩, rfl⟩ := e2
              have HPOP6 := hide hpop
              have c36 := q6.rf.c3
              have f36 := q6.rf.fz 3
              have Q6 := hide q6
              have N6 := hide n6
              have O6 := hide o6
              have OG := hide og14
              have HRN := hide hrun
              have kr : Hid (k.r ≠ og) := fun e => by have h1 := q6.r8; rw [e, og14] at h1; omega
              clear q5 n5 o5 hcut HPOP CX hrun o6 hb6 hg6 hB6 hlt6 v14 hρ old newr lt6 q6 n6 og14 hpop hc1 hc2 V14 EB
              go_upto_region 14 with (at_builtin; refine wpList_app rfl _ _ 61 61 rfl _ _ rfl rfl HRN.out ?_)
              clear c3 cx
              have fin : ∀ a', (1 < cc → a' = ⟨cg, off + 1, none⟩) → Hid (RQ ρ6 (w6.setCell ⟨k.r, 3, none⟩ (.slice (some a') V'.length (cc - 1))) k n (Y.D.rdD 6) (rcB n (Y.D.rdD 6) Y.c B1 (j2 + 1)) (.slice ta U.length tc) (.slice (some a') V'.length (cc - 1)) Y.s.nx Y.c.nx U (C.drop (j2 + 1)) ∧ Nx ρ w ρ6 (w6.setCell ⟨k.r, 3, none⟩ (.slice (some a') V'.length (cc - 1))) ∧ (w6.setCell ⟨k.r, 3, none⟩ (.slice (some a') V'.length (cc - 1))).ownsRow w.heap.size 67 2 (.slice (some ⟨og, 0, none⟩) (j2 + 1) oc') (rcC (Y.D.rdD 6) Y.c (j2 + 1)).length (flc (rcC (Y.D.rdD 6) Y.c (j2 + 1))) ∧ ∀ b, Value.ownBlock (.slice (some ⟨og, 0, none⟩) (j2 + 1) oc') = some b → ρ6 b = 14) := fun a' ha => by
                obtain ⟨z1, z2⟩ := HPOP6.out w6 _ _ Q6.out a' ha
                rw [E1.out, ← EC.out]
                exact ⟨z1, N6.out.trans z2, row_keep O6.out ((But.refl (Only k.r) _).cellb _ _) (fun b e e3 => by have e3 : b = k.r := e3; have e : some og = some b := e; exact kr.out (by rw [← e3]; exact (Option.some.inj e).symm)), fun b e => by have e : some og = some b := e; rw [← Option.some.inj e]; exact OG.out⟩
              have FIN := hide fin
              clear fin HPOP6 Q6 N6 O6 OG HRN kr
              by_cases e1 : cc = 1
              · subst e1
                have F := hide (FIN.out ⟨cg, off, none⟩ (fun h => by omega))
                clear FIN
                go_wp2
                go_roundw
                case rel => exact ⟨j2 + 1, _, _, _, ρ6, by go_num, hlt, F.out⟩
                case measure =>
                  rw [F.out.1.rf.c3, C3R.out]
                  show V'.length < V'.length + 1
                  omega
              · have e2 : ¬ (cc : Int) = 1 := by omega
                have F := hide (FIN.out ⟨cg, off + 1, none⟩ (fun _ => rfl))
                clear FIN
                go_wp2
                go_roundw
                case rel => exact ⟨j2 + 1, _, _, _, ρ6, by go_num, hlt, F.out⟩
                case measure =>
                  rw [F.out.1.rf.c3, C3R.out]
                  show V'.length < V'.length + 1
                  omega
          · obtain rfl : j2 = g := by omega
            have q5 : ¬ (cr : Int) < (V.length : Int) := by have := CR.out; omega
            have q6 : decide (cr < V.length) = false := by have := CR.out; rw [decide_eq_false_iff_not]; omega
            have q7 : decide (V.length ≤ cr) = true := by have := CR.out; rw [decide_eq_true_eq]; omega
            clear lV hV
            go_upto_region 9 with fail
            go_quiet ((go_at_call 95; exact Calls.quiet_of_same (XM2.out _)))
            have bq : Below wr.heap.size wr (wr.drewN nq) := undrewK0 (Below.refl _ _)
            have q := hq.out.1.later bq
            rw [← HV.out] at q
            have er : Y.ready n = ⟨Y.D.rdD 6, rcB n (Y.D.rdD 6) Y.c B1 j2, Y.c.cut j2⟩ := by unfold Rg.ready; rw [GN.out, HB1.out, HT.out, HS.out]
            have ecut : (Y.c.cut j2).ids = V := by rw [HV.out, HC.out]; rfl
            have ecnx : (Y.c.cut j2).nx = Y.c.nx := by
              have h1 := CR.out.2
              rw [HC.out] at h1
              unfold Sd.nx Sd.cut
              simp only [List.length_drop]
              omega
            have q' : RQ ρ' (wr.drewN nq) k n (Y.ready n).D (Y.ready n).B (.slice ta U.length tc) (.slice ca V.length cc) Y.s.nx (Y.ready n).c.nx U (Y.ready n).c.ids := by
              rw [er]
              show RQ ρ' (wr.drewN nq) k n (Y.D.rdD 6) (rcB n (Y.D.rdD 6) Y.c B1 j2) _ _ _ (Y.c.cut j2).nx U (Y.c.cut j2).ids
              rw [ecut, ecnx]
              exact q
            have XF := hide (rfill_any q' (by rw [er]; show (Y.c.cut j2).ids.length ≤ 15; rw [ecut]; exact V15))
            have N1 := hide (hq.out.2.1.trans (hq.out.1.nx0 bq))
            have O1 := hide (row_keep hq.out.2.2.1 (But.of_below (K := fun _ => False) bq) (fun _ _ => id))
            have V14 := hide hq.out.2.2.2
            have EP : Hid (Y.polled n = ⟨(flF n (Y.ready n)).D, (flF n (Y.ready n)).B, ⟨(Y.s.first + j) % 16, U⟩, (flF n (Y.ready n)).c⟩) := by unfold Rg.polled; rw [← HS.out, HU.out, HT.out]; exact rfl
            have ESN : Hid (Y.s.nx = Sd.nx ⟨(Y.s.first + j) % 16, U⟩) := by
              have h1 := TR.out.2
              unfold Hid Sd.nx
              rw [HU.out, List.length_drop]
              rw [HT.out] at h1 ⊢
              show (Y.s.first + Y.s.ids.length) % 16 = ((Y.s.first + j) % 16 + (Y.s.ids.length - j)) % 16
              omega
            have ECM : Hid (rcC (Y.D.rdD 6) Y.c j2 = Y.come) := by unfold Rg.come; rw [GN.out]; exact rfl
            clear c0 c3 d2 d3 hq V15 C3R XM2 CR bq q q' er ecut ecnx
            go_wp2_with fail
            refine XF.out.mono ?_
            rintro _ w5 ⟨rfl, ρ5, cv5, q5', n5⟩
            have row5 := row_keep O1.out n5.but (fun b e e2 => by have := V14.out b e; omega)
            have sz5 : ∀ b, Value.ownBlock (.slice oa j2 oc) = some b → ρ5 b = 14 := fun b e => (n5.old b (World.ownsRow.lt O1.out b e).2).trans (V14.out b e)
            have F5 : Hid (RPost ρ w k n (Y.polled n) Y.come (.returned (.slice oa j2 oc)) w5) := by
              rw [EP.out]
              rw [ESN.out] at q5'
              rw [ECM.out] at row5
              exact ⟨_, rfl, row5, ρ5, _, cv5, q5', N1.out.trans n5, sz5⟩
            clear q5' n5 row5 sz5 XF N1 O1 V14
            go_wp2
            go_ret
            exact F5.out
end
end Go.Proofs.Ytjkfjijnjkpbbaa
