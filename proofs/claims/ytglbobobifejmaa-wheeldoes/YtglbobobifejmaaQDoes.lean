
/-
  WheelDoes: its walk.
-/
import Derived.Test.YtglbobobifejmaaQG
namespace Go.Proofs.Ytglbobobifejmaa
open Go.RowKit

theorem undrewN {n : Nat} {w w' : World} (h : Below n w.drew w') : Below n w w' := ⟨h.os, h.tape, h.output, h.size, h.block⟩
theorem drewN_below (w : World) (n : Nat) : Below w.heap.size w (w.drewN n) := ⟨rfl, rfl, rfl, Nat.le_refl _, fun _ _ => rfl⟩
theorem drew_below (w : World) : Below w.heap.size w w.drew := ⟨rfl, rfl, rfl, Nat.le_refl _, fun _ _ => rfl⟩

theorem out_len {L O : List (Int × Int)} {t : Int} (h : OutOf L t O) (hu : L.Pairwise (fun p q => p.1 ≠ q.1)) : O.length ≤ L.length := by
  have := len_of_ids (h.uniq2 hu) hu h.both
  rw [List.length_append] at this
  omega
theorem Duo.avoid {n : Nat} {W w : World} {b r : Nat} {n1 n2 : Int} {L1 L2 : List (Int × Int)} {A : Option Nat} (h : Duo n W w b r n1 L1 n2 L2 A) : ∀ k, A = some k → k ≠ r := by
  obtain ⟨ρ, v, _, _, _, _, _, _, _, h8⟩ := h
  exact fun k hk => (h8 k hk).2.1

set_option maxRecDepth 100000 in
theorem Does_bad (now : Int) (v : Value) (W : World) (hb : neBad now = true) :
    Calls Try.prog 3 #[.int .i64 now, v] W fun e W' => e = .returned (.bool true) ∧ Below W.heap.size W W' := by
  have N1 : Hid (∀ w, Calls Try.prog 8 #[.int .i64 now] w fun e w' => e = .returned (.tuple #[.pointer none, .int .i64 1]) ∧ w' = w) := fun w => (new_any w now).mono (fun e w' h => by
    rcases h with ⟨_, q⟩ | ⟨q, _⟩
    · exact q
    · rw [hb] at q; cases q)
  have N2 : Hid (∀ w, Calls Try.prog 9 #[.int .i64 now] w fun e w' => e = .returned (.tuple #[.pointer none, .int .i64 1]) ∧ w' = w) := fun w => (rnew_any w now).mono (fun e w' h => by
    rcases h with ⟨_, q⟩ | ⟨q, _⟩
    · exact q
    · rw [hb] at q; cases q)
  clear hb
  go_enter Try.func3, Try.ntmps3
  go_wp2_with fail
  refine (awake_any W).mono ?_
  rintro e w1 ⟨rfl, hb1⟩
  go_wp2_with fail
  refine (N1.out w1).mono ?_
  rintro e w2 ⟨rfl, rfl⟩
  go_wp2_with fail
  refine (N2.out _).mono ?_
  rintro e w2 ⟨rfl, rfl⟩
  go_wp2
  go_ret
  exact ⟨rfl, hb1⟩

set_option maxRecDepth 100000 in
set_option maxHeartbeats 16000000 in
theorem Does_good (now : Int) (v : Value) (l : List OpW) (W : World) (hgood : neBad now = false) (hI : IsO W.heap.size W v l) (hl : l.length ≤ 4398046510976) :
    Calls Try.prog 3 #[.int .i64 now, v] W fun e W' => e = .returned (.bool true) ∧ Below W.heap.size W W' := by
  have N1 : Hid (∀ w, Calls Try.prog 8 #[.int .i64 now] w fun e w' => e = .returned (.tuple #[.pointer (some ⟨w.heap.size, 0, none⟩), .int .i64 0]) ∧ Wh (fun g => if g = w.heap.size then 1 else 0) w' w.heap.size now [] ∧ Below w.heap.size w w') := fun w => (new_any w now).mono (fun e w' h => by
    rcases h with ⟨q, _⟩ | ⟨_, q⟩
    · rw [hgood] at q; cases q
    · exact q)
  have N2 : Hid (∀ w, Calls Try.prog 9 #[.int .i64 now] w fun e w' => e = .returned (.tuple #[.pointer (some ⟨w.heap.size, 0, none⟩), .int .i64 0]) ∧ RfAt w' w.heap.size now (.slice none 0 0) [] ∧ Below w.heap.size w w') := fun w => (rnew_any w now).mono (fun e w' h => by
    rcases h with ⟨q, _⟩ | ⟨_, q⟩
    · rw [hgood] at q; cases q
    · exact q)
  have now0 : Hid (0 ≤ now) := by
    unfold neBad at hgood
    simp only [Bool.or_eq_false_iff, decide_eq_false_iff_not] at hgood
    show _ ≤ _
    omega
  have HI := hide hI
  obtain ⟨a, cap, rfl, _⟩ := hI
  clear hgood
  go_enter Try.func3, Try.ntmps3
  go_wp2_with fail
  refine (awake_any W).mono ?_
  rintro e w1 ⟨rfl, hb1⟩
  go_wp2_with fail
  refine (N1.out w1).mono ?_
  rintro e w2 ⟨rfl, k2, b2⟩
  go_wp2_with fail
  refine (N2.out w2).mono ?_
  rintro e w3 ⟨rfl, k3, b3⟩
  have D0 := hide (Duo.new hb1.size hb1 k2 b2 k3 b3)
  obtain ⟨b, hb⟩ : ∃ b, w1.heap.size = b := ⟨_, rfl⟩
  obtain ⟨r, hr⟩ : ∃ r, w2.heap.size = r := ⟨_, rfl⟩
  obtain ⟨n, hn⟩ : ∃ n, W.heap.size = n := ⟨_, rfl⟩
  rw [hb, hr, hn] at D0
  rw [hb, hr]
  rw [hn] at HI
  have HN := hide hn
  clear hb1 k2 b2 k3 b3 hb hr hn N1 N2
  go_wp2
  go_loopw [10] (fun vi wr => ∃ (i : Nat) (nw : Int) (L : List (Int × Int)), vi = .int .i64 (i : Int) ∧ i ≤ l.length ∧ Hid (0 ≤ nw) ∧ Hid (Duo n W wr b r nw L nw L none)) (fun vi _ => l.length - (intOf vi).toNat)
  case atStart => exact ⟨0, now, [], rfl, Nat.zero_le _, now0.out, D0.out⟩
  case round =>
    clear D0 now0
    obtain ⟨i, nw, L, rfl, hi, NW, HD⟩ := hrel
    by_cases hlt : i < l.length
    · obtain ⟨a', cap', e', hc, hr⟩ := HI.out.below HD.out.below
      simp only [Value.slice.injEq] at e'
      obtain ⟨rfl, _, rfl⟩ := e'
      obtain ⟨gl, off, rfl, hgl, hcs⟩ := hc (by omega)
      obtain ⟨⟨kd, oi, oa, on⟩, hx⟩ : ∃ o, l[i]? = some o := ⟨l[i], List.getElem?_eq_getElem hlt⟩
      obtain ⟨q0, q1, q2, q3⟩ := hcs i _ hx
      simp only at q0 q1 q2 q3
      have QK : Hid (∀ X, Below n W X → X.cell? ⟨gl, off + i * 4, none⟩ = some (.int .i64 kd) ∧ X.cell? ⟨gl, off + i * 4 + 1, none⟩ = some (.int .i64 oi)) := fun X hX => by
        obtain ⟨a', cap', e', hc, _⟩ := HI.out.below hX
        simp only [Value.slice.injEq] at e'
        obtain ⟨rfl, _, rfl⟩ := e'
        obtain ⟨g2, off2, e2, _, hcs⟩ := hc (by omega)
        cases e2
        obtain ⟨p0, p1, _⟩ := hcs i _ hx
        exact ⟨p0, p1⟩
      have d0 := HD.out.c0
      obtain ⟨t, ht⟩ : ∃ t, whenV nw ⟨kd, oi, oa, on⟩ = t := ⟨_, rfl⟩
      have WH : Hid (∀ X, Calls Try.prog 10 #[.int .i64 nw, .agg #[.int .i64 kd, .int .i64 oi, .int .i64 oa, .bool on]] X fun e w' => e = .returned (.int .i64 t) ∧ Below X.heap.size X w') := fun X => by
        have := when_any X nw ⟨kd, oi, oa, on⟩
        rw [ht] at this
        exact this
      have zi : (i : Int) < (l.length : Int) := by omega
      clear hcs hc hx hr ht hgl
      go_upto_region 11 with fail
      go_cut [11] from 53 to 202 (fun v11 wc => v11 = .int .i64 t ∧ Hid (Below wr.heap.size wr wc))
      case first =>
        go_region_with (go_at_call 10; refine (WH.out _).mono ?_; rintro e w4 ⟨rfl, b4⟩)
        all_goals go_wp2
        all_goals go_meet
        all_goals exact ⟨rfl, undrewN b4⟩
      case rest =>
        obtain ⟨rfl, b4⟩ := hcut
        have D4 := hide (HD.out.later b4.out)
        obtain ⟨q0', q1'⟩ := QK.out _ D4.out.below
        clear q0 q1 q2 q3 d0 HD b4 WH
        have HL4 := hide D4.out.len64
        have HU4 := hide D4.out.uniq
        by_cases k0 : kd = 0
        · subst k0
          obtain ⟨ae, hae⟩ : ∃ x, arE nw L oi t = x := ⟨_, rfl⟩
          obtain ⟨L', hL'⟩ : ∃ x, arL nw L oi t = x := ⟨_, rfl⟩
          have X1 : Hid (∀ X, Duo n W X b r nw L nw L none → Calls Try.prog 11 #[.pointer (some ⟨b, 0, none⟩), .int .i64 oi, .int .i64 t] X fun e w' => e = .returned (.int .i64 ae) ∧ Duo n W w' b r nw L' nw L none) := fun X h => by rw [← hae, ← hL']; exact h.arm NW.out oi t
          have X2 : Hid (∀ X, Duo n W X b r nw L' nw L none → Calls Try.prog 12 #[.pointer (some ⟨r, 0, none⟩), .int .i64 oi, .int .i64 t] X fun e w' => e = .returned (.int .i64 ae) ∧ Duo n W w' b r nw L' nw L' none) := fun X h => by
            have := h.rarm HL4.out oi t
            rw [hae] at this
            rw [hL'] at this
            exact this
          have keepS : Hid (∀ X, Below n W X → X.cell? ⟨gl, off + i * 4 + 1, none⟩ = some (.int .i64 oi)) := fun X h => (QK.out X h).2
          have q4 : Below n W wc.drew := D4.out.below.trans ((drew_below wc).mono D4.out.nle)
          clear hae hL'
          go_wp2
          go_region_held (fun X => X.cell? ⟨gl, off + i * 4 + 1, none⟩ = some (.int .i64 oi)) (exact keepS.out _ (by assumption))
            (first
              | (go_at_call 11; refine (X1.out _ (D4.out.later (drew_below _))).mono ?_; rintro e w5 ⟨rfl, d5⟩; have D5 := hide d5; have q5 : Below n W w5 := d5.below; clear d5)
              | (go_at_call 12; refine (X2.out _ D5.out).mono ?_; rintro e w6 ⟨rfl, d6⟩; have D9 := hide d6; have q6 : Below n W w6 := d6.below; clear d6))
          have N9 := NW
          clear q4 q5 q6 keepS X1 X2 D4 D5 NW q0' q1'
          have NX := hide D9.out.next
          have RN := hide (D9.out.rnext D9.out.len64)
          go_wp2_with fail
          refine NX.out.mono ?_
          rintro e w9 ⟨m, rfl, hm, rfl⟩
          have HM := hide hm
          clear hm NX
          go_wp2_with fail
          refine RN.out.mono ?_
          rintro e w10 ⟨m', rfl, hm', rfl⟩
          obtain rfl := HM.out.same hm'
          clear RN HM hm'
          generalize m.getD 0 = mg
          generalize m.isSome = ms
          have XN := hide (fun k => (D9.out.later (drewN_below _ k)).tells)
          have XL := hide (fun k => (D9.out.later (drewN_below _ k)).len)
          have e0 := D9.out.c0
          obtain ⟨ca, cc, e1⟩ := D9.out.c1
          have NQ := hide (fun k => D9.out.later (drewN_below _ k))
          go_upto_region 29 with fail
          go_quiet (first | (go_at_call 22; exact Calls.quiet_of_same (XN.out _)) | (go_at_call 23; exact Calls.quiet_of_same (XL.out _)))
          go_wp2
          go_roundw
          case rel => exact ⟨i + 1, _, _, by go_num, by omega, N9.out, NQ.out _⟩
          case measure => simp [intOf]; omega
        by_cases k1 : kd = 1
        · subst k1
          obtain ⟨ae, hae⟩ : ∃ x, (if has L oi = true then (0 : Int) else 7) = x := ⟨_, rfl⟩
          obtain ⟨L', hL'⟩ : ∃ x, noId L oi = x := ⟨_, rfl⟩
          have X1 : Hid (∀ X, Duo n W X b r nw L nw L none → Calls Try.prog 13 #[.pointer (some ⟨b, 0, none⟩), .int .i64 oi] X fun e w' => e = .returned (.int .i64 ae) ∧ Duo n W w' b r nw L' nw L none) := fun X h => by rw [← hae, ← hL']; exact h.cancel oi
          have X2 : Hid (∀ X, Duo n W X b r nw L' nw L none → Calls Try.prog 14 #[.pointer (some ⟨r, 0, none⟩), .int .i64 oi] X fun e w' => e = .returned (.int .i64 ae) ∧ Duo n W w' b r nw L' nw L' none) := fun X h => by
            have := h.rcancel HL4.out oi
            rw [hae] at this
            rw [hL'] at this
            exact this
          have keepS : Hid (∀ X, Below n W X → X.cell? ⟨gl, off + i * 4 + 1, none⟩ = some (.int .i64 oi)) := fun X h => (QK.out X h).2
          have q4 : Below n W wc.drew := D4.out.below.trans ((drew_below wc).mono D4.out.nle)
          clear hae hL'
          go_wp2
          go_region_held (fun X => X.cell? ⟨gl, off + i * 4 + 1, none⟩ = some (.int .i64 oi)) (exact keepS.out _ (by assumption))
            (first
              | (go_at_call 13; refine (X1.out _ (D4.out.later (drew_below _))).mono ?_; rintro e w5 ⟨rfl, d5⟩; have D5 := hide d5; have q5 : Below n W w5 := d5.below; clear d5)
              | (go_at_call 14; refine (X2.out _ D5.out).mono ?_; rintro e w6 ⟨rfl, d6⟩; have D9 := hide d6; have q6 : Below n W w6 := d6.below; clear d6))
          have N9 := NW
          clear q4 q5 q6 keepS X1 X2 D4 D5 NW q0' q1'
          have NX := hide D9.out.next
          have RN := hide (D9.out.rnext D9.out.len64)
          go_wp2_with fail
          refine NX.out.mono ?_
          rintro e w9 ⟨m, rfl, hm, rfl⟩
          have HM := hide hm
          clear hm NX
          go_wp2_with fail
          refine RN.out.mono ?_
          rintro e w10 ⟨m', rfl, hm', rfl⟩
          obtain rfl := HM.out.same hm'
          clear RN HM hm'
          generalize m.getD 0 = mg
          generalize m.isSome = ms
          have XN := hide (fun k => (D9.out.later (drewN_below _ k)).tells)
          have XL := hide (fun k => (D9.out.later (drewN_below _ k)).len)
          have e0 := D9.out.c0
          obtain ⟨ca, cc, e1⟩ := D9.out.c1
          have NQ := hide (fun k => D9.out.later (drewN_below _ k))
          go_upto_region 29 with fail
          go_quiet (first | (go_at_call 22; exact Calls.quiet_of_same (XN.out _)) | (go_at_call 23; exact Calls.quiet_of_same (XL.out _)))
          go_wp2
          go_roundw
          case rel => exact ⟨i + 1, _, _, by go_num, by omega, N9.out, NQ.out _⟩
          case measure => simp [intOf]; omega
        by_cases k2 : kd = 2
        · subst k2
          have X1 := hide (D4.out.due oi)
          have X2 : Hid (∀ X, Duo n W X b r nw L nw L none → Calls Try.prog 16 #[.pointer (some ⟨r, 0, none⟩), .int .i64 oi] X fun e w' => e = .returned (.tuple #[.int .i64 ((dueOf L oi).getD 0), .bool (dueOf L oi).isSome]) ∧ w' = X) := fun X h => h.rdue h.len64 oi
          generalize (dueOf L oi).getD 0 = du at *
          generalize (dueOf L oi).isSome = ds at *
          go_wp2_with fail
          refine X1.out.mono ?_
          rintro e w5 ⟨rfl, d5⟩
          obtain ⟨q0, q1⟩ := QK.out _ d5.below
          have D5 := hide d5
          clear d5 X1 D4 q0' q1'
          go_wp2_with fail
          refine (X2.out _ D5.out).mono ?_
          rintro e w6 ⟨rfl, rfl⟩
          have D9 := D5
          have N9 := NW
          clear X2 D5 NW
          have NX := hide D9.out.next
          have RN := hide (D9.out.rnext D9.out.len64)
          go_wp2_with fail
          refine NX.out.mono ?_
          rintro e w9 ⟨m, rfl, hm, rfl⟩
          have HM := hide hm
          clear hm NX
          go_wp2_with fail
          refine RN.out.mono ?_
          rintro e w10 ⟨m', rfl, hm', rfl⟩
          obtain rfl := HM.out.same hm'
          clear RN HM hm'
          generalize m.getD 0 = mg
          generalize m.isSome = ms
          have XN := hide (fun k => (D9.out.later (drewN_below _ k)).tells)
          have XL := hide (fun k => (D9.out.later (drewN_below _ k)).len)
          have e0 := D9.out.c0
          obtain ⟨ca, cc, e1⟩ := D9.out.c1
          have NQ := hide (fun k => D9.out.later (drewN_below _ k))
          go_upto_region 29 with fail
          go_quiet (first | (go_at_call 22; exact Calls.quiet_of_same (XN.out _)) | (go_at_call 23; exact Calls.quiet_of_same (XL.out _)))
          go_wp2
          go_roundw
          case rel => exact ⟨i + 1, _, _, by go_num, by omega, N9.out, NQ.out _⟩
          case measure => simp [intOf]; omega
        by_cases k3 : kd = 3
        · subst k3
          cases hab : adBad nw t
          · have t0 : Hid (0 ≤ t) := by
              have h1 := NW.out
              unfold adBad at hab
              simp only [Bool.or_eq_false_iff, decide_eq_false_iff_not] at hab
              show _ ≤ _
              omega
            have X1 := hide (D4.out.adv t hab)
            have HAB := hide hab
            clear hab
            go_wp2_with fail
            refine X1.out.mono ?_
            rintro e w5 ⟨O, v1, rfl, o1, r1, g1, d5⟩
            have X2 := hide (d5.radv HL4.out HU4.out t HAB.out)
            have O1 := hide o1
            have R1 := hide r1
            have G1 := hide g1
            have AV := hide d5.avoid
            clear o1 r1 g1 d5 X1 D4 q0' q1'
            go_wp2_with fail
            refine X2.out.mono ?_
            rintro e w6 ⟨O2, v2, rfl, o2, r2, a2, d6, b6⟩
            obtain rfl : O2 = O := o2.same O1.out
            have X3 := hide (same_any (R1.out.keep b6 (fun k hk (e : k = r) => AV.out k hk e)) r2 (fun k hk => a2 k hk) (Nat.le_trans (out_len o2 HU4.out) HL4.out))
            have D6 := hide d6
            clear o2 r2 a2 d6 b6 X2 R1 O1
            go_wp2_with fail
            refine X3.out.mono ?_
            rintro e w7 ⟨rfl, b7⟩
            have D9 := hide (D6.out.but b7 (fun k hk => ⟨hk, G1.out k hk⟩))
            have N9 := t0
            clear b7 X3 D6 G1 AV HAB NW t0
            have NX := hide D9.out.next
            have RN := hide (D9.out.rnext D9.out.len64)
            go_wp2_with fail
            refine NX.out.mono ?_
            rintro e w9 ⟨m, rfl, hm, rfl⟩
            have HM := hide hm
            clear hm NX
            go_wp2_with fail
            refine RN.out.mono ?_
            rintro e w10 ⟨m', rfl, hm', rfl⟩
            obtain rfl := HM.out.same hm'
            clear RN HM hm'
            generalize m.getD 0 = mg
            generalize m.isSome = ms
            have XN := hide (fun k => (D9.out.later (drewN_below _ k)).tells)
            have XL := hide (fun k => (D9.out.later (drewN_below _ k)).len)
            have e0 := D9.out.c0
            obtain ⟨ca, cc, e1⟩ := D9.out.c1
            have NQ := hide (fun k => D9.out.later (drewN_below _ k))
            go_upto_region 29 with fail
            go_quiet (first | (go_at_call 22; exact Calls.quiet_of_same (XN.out _)) | (go_at_call 23; exact Calls.quiet_of_same (XL.out _)))
            go_wp2
            go_roundw
            case rel => exact ⟨i + 1, _, _, by go_num, by omega, N9.out, NQ.out _⟩
            case measure => simp [intOf]; omega
          · have X1 := hide (D4.out.advBad t hab)
            have X2 := hide (D4.out.radvBad HL4.out HU4.out t hab)
            have X3 := hide (same_any (w := wc) (va := .slice none 0 0) (vb := .slice none 0 0) (O := []) (World.ownsRow_nil _ _ _ _) (World.ownsRow_nil _ _ _ _) (fun k hk => by cases hk) (Nat.zero_le _))
            clear hab
            go_wp2_with fail
            refine X1.out.mono ?_
            rintro e w5 ⟨rfl, rfl⟩
            clear X1
            go_wp2_with fail
            refine X2.out.mono ?_
            rintro e w6 ⟨rfl, rfl⟩
            clear X2
            go_wp2_with fail
            refine X3.out.mono ?_
            rintro e w7 ⟨rfl, b7⟩
            have D9 := hide (D4.out.but b7 (fun k hk => by cases hk))
            have N9 := NW
            clear b7 X3 D4 NW q0' q1'
            have NX := hide D9.out.next
            have RN := hide (D9.out.rnext D9.out.len64)
            go_wp2_with fail
            refine NX.out.mono ?_
            rintro e w9 ⟨m, rfl, hm, rfl⟩
            have HM := hide hm
            clear hm NX
            go_wp2_with fail
            refine RN.out.mono ?_
            rintro e w10 ⟨m', rfl, hm', rfl⟩
            obtain rfl := HM.out.same hm'
            clear RN HM hm'
            generalize m.getD 0 = mg
            generalize m.isSome = ms
            have XN := hide (fun k => (D9.out.later (drewN_below _ k)).tells)
            have XL := hide (fun k => (D9.out.later (drewN_below _ k)).len)
            have e0 := D9.out.c0
            obtain ⟨ca, cc, e1⟩ := D9.out.c1
            have NQ := hide (fun k => D9.out.later (drewN_below _ k))
            go_upto_region 29 with fail
            go_quiet (first | (go_at_call 22; exact Calls.quiet_of_same (XN.out _)) | (go_at_call 23; exact Calls.quiet_of_same (XL.out _)))
            go_wp2
            go_roundw
            case rel => exact ⟨i + 1, _, _, by go_num, by omega, N9.out, NQ.out _⟩
            case measure => simp [intOf]; omega
        · have D9 := D4
          have N9 := NW
          clear D4 NW
          have NX := hide D9.out.next
          have RN := hide (D9.out.rnext D9.out.len64)
          go_wp2_with fail
          refine NX.out.mono ?_
          rintro e w9 ⟨m, rfl, hm, rfl⟩
          have HM := hide hm
          clear hm NX
          go_wp2_with fail
          refine RN.out.mono ?_
          rintro e w10 ⟨m', rfl, hm', rfl⟩
          obtain rfl := HM.out.same hm'
          clear RN HM hm'
          generalize m.getD 0 = mg
          generalize m.isSome = ms
          have XN := hide (fun k => (D9.out.later (drewN_below _ k)).tells)
          have XL := hide (fun k => (D9.out.later (drewN_below _ k)).len)
          have e0 := D9.out.c0
          obtain ⟨ca, cc, e1⟩ := D9.out.c1
          have NQ := hide (fun k => D9.out.later (drewN_below _ k))
          go_upto_region 29 with fail
          go_quiet (first | (go_at_call 22; exact Calls.quiet_of_same (XN.out _)) | (go_at_call 23; exact Calls.quiet_of_same (XL.out _)))
          go_wp2
          go_roundw
          case rel => exact ⟨i + 1, _, _, by go_num, by omega, N9.out, NQ.out _⟩
          case measure => simp [intOf]; omega
    · obtain rfl : i = l.length := by omega
      have B4 := hide HD.out.below
      go_wp2
      go_ret
      exact ⟨rfl, by rw [HN.out]; exact B4.out⟩
end Go.Proofs.Ytglbobobifejmaa
