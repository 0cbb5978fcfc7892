
/-
  RingFills: its walk.
-/
import Derived.Test.YtjkfjijnjkpbbaaS25
import Derived.Deep.RegionHeld3
namespace Go.Proofs.Ytjkfjijnjkpbbaa
open Go.RowKit

/-- the buffers that lie ready, as numbers -/
theorem Hz.ready' {n : Nat} {X : Rg} {hl : Nat → Nat} {g : Nat} (h : Hz n X hl g) {j : Nat} {z : Int} (hz : X.c.ids[j]? = some z) : ∃ i : Nat, z = i ∧ i < n ∧ X.B i = ⟨1, [], []⟩ ∧ seX n X.B z = ⟨1, [], []⟩ ∧ hoE n X.B z = 0 := by
  have hm := List.mem_of_getElem? hz
  have hr := h.rc z hm
  obtain ⟨i, rfl⟩ : ∃ i : Nat, z = i := ⟨z.toNat, by omega⟩
  have hi : i < n := by omega
  obtain ⟨h1, h2, h3⟩ := h.cb i hi hm
  have e : X.B i = ⟨1, [], []⟩ := by
    cases hb : X.B i with
    | mk r hd d => rw [hb] at h1 h2 h3; simp only at h1 h2 h3; rw [h1, h2, h3]
  have hu : usd n X.B (i : Int) = true := usd_nat hi (by omega)
  exact ⟨i, rfl, hi, e, by unfold seX; rw [if_pos hu]; simpa using e, by unfold hoE; rw [if_pos hu]⟩
theorem Hz.apart {n : Nat} {X : Rg} {hl : Nat → Nat} {g : Nat} (h : Hz n X hl g) {j k : Nat} {y z : Int} (hj : X.c.ids[j]? = some y) (hk : X.c.ids[k]? = some z) (hlt : j < k) : (y == z) = false := by
  rw [beq_eq_false_iff_ne]
  intro e
  subst e
  have hm := List.mem_of_getElem? hj
  have hr := h.rc y hm
  obtain ⟨i, rfl⟩ : ∃ i : Nat, y = i := ⟨y.toNat, by omega⟩
  have c1 := (h.one (by omega) hm).1
  have e1 : X.c.ids = X.c.ids.take k ++ X.c.ids.drop k := (List.take_append_drop _ _).symm
  rw [e1, List.count_append] at c1
  have p1 : 0 < (X.c.ids.take k).count (i : Int) := List.count_pos_iff.2 (List.mem_of_getElem? (i := j) (by rw [List.getElem?_take, if_pos hlt]; exact hj))
  have p2 : 0 < (X.c.ids.drop k).count (i : Int) := List.count_pos_iff.2 (List.mem_of_getElem? (i := 0) (by rw [List.getElem?_drop]; exact hk))
  omega

set_option maxRecDepth 100000 in
set_option maxHeartbeats 4000000 in
theorem Fills_walk (many : Int) (v : Value) (l : List OpV) (W : World) (hI : IsO W.heap.size W v l) (hl : l.length ≤ 2932031007318) :
    Calls Try.prog 6 #[.int .i64 many, v] W fun e W' => e = .returned (.bool true) ∧ Below W.heap.size W W' := by
  have HI := hide hI
  obtain ⟨a, cap, rfl, _, _⟩ := hI
  have ZL : Hid (l.length ≤ 2932031007318) := hl
  have zl : (l.length : Int) ≤ 2932031007318 := by omega
  clear hl
  by_cases hmany : many < 1 ∨ 60 < many
  · have XB := hide (fun w => begun_no w many hmany)
    go_enter Try.func6, Try.ntmps6
    go_wp2_with fail
    refine (awake_any W).mono ?_
    rintro _ w1 ⟨rfl, hb1⟩
    go_wp2_with fail
    refine (XB.out w1).mono ?_
    rintro _ w2 ⟨rfl, hw⟩
    subst hw
    rcases hmany with h | h
    · go_wp2
      go_ret
      exact ⟨rfl, hb1⟩
    · have h1 : ¬ many < 1 := by omega
      go_wp2
      go_ret
      exact ⟨rfl, hb1⟩
  · obtain ⟨n, rfl⟩ : ∃ n : Nat, many = n := ⟨many.toNat, by omega⟩
    have n0 : 0 < n := by omega
    have n60 : n ≤ 60 := by omega
    have z0 : ¬ (n : Int) < 1 := by omega
    have z1 : (n : Int) ≤ 60 := by omega
    clear hmany
    go_enter Try.func6, Try.ntmps6
    go_wp2_with fail
    refine (awake_any W).mono ?_
    rintro _ w1 ⟨rfl, hb1⟩
    have B1 := hide hb1
    clear hb1
    go_wp2_with fail
    refine (begun2_yes w1 n n0 n60).mono ?_
    rintro _ w2 ⟨x, q, k, ρ, tv, cv, rfl, t2, b2, r2⟩
    have S0 : Hid (Fst W.heap.size W x q k n 0 ρ (rg0 n) (rg0 n) tv cv (.slice none 0 0) (.slice none 0 0) [] [] w2) := ⟨t2, B1.out.trans (b2.mono B1.out.size), fun g e => Nat.le_trans B1.out.size (r2 g e), inv0 n, Nat.le_refl _⟩
    clear t2 b2 r2 B1
    go_wp2
    go_loopw [7] (fun v7 wr => ∃ (i : Nat) (ρ : Nat → Nat) (X Y : Rg) (tv cv ov mv : Value) (Cm Mn : List Int), v7 = .int .i64 (i : Int) ∧ i ≤ l.length ∧ Hid (Fst W.heap.size W x q k n i ρ X Y tv cv ov mv Cm Mn wr)) (fun v7 _ => l.length - (intOf v7).toNat)
    case atStart => exact ⟨0, ρ, _, _, _, _, _, _, _, _, rfl, Nat.zero_le _, S0.out⟩
    case round =>
      clear S0
      obtain ⟨i, ρ, X, Y, tv, cv, ov, mv, Cm, Mn, rfl, hi, hS⟩ := hrel
      by_cases hlt : i < l.length
      · have zi : (i : Int) < (l.length : Int) := by omega
        obtain ⟨o, ho⟩ : ∃ o, l[i]? = some o := ⟨_, List.getElem?_eq_getElem hlt⟩
        obtain ⟨a', cap', e', hc', hf'⟩ := HI.out.below hS.out.b
        simp only [Value.slice.injEq, true_and] at e'
        obtain ⟨rfl, rfl⟩ := e'
        obtain ⟨og, off, rfl, hog, hcs⟩ := hc' (by omega)
        obtain ⟨o0, o1, o2, o3⟩ := hcs i o ho
        obtain ⟨io, iol, ioc⟩ := hf' o (List.mem_of_getElem? ho)
        obtain ⟨kd, kk, bv, bs, ys⟩ := o
        simp only at o0 o1 o2 o3 io iol ioc
        obtain ⟨ba, bc, rfl, _⟩ := io.shape
        have XD := hide (does_any hS.out.t hS.out.i (by have := ZL.out; omega) (by have := hS.out.i.x.len; have := ZL.out; omega) (by have := hS.out.m; have := ZL.out; omega) hS.out.r kd kk ys ba bc bs iol io hS.out.b.size (ioc _ _ _ rfl))
        clear hcs hc' hf' ho io iol ioc
        go_wp2_with fail
        refine XD.out.mono ?_
        rintro _ w3 ⟨b3, ρ3, tv3, cv3, ov3, mv3, X3, Y3, Cm3, Mn3, rfl, t3, m3, i3, l3, _, _⟩
        have F3 := hide (hS.out.mv (Nat.le_refl _) (i' := i + 1) m3 t3 i3 (by have := hS.out.m; omega))
        clear t3 m3 i3 l3 XD o0 o1 o2 o3 hS
        obtain ⟨hlX, gX, zX, _⟩ := F3.out.i.x
        have XP := hide (Poll_any F3.out.t.p.p zX F3.out.i.bx (by have := ZL.out; omega))
        have c2 := F3.out.t.p.c2
        have ZF := hide (poll_full zX)
        have ZX := hide zX.poll.1
        clear zX
        go_wp2_with fail
        refine XP.out.mono ?_
        rintro _ w4 ⟨v4, rfl, _, p4, b4⟩
        have t4 := F3.out.t.prog (X' := X3.poll n) b4 p4
        have F4 := hide (F3.out.mv (Nat.le_refl _) (i' := i + 1) (Mv.of F3.out.t.lt b4 (fun g e => by have := F3.out.t.pk g e; omega)) t4 F3.out.i.pollX F3.out.m)
        generalize X3.poll n = X4 at *
        have XC := hide (Coming_any t4.p.p)
        have c24 := t4.p.c2
        clear t4 p4 b4 XP c2 F3
        go_wp2_with fail
        refine XC.out.mono ?_
        rintro _ w5 ⟨v5, rfl, o5, b5⟩
        obtain ⟨C, hC⟩ : ∃ C, C = X4.c.ids := ⟨_, rfl⟩
        rw [← hC] at o5
        obtain ⟨ca, cc, rfl, hs5, _⟩ := row_shape o5
        have C15 : C.length ≤ 15 := by rw [hC]; exact ZX.out.cm
        have zC : (C.length : Int) ≤ 15 := by omega
        have F5 := hide (F4.out.later (Nat.le_refl _) b5)
        have O5 := hide o5
        have HC := hide hC
        have HS5 := hide hs5
        have CO5 : Hid (∀ z t, C[t]? = some z → ∀ rg, ca = some ⟨rg, 0, none⟩ → w5.cell? ⟨rg, t, none⟩ = some (.int .i64 z)) := fun z t ht rg e => by
          subst e
          have tl : t < C.length := (List.getElem?_eq_some_iff.1 ht).1
          have o := O5.out
          rw [World.ownsRow.cellAt o t (by omega), ints_get, ht]; rfl
        have XL := hide (Left_any F5.out.t.p.p.pool)
        have c1 := F5.out.t.p.c1
        have LEFT : Hid (¬ C.length = 15 → (lft X4.B n : Int) = 0) := fun h => by
          rcases ZF.out with h1 | h1
          · rw [← HC.out] at h1; exact absurd h1 h
          · rw [lft_none (gt_none h1)]; rfl
        clear hC o5 hs5 b5 XC c24 F4
        go_upto_region 11 with fail
        go_cut [68] from 31 to 113 (fun v68 wc => v68 = .bool false ∧ w5 = wc)
        case first =>
          by_cases h15 : C.length = 15
          · have z15 : ¬ (15 : Int) < (C.length : Int) := by omega
            have z16 : ¬ (C.length : Int) < 15 := by omega
            clear h15
            go_wp2
            go_meet
            exact ⟨rfl, rfl⟩
          · have z15 : ¬ (15 : Int) < (C.length : Int) := by omega
            have z16 : (C.length : Int) < 15 := by omega
            rw [LEFT.out h15] at XL
            go_wp2_with fail
            refine XL.out.mono ?_
            rintro _ w6 ⟨rfl, hw⟩
            have hw' := hw.symm
            subst hw'
            go_wp2
            go_meet
            exact ⟨rfl, rfl⟩
        case rest =>
          obtain ⟨rfl, rfl⟩ := hcut
          clear XL c1 LEFT ZF
          go_wp2
          go_loopw [9] (fun v9 wr2 => ∃ t : Nat, v9 = .int .i64 (t : Int) ∧ t ≤ C.length ∧ Hid (Below w5.heap.size w5 wr2)) (fun v9 _ => C.length - (intOf v9).toNat)
          case atStart => exact ⟨0, rfl, Nat.zero_le _, Below.refl _ _⟩
          case round =>
            obtain ⟨t, rfl, htl, hB⟩ := hrel
            by_cases htt : t < C.length
            · have zt : (t : Int) < (C.length : Int) := by omega
              obtain ⟨z, hz⟩ : ∃ z, C[t]? = some z := ⟨_, List.getElem?_eq_getElem htt⟩
              obtain ⟨rg, rfl, hrg⟩ := HS5.out (by omega)
              have lrg : rg < w5.heap.size := (World.ownsRow.lt O5.out rg rfl).2
              have cell : ∀ W', Below w5.heap.size w5 W' → ∀ y u, C[u]? = some y → W'.cell? ⟨rg, u, none⟩ = some (.int .i64 y) := fun W' hb y u hu => (hb.cell (p := ⟨rg, u, none⟩) lrg).trans (CO5.out y u hu rg rfl)
              have CELL := hide cell
              have HZ := hide hz
              have cz := cell _ hB.out z t hz
              obtain ⟨zi', hz1, hz2, hz3, eS, eH⟩ := ZX.out.ready' (by rw [← HC.out]; exact hz)
              clear hz1 hz2 hz3
              have F6 := hide (F5.out.later (Nat.le_refl _) hB.out)
              have XE : Hid (∀ w', Below wr.heap.size wr w' → Calls Try.prog 12 #[.pointer (some ⟨q.p, 0, none⟩), .int .i64 z] w' fun e w6 => ∃ ha hc da dc, e = .returned (.tuple #[.agg #[.int .i64 1, .slice ha 0 hc, .slice da 0 dc], .int .i64 0]) ∧ Below w'.heap.size w' w6) := fun w' hb' => by
                refine (See_any (F6.out.t.later hb').p.p.pool z).mono ?_
                rintro e w6 ⟨ha, hc, da, dc, rfl, hsn, hbw⟩
                rw [eS, eH]
                exact ⟨_, _, _, _, rfl, hbw⟩
              have kx := F6.out.t.p.c1
              have b0 : But (fun _ => False) wr (wr.alloc (.cells #[.int .i64 0, .slice none 0 0, .slice none 0 0] 35)) := (But.refl _ _).alloc _
              have B0 : Hid (Below wr.heap.size wr (wr.alloc (.cells #[.int .i64 0, .slice none 0 0, .slice none 0 0] 35))) := b0.below (Nat.le_refl _) (fun _ _ => id)
              have T0 := hide (PTri.new wr 35)
              have u1 : x < wr.heap.size := F6.out.t.p.xlt
              have u2 : rg < wr.heap.size := Nat.lt_of_lt_of_le lrg hB.out.size
              have u3 : ¬ x = wr.heap.size := by omega
              have u4 : ¬ wr.heap.size = x := by omega
              have u5 : ¬ rg = wr.heap.size := by omega
              have u6 : ¬ wr.heap.size = rg := by omega
              have KP1 : Hid (∀ w', Below wr.heap.size wr w' → w'.cell? ⟨x, 1, none⟩ = some (.pointer (some ⟨q.p, 0, none⟩)) ∧ w'.cell? ⟨rg, t, none⟩ = some (.int .i64 z)) := fun w' hb' => ⟨(F6.out.t.later hb').p.c1, CELL.out _ (hB.out.trans (hb'.mono hB.out.size)) z t HZ.out⟩
              have KS : Hid (∀ w', Below wr.heap.size wr w' → Below wr.heap.size wr (w'.alloc (.cells #[.int .i64 0, .slice none 0 0, .slice none 0 0] 35))) := fun w' hb' => hb'.alloc hb'.size _
              have KS1 : Hid (∀ w', Below wr.heap.size wr w' → ∀ u, Below wr.heap.size wr (w'.setCell ⟨wr.heap.size, 0, none⟩ u)) := fun w' hb' u => hb'.setCell (p := ⟨wr.heap.size, 0, none⟩) (Nat.le_refl _) _
              have KS2 : Hid (∀ w', Below wr.heap.size wr w' → ∀ u v, Below wr.heap.size wr ((w'.setCell ⟨wr.heap.size, 0, none⟩ u).setCell ⟨wr.heap.size, 1, none⟩ v)) := fun w' hb' u v => (hb'.setCell (p := ⟨wr.heap.size, 0, none⟩) (Nat.le_refl _) _).setCell (p := ⟨wr.heap.size, 1, none⟩) (Nat.le_refl _) _
              have KS3 : Hid (∀ w', Below wr.heap.size wr w' → ∀ u v y, Below wr.heap.size wr (((w'.setCell ⟨wr.heap.size, 0, none⟩ u).setCell ⟨wr.heap.size, 1, none⟩ v).setCell ⟨wr.heap.size, 2, none⟩ y)) := fun w' hb' u v y => ((hb'.setCell (p := ⟨wr.heap.size, 0, none⟩) (Nat.le_refl _) _).setCell (p := ⟨wr.heap.size, 1, none⟩) (Nat.le_refl _) _).setCell (p := ⟨wr.heap.size, 2, none⟩) (Nat.le_refl _) _
              have q0' : Below wr.heap.size wr wr.drew := undrew0 (Below.refl _ _)
              clear cell hz b0 eS eH hrg
              go_upto_region 16 with fail
              go_cut [10, 11] from 69 to 113 (fun v10 v11 wc => v11 = .int .i64 0 ∧ ∃ sb da dc, v10 = .pointer (some ⟨sb, 0, none⟩) ∧ Hid (Below wr.heap.size wr wc ∧ wc.cell? ⟨sb, 0, none⟩ = some (.int .i64 1) ∧ wc.cell? ⟨sb, 2, none⟩ = some (.slice da 0 dc)))
              case first =>
                go_region_held3 (fun w' => w'.cell? ⟨x, 1, none⟩ = some (.pointer (some ⟨q.p, 0, none⟩)) ∧ w'.cell? ⟨rg, t, none⟩ = some (.int .i64 z)) (first | exact KP1.out _ (by assumption) | exact KP1.out _ B0.out | exact KP1.out _ (undrew0 B0.out) | exact KP1.out _ F13.out.1 | exact KP1.out _ (KS.out _ (by assumption)) | exact KP1.out _ (KS1.out _ (by assumption) _) | exact KP1.out _ (KS2.out _ (by assumption) _ _) | exact KP1.out _ (KS3.out _ (by assumption) _ _ _)) (first
                  | (go_at_call 12; refine (XE.out wr.drew (undrew0 (Below.refl _ _))).mono ?_; rintro _ w13 ⟨ha, hc, da, dc, rfl, b13⟩; have F13 := hide (sea1 (w5 := wr) (undrew b13) 1 (.slice ha 0 hc) (.slice da 0 dc)); have q13 : Below wr.heap.size wr w13 := undrew b13; clear b13)
                  | (go_at_call 12; refine (XE.out (wr.alloc (.cells #[.int .i64 0, .slice none 0 0, .slice none 0 0] 35)).drew (undrew0 B0.out)).mono ?_; rintro _ w13 ⟨ha, hc, da, dc, rfl, b13⟩; have t13 := T0.out.but (But.of_below (K := fun _ => False) (undrew b13)) id; have e0 := t13.c0; have e1 := t13.c1; have e2 := t13.c2; have f0 := t13.f 0; have f1 := t13.f 1; have f2 := t13.f 2; have F13 := hide (sea3 (w5 := wr) (undrew b13) B0.out t13 1 (.slice ha 0 hc) (.slice da 0 dc)); have q13 : Below wr.heap.size wr w13 := B0.out.trans ((undrew b13).mono B0.out.size); clear b13 t13))
                all_goals go_wp2
                all_goals go_meet
                all_goals exact ⟨rfl, _, _, _, rfl, F13.out⟩
              case rest =>
                obtain ⟨rfl, sb, da, dc, rfl, hcut2⟩ := hcut
                obtain ⟨b6, c60, c62⟩ := hcut2.out
                have B6 := hide (hB.out.trans (b6.mono hB.out.size))
                clear hcut2 b6 XE B0 T0 u1 u2 u3 u4 u5 u6 kx KP1 KS KS1 KS2 KS3 q0' F6 cz
                go_upto_region 20 with fail
                clear c60 c62
                go_loopw [12] (fun v12 wr3 => ∃ j : Nat, v12 = .int .i64 (j : Int) ∧ j ≤ t ∧ Hid (Below w5.heap.size w5 wr3)) (fun v12 _ => t - (intOf v12).toNat)
                case atStart => exact ⟨0, rfl, Nat.zero_le _, B6.out⟩
                case round =>
                  obtain ⟨j, rfl, hj, hB3⟩ := hrel
                  by_cases hjt : j < t
                  · have zj : (j : Int) < (t : Int) := by omega
                    have zj2 : (j : Int) < (C.length : Int) := by omega
                    obtain ⟨y, hy⟩ : ∃ y, C[j]? = some y := ⟨_, List.getElem?_eq_getElem (by omega)⟩
                    have ap := ZX.out.apart (j := j) (k := t) (by rw [← HC.out]; exact hy) (by rw [← HC.out]; exact HZ.out) hjt
                    have cy := CELL.out _ hB3.out y j hy
                    have cz := CELL.out _ hB3.out z t HZ.out
                    clear hy
                    go_upto_region 22 with fail
                    go_quiet (fail)
                    have B7 : Hid (Below w5.heap.size w5 (wr.drewN nq)) := undrewK0 hB3.out
                    clear cy cz
                    go_wp2
                    go_roundw
                    case rel => exact ⟨j + 1, by go_num, hjt, B7.out⟩
                    case measure => simp [intOf]; omega
                  · obtain rfl : j = t := by omega
                    have zj : ¬ (j : Int) < (j : Int) := by omega
                    go_wp2
                    go_roundw
                    case rel => exact ⟨j + 1, by go_num, htt, hB3.out⟩
                    case measure => simp [intOf]; omega
            · obtain rfl : t = C.length := by omega
              have zt : ¬ (C.length : Int) < (C.length : Int) := by omega
              have F7 := hide (F5.out.later (Nat.le_refl _) hB.out)
              go_wp2
              go_roundw
              case rel => exact ⟨i + 1, ρ3, _, _, _, _, _, _, _, _, by go_num, hlt, F7.out⟩
              case measure => simp [intOf]; omega
      · obtain rfl : i = l.length := by omega
        have zi : ¬ (l.length : Int) < (l.length : Int) := by omega
        have BF := hide hS.out.b
        go_wp2
        go_ret
        exact ⟨rfl, BF.out⟩
end Go.Proofs.Ytjkfjijnjkpbbaa
