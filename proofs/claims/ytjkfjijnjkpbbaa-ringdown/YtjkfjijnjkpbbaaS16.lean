
/-
  takes: the ends of a slice.
-/
import Derived.Test.YtjkfjijnjkpbbaaS15
import Derived.Deep.RegionHeld3
namespace Go.Proofs.Ytjkfjijnjkpbbaa
open Go.RowKit

set_option maxRecDepth 100000 in
set_option maxHeartbeats 4000000 in
theorem takes_end {ρ : Nat → Nat} {w : World} {x : Nat} {q k : Bl} {n : Nat} {X Y : Rg} {tv cv ov mv : Value} {Cm Mn : List Int} (h : Two ρ w x q k n X Y tv cv ov mv Cm Mn) (hml : Mn.length ≤ 4398046511104) {i : Nat} (hX : gt n X.B = some i) (hY : gt n Y.B = some i) {N : Nat} (hN : ∀ g, ρ g ≠ 0 → N ≤ g) (kd kk : Int) (ys : Bool) (bs : List Int) (hbl : bs.length ≤ 140737488351232) (kE : Nat) (hkE : bs.length = kE) (hkk : (kk = (kE : Int)) ∨ (kE = 0 ∧ (kk < 0 ∨ (kE : Int) < kk))) (bg off : Nat) (hv : IsF (fun g => N ≤ g) w (.slice (some ⟨bg, off, none⟩) kE kE) bs) (hNw : N ≤ w.heap.size) :
    Calls Try.prog 34 #[.pointer (some ⟨x, 0, none⟩), .agg #[.int .i64 kd, .int .i64 kk, (.slice (some ⟨bg, off, none⟩) kE kE), .bool ys]] w (TakesP ρ w x q k n X Y tv cv ov Cm Mn) := by
  have hcap : (kE : Int) ≤ 9223372036854775807 := by omega
  have HKE := hide hkE
  clear hkE
  have bA : Below w.heap.size w (w.alloc (.cells #[.int .i64 kd, .int .i64 kk, (.slice (some ⟨bg, off, none⟩) kE kE), .bool ys] 29)) := (Below.refl _ _).alloc (Nat.le_refl _) _
  have cz : ∀ j v, (#[.int .i64 kd, .int .i64 kk, (.slice (some ⟨bg, off, none⟩) kE kE), .bool ys] : Array Value)[j]? = some v → (w.alloc (.cells #[.int .i64 kd, .int .i64 kk, (.slice (some ⟨bg, off, none⟩) kE kE), .bool ys] 29)).cell? ⟨w.heap.size, j, none⟩ = some v := fun j v hv => by
    rw [cell_of_row _ w.heap.size j _ 29 (0, 0) (heap_alloc_new w _)]; exact hv
  have o1 := cz 1 _ rfl
  have o2 := cz 2 _ rfl
  have h0 := h.later bA
  have m0 := Mv.below h.lt bA
  have c1 := h0.p.c1
  have hv0 := hv.but (But.of_below (K := fun _ => False) bA) (fun _ e => e.elim)
  have so0 : ρ w.heap.size = 0 := by
    rcases Nat.eq_zero_or_pos (ρ w.heap.size) with e | e
    · exact e
    · have := h.lt _ (by omega : ρ w.heap.size ≠ 0); omega
  have sol : w.heap.size < (w.alloc (.cells #[.int .i64 kd, .int .i64 kk, (.slice (some ⟨bg, off, none⟩) kE kE), .bool ys] 29)).heap.size := by simp
  obtain ⟨hi, i0, il⟩ := gt_some hX
  obtain ⟨_, j0, jl⟩ := gt_some hY
  have XG := hide (Get_yes h0.p.p.pool i hi i0 il)
  have YN := hide (And.intro j0 jl)
  have T0 := hide h0
  have M0 := hide m0
  have HX := hide hX
  have HY := hide hY
  have HV := hide hv0
  have HN := hide hN
  have SO := hide (And.intro so0 sol)
  have O1 := hide o1
  have O2 := hide o2
  clear bA cz h h0 m0 i0 il j0 jl hX hY hv hv0 hN so0 sol o1 o2
  go_enter Try.func34, Try.ntmps34
  go_upto_region 1 with fail
  obtain ⟨so, hso⟩ : ∃ so, so = w.heap.size := ⟨_, rfl⟩
  rw [← hso] at O1 O2 SO ⊢
  have NSO : Hid (N ≤ so) := by rw [hso]; exact hNw
  generalize w.alloc (.cells #[.int .i64 kd, .int .i64 kk, (.slice (some ⟨bg, off, none⟩) kE kE), .bool ys] 29) = w0 at *
  clear hso hNw
  go_wp2_with fail
  refine XG.out.mono ?_
  rintro _ w1 ⟨rfl, p1, b1⟩
  obtain ⟨t1, m1⟩ := T0.out.pool b1 p1
  have T1 := hide t1
  have M1 := hide (M0.out.trans m1)
  have S1 := hide m1
  have YG := hide (rGet_yes (RQ.rf t1.r).pool i hi YN.out.1 YN.out.2)
  have c4 := t1.c4
  clear t1 m1 p1 b1 c1 XG YN
  go_wp2_with fail
  refine YG.out.mono ?_
  rintro _ w2 ⟨rfl, p2, b2⟩
  obtain ⟨t2, m2⟩ := T1.out.rpool b2 p2
  have s2 := S1.out.trans m2
  obtain ⟨ma, mc, em⟩ := t2.rm.shape
  obtain ⟨ml, hml2⟩ : ∃ ml, ml = Mn.length := ⟨_, rfl⟩
  rw [← hml2] at em
  subst em
  obtain ⟨a3, k3, w3, hrun, hrow, hb3⟩ := t2.rm.push (i : Int) (by omega)
  obtain ⟨c73, f73, ρ3, t3, m3⟩ := t2.setMine hb3 hrow
  rw [← hml2] at hrun t3 m3
  have c7 := t2.c7
  have HRN := hide hrun
  have T3 := hide t3
  have M3 := hide ((M1.out.trans m2).trans m3)
  have S3 := hide (s2.trans m3)
  have o13 := (S3.out.but.cell (p := ⟨so, 1, none⟩) SO.out.2 (by have := SO.out.1; show ¬ ρ so ≠ 0; omega)).trans O1.out
  have o23 := (S3.out.but.cell (p := ⟨so, 2, none⟩) SO.out.2 (by have := SO.out.1; show ¬ ρ so ≠ 0; omega)).trans O2.out
  have r30 : ρ3 so = 0 := (S3.out.old so SO.out.2).trans SO.out.1
  have HV3 := hide (HV.out.but S3.out.but (fun g e => HN.out g e))
  have HN3 : Hid (∀ g, ρ3 g ≠ 0 → N ≤ g) := fun g e => by
    rcases Nat.lt_or_ge g w0.heap.size with h1 | h1
    · rw [S3.out.old g h1] at e; exact HN.out g e
    · have h2 := SO.out.2; have h3 := NSO.out; omega
  have lso : so < (w3.setCell ⟨x, 7, none⟩ (.slice a3 (ml + 1) k3)).heap.size := Nat.lt_of_lt_of_le SO.out.2 S3.out.but.size
  have SO3 := hide (And.intro r30 lso)
  clear t2 m2 s2 p2 b2 T1 M1 S1 hrun hrow hb3 t3 m3 T0 M0 YG c4 hml2 HV S3 SO O1 O2 r30 lso HN
  go_upto_region 8 with (at_builtin; refine wpList_app rfl _ _ 31 31 rfl _ _ rfl rfl HRN.out ?_)
  clear c7 c73 f73 HRN
  generalize w3.setCell ⟨x, 7, none⟩ (.slice a3 (ml + 1) k3) = w4 at *
  have O2 := hide o23
  go_upto_region 9 with fail
  go_cut [56] (fun v56 wc => (∃ c : Bool, v56 = .bool c ∧ (c = true → kE = 0) ∧ (c = false → kk = (kE : Int))) ∧ w4 = wc)
  case first =>
    rcases hkk with rfl | ⟨rfl, hkk | hkk⟩
    · have z1 : ¬ (kE : Int) < 0 := by omega
      have z2 : ¬ (kE : Int) < (kE : Int) := by omega
      go_wp2
      go_meet
      exact ⟨⟨false, rfl, by simp, by simp⟩, rfl⟩
    · go_wp2
      go_meet
      exact ⟨⟨true, rfl, by simp, by simp⟩, rfl⟩
    · have z1 : ¬ kk < 0 := by omega
      have z3 : (0 : Int) < kk := by omega
      go_wp2
      go_meet
      exact ⟨⟨true, rfl, by simp, by simp⟩, rfl⟩
  case rest =>
    obtain ⟨⟨cb, rfl, hc1, hc2⟩, rfl⟩ := hcut
    clear hkk
    go_upto_if 56 with fail
    go_cut [9] (fun v9 wc => v9 = .int .i64 (kE : Int) ∧ w4 = wc)
    case first =>
      cases cb with
      | true =>
        have e := hc1 rfl
        subst e
        go_wp2
        go_meet
        exact ⟨rfl, rfl⟩
      | false =>
        have e := hc2 rfl
        subst e
        go_wp2
        go_meet
        exact ⟨rfl, rfl⟩
    case rest =>
     obtain ⟨rfl, rfl⟩ := hcut
     clear hc1 hc2 o13 o23
     have zk : (kE : Int) ≤ (kE : Int) := by omega
     have ID : Hid (IsF (fun g => N ≤ g) w4 (.slice (some ⟨bg, off, none⟩) 0 0) (bs.drop kE)) := by
       have := HV3.out.drop kE (by rw [HKE.out]; omega)
       rw [if_pos rfl, Nat.sub_self] at this
       exact this
     have IT : Hid (IsF (fun g => N ≤ g) w4 (.slice (some ⟨bg, off, none⟩) kE kE) (bs.take kE)) := HV3.out.take kE (by rw [HKE.out]; omega)
     have KP : Hid (∀ W, But (fun g => g = q.g ∨ g = k.g) w4 W → W.cell? ⟨x, 1, none⟩ = some (.pointer (some ⟨q.p, 0, none⟩)) ∧ W.cell? ⟨x, 4, none⟩ = some (.pointer (some ⟨k.p, 0, none⟩)) ∧ W.cell? ⟨so, 2, none⟩ = some (.slice (some ⟨bg, off, none⟩) kE kE)) := fun W hb => ⟨T3.out.cells hb 1 _ T3.out.p.c1, T3.out.cells hb 4 _ T3.out.c4, T3.out.roleless hb SO3.out.2 SO3.out.1 2 _ O2.out⟩
     have c1 := T3.out.p.c1
     have o2 := O2.out
     have XS : Hid (∀ W, Below w4.heap.size w4 W → Calls Try.prog 20 #[.pointer (some ⟨q.p, 0, none⟩), .int .i64 (i : Int), (.slice (some ⟨bg, off, none⟩) 0 0)] W fun e w' => (∃ v, e = .returned (.int .i64 v)) ∧ Hid (Two ρ3 w' x q k n ⟨X.D, stB n (upd X.B i ⟨1, [], []⟩) (i : Int) (bs.drop kE), X.s, X.c⟩ ⟨Y.D, upd Y.B i ⟨1, [], []⟩, Y.s, Y.c⟩ tv cv ov (.slice a3 (ml + 1) k3) Cm (Mn ++ [(i : Int)]) ∧ But (fun g => g = q.g ∨ g = k.g) w4 w')) := fun W hb => by
       have t := T3.out.later hb
       refine (Set_any t.p.p.pool (i : Int) _ _ (ID.out.later hb)).mono ?_
       rintro _ w' ⟨rfl, hp, hbb⟩
       obtain ⟨z1, z2⟩ := t.pool hbb hp
       exact ⟨⟨_, rfl⟩, z1, (But.of_below hb).trans (hbb.mono (fun g e => .inl e))⟩
     go_upto_region 11 with fail
     go_cut [] (fun wc => Hid (Two ρ3 wc x q k n ⟨X.D, stB n (upd X.B i ⟨1, [], []⟩) (i : Int) (bs.drop kE), X.s, X.c⟩ ⟨Y.D, upd Y.B i ⟨1, [], []⟩, Y.s, Y.c⟩ tv cv ov (.slice a3 (ml + 1) k3) Cm (Mn ++ [(i : Int)]) ∧ But (fun g => g = q.g ∨ g = k.g) w4 wc))
     case first =>
       have q7 : Below w4.heap.size w4 w4.drew := undrew0 (Below.refl _ _)
       go_region_with (go_at_call 20; refine (XS.out w4.drew q7).mono ?_; rintro _ w9 ⟨⟨vx, rfl⟩, F9⟩)
       all_goals go_wp2
       all_goals go_meet
       all_goals exact F9.out
     case rest =>
       obtain ⟨w5, hw5⟩ : ∃ w5, w5 = wc := ⟨_, rfl⟩
       rw [← hw5] at hcut ⊢
       clear hw5
       obtain ⟨t5, b5⟩ := hcut.out
       clear XS c1 o2
       obtain ⟨c15, c45, o25⟩ := KP.out w5 b5
       have T5 := hide t5
       have B5 := hide b5
       have XS2 : Hid (∀ W, Below w5.heap.size w5 W → Calls Try.prog 69 #[.pointer (some ⟨k.p, 0, none⟩), .int .i64 (i : Int), (.slice (some ⟨bg, off, none⟩) 0 0)] W fun e w' => (∃ v, e = .returned (.int .i64 v)) ∧ Hid (Two ρ3 w' x q k n ⟨X.D, stB n (upd X.B i ⟨1, [], []⟩) (i : Int) (bs.drop kE), X.s, X.c⟩ ⟨Y.D, stB n (upd Y.B i ⟨1, [], []⟩) (i : Int) (bs.drop kE), Y.s, Y.c⟩ tv cv ov (.slice a3 (ml + 1) k3) Cm (Mn ++ [(i : Int)]) ∧ But (fun g => g = q.g ∨ g = k.g) w4 w')) := fun W hb => by
         have t := T5.out.later hb
         have iv := (ID.out.but B5.out (fun g e => by
           rcases e with e | e
           · rw [e]; exact HN3.out _ (by rw [T3.out.q3]; omega)
           · rw [e]; exact HN3.out _ (by rw [RQ.g7 T3.out.r]; omega))).later hb
         refine (rSet_any (RQ.rf t.r).pool t.lt (i : Int) _ _ iv).mono ?_
         rintro _ w' ⟨rfl, hp, hbb⟩
         obtain ⟨z1, z2⟩ := t.rpool hbb hp
         exact ⟨⟨_, rfl⟩, z1, B5.out.trans ((But.of_below hb).trans (hbb.mono (fun g e => .inr e)))⟩
       clear t5 b5 hcut c15
       go_upto_region 12 with fail
       go_cut [] (fun wc => Hid (Two ρ3 wc x q k n ⟨X.D, stB n (upd X.B i ⟨1, [], []⟩) (i : Int) (bs.drop kE), X.s, X.c⟩ ⟨Y.D, stB n (upd Y.B i ⟨1, [], []⟩) (i : Int) (bs.drop kE), Y.s, Y.c⟩ tv cv ov (.slice a3 (ml + 1) k3) Cm (Mn ++ [(i : Int)]) ∧ But (fun g => g = q.g ∨ g = k.g) w4 wc))
       case first =>
         have q7 : Below w5.heap.size w5 w5.drew := undrew0 (Below.refl _ _)
         go_region_with (go_at_call 69; refine (XS2.out w5.drew q7).mono ?_; rintro _ w9 ⟨⟨vx, rfl⟩, F9⟩)
         all_goals go_wp2
         all_goals go_meet
         all_goals exact F9.out
       case rest =>
         obtain ⟨w6, hw6⟩ : ∃ w6, w6 = wc := ⟨_, rfl⟩
         rw [← hw6] at hcut ⊢
         clear hw6
         obtain ⟨t6, b6⟩ := hcut.out
         clear XS2 c45 o25 T5 B5
         have T6 := hide t6
         have B6 := hide b6
         obtain ⟨eX, heX⟩ : ∃ e, e = foE n (stB n (upd X.B i ⟨1, [], []⟩) (i : Int) (bs.drop kE)) (i : Int) (bs.take kE) := ⟨_, rfl⟩
         obtain ⟨eY, heY⟩ : ∃ e, e = foE n (stB n (upd Y.B i ⟨1, [], []⟩) (i : Int) (bs.drop kE)) (i : Int) (bs.take kE) := ⟨_, rfl⟩
         have rolN : ∀ g, (g = q.g ∨ g = k.g) → N ≤ g := fun g e => by
           rcases e with e | e
           · rw [e]; exact HN3.out _ (by rw [T3.out.q3]; omega)
           · rw [e]; exact HN3.out _ (by rw [RQ.g7 T3.out.r]; omega)
         have XF1 : Hid (∀ W, Below w6.heap.size w6 W → Calls Try.prog 70 #[.pointer (some ⟨q.p, 0, none⟩), .int .i64 (i : Int), (.slice (some ⟨bg, off, none⟩) kE kE)] W fun e w' => e = .returned (.int .i64 eX) ∧ Two ρ3 w' x q k n ⟨X.D, tkB n X.B i kE bs, X.s, X.c⟩ ⟨Y.D, stB n (upd Y.B i ⟨1, [], []⟩) (i : Int) (bs.drop kE), Y.s, Y.c⟩ tv cv ov (.slice a3 (ml + 1) k3) Cm (Mn ++ [(i : Int)]) ∧ But (fun g => g = q.g ∨ g = k.g) w4 w') := fun W hb => by
           have t := T6.out.later hb
           have iv := (IT.out.but B6.out rolN).later hb
           refine (Front_any t.p.p.pool (i : Int) _ _ iv).mono ?_
           rintro _ w' ⟨rfl, hp, hbb⟩
           obtain ⟨z1, z2⟩ := t.pool hbb hp
           exact ⟨by rw [heX], z1, B6.out.trans ((But.of_below hb).trans (hbb.mono (fun g e => .inl e)))⟩
         have XF2 : Hid (∀ W, Two ρ3 W x q k n ⟨X.D, tkB n X.B i kE bs, X.s, X.c⟩ ⟨Y.D, stB n (upd Y.B i ⟨1, [], []⟩) (i : Int) (bs.drop kE), Y.s, Y.c⟩ tv cv ov (.slice a3 (ml + 1) k3) Cm (Mn ++ [(i : Int)]) → But (fun g => g = q.g ∨ g = k.g) w4 W → Calls Try.prog 71 #[.pointer (some ⟨k.p, 0, none⟩), .int .i64 (i : Int), (.slice (some ⟨bg, off, none⟩) kE kE)] W fun e w' => e = .returned (.int .i64 eY) ∧ Two ρ3 w' x q k n ⟨X.D, tkB n X.B i kE bs, X.s, X.c⟩ ⟨Y.D, tkB n Y.B i kE bs, Y.s, Y.c⟩ tv cv ov (.slice a3 (ml + 1) k3) Cm (Mn ++ [(i : Int)]) ∧ But (fun g => g = q.g ∨ g = k.g) w4 w') := fun W t hb => by
           have iv := IT.out.but hb rolN
           refine (rFront_any (RQ.rf t.r).pool t.lt (i : Int) _ _ iv).mono ?_
           rintro _ w' ⟨rfl, hp, hbb⟩
           obtain ⟨z1, z2⟩ := t.rpool hbb hp
           exact ⟨by rw [heY], z1, hb.trans (hbb.mono (fun g e => .inr e))⟩
         have FIN : Hid (∀ w', Two ρ3 w' x q k n ⟨X.D, tkB n X.B i kE bs, X.s, X.c⟩ ⟨Y.D, tkB n Y.B i kE bs, Y.s, Y.c⟩ tv cv ov (.slice a3 (ml + 1) k3) Cm (Mn ++ [(i : Int)]) → But (fun g => g = q.g ∨ g = k.g) w4 w' → TakesP ρ w x q k n X Y tv cv ov Cm Mn (.returned (.bool (eX == eY))) w') := fun w' t hb =>
           ⟨_, ρ3, _, _, _, _, rfl, t, M3.out.trans (Mv.of T3.out.lt hb (fun g e => by
             rcases e with e | e
             · rw [e, T3.out.q3]; omega
             · rw [e, RQ.g7 T3.out.r]; omega)), .inr ⟨i, Tk.full HX.out kE bs⟩, .inr ⟨i, Tk.full HY.out kE bs⟩, .inr ⟨i, Tk.full HX.out kE bs, Tk.full HY.out kE bs, rfl⟩, fun e => by
             subst e
             exact ⟨by rw [heX, heY]; simp, rfl⟩⟩
         obtain ⟨c16, c46, o26⟩ := KP.out w6 b6
         have q0 : But (fun g => g = q.g ∨ g = k.g) w4 w6.drew := b6.drew
         have qd : Below w6.heap.size w6 w6.drew := undrew0 (Below.refl _ _)
         clear t6 b6 hcut heX heY
         go_upto_region 13 with fail
         go_region_held3 (fun W => W.cell? ⟨x, 1, none⟩ = some (.pointer (some ⟨q.p, 0, none⟩)) ∧ W.cell? ⟨x, 4, none⟩ = some (.pointer (some ⟨k.p, 0, none⟩)) ∧ W.cell? ⟨so, 2, none⟩ = some (.slice (some ⟨bg, off, none⟩) kE kE)) (first | exact KP.out _ (by assumption) | assumption) (first
           | (go_at_call 70; refine (XF1.out w6.drew qd).mono ?_; rintro _ w7 ⟨rfl, t7, q7⟩; have T7 := hide t7; clear t7)
           | (go_at_call 71; refine (XF2.out w7 T7.out q7).mono ?_; rintro _ w8 ⟨rfl, t8, q8⟩; have F8 := hide (FIN.out w8 t8 q8); clear t8))
         all_goals go_wp2
         all_goals go_ret
         all_goals exact F8.out

end Go.Proofs.Ytjkfjijnjkpbbaa
