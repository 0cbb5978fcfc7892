
/-
  RingHolds' own calls: told.
-/
import Derived.Test.YtjkfjijnjkpbbaaJ8
namespace Go.Proofs.Ytjkfjijnjkpbbaa
open Go.RowKit

theorem row_come {w : World} {N g c : Nat} {l : List (Int × Bool)} (h : w.ownsRow N 67 2 (.slice (some ⟨g, 0, none⟩) l.length c) l.length (flc l)) {k : Nat} {p : Int × Bool} (hk : l[k]? = some p) : w.cell? ⟨g, k * 2, none⟩ = some (.int .i64 p.1) ∧ w.cell? ⟨g, k * 2 + 1, none⟩ = some (.bool p.2) := by
  have hlt := (List.getElem?_eq_some_iff.1 hk).1
  have key : ∀ (l : List (Int × Bool)) (k : Nat), l[k]? = some p → (flc l)[k * 2]? = some (.int .i64 p.1) ∧ (flc l)[k * 2 + 1]? = some (.bool p.2) := by
    intro l
    induction l with
    | nil => intro k hk; simp at hk
    | cons a l ih =>
      intro k hk
      have e : flc (a :: l) = .int .i64 a.1 :: .bool a.2 :: flc l := rfl
      cases k with
      | zero =>
        have hk : a = p := by simpa using hk
        subst hk
        exact ⟨rfl, rfl⟩
      | succ k =>
        obtain ⟨i1, i2⟩ := ih k (by simpa using hk)
        rw [e, show (k + 1) * 2 = k * 2 + 1 + 1 by omega, show k * 2 + 1 + 1 + 1 = (k * 2 + 1) + 1 + 1 by omega, List.getElem?_cons_succ, List.getElem?_cons_succ, List.getElem?_cons_succ, List.getElem?_cons_succ]
        exact ⟨i1, i2⟩
  obtain ⟨f0, f1⟩ := key l k hk
  exact ⟨by rw [World.ownsRow.cellAt h _ (by omega)]; exact f0, by rw [World.ownsRow.cellAt h _ (by omega)]; exact f1⟩

theorem tol1 {w12 w13 : World} {D H : Value} {bs : List Int} {X : Nat → Prop} (i13 : IsF X w13 D bs) (b13 : Below w12.drew.heap.size w12 w13) (rf : Int) :
    Below w12.heap.size w12 (w13.alloc (.cells #[.int .i64 rf, H, D] 35)) ∧ (w13.alloc (.cells #[.int .i64 rf, H, D] 35)).cell? ⟨w13.heap.size, 1, none⟩ = some H ∧ (w13.alloc (.cells #[.int .i64 rf, H, D] 35)).cell? ⟨w13.heap.size, 2, none⟩ = some D ∧ ∃ A, IsF A (w13.alloc (.cells #[.int .i64 rf, H, D] 35)) D bs := by
  obtain ⟨a, b, c⟩ := sto1 i13 b13 rf H
  exact ⟨a, by rw [cell_of_row _ w13.heap.size 1 _ 35 (0, 0) (heap_alloc_new w13 _)]; rfl, b, c⟩
theorem tol3 {w12 w13 : World} {D : Value} {bs : List Int} {Z : Array Value} {t : TypeId} (i13 : IsF (fun g => g < (w12.alloc (.cells Z t)).drew.heap.size) w13 D bs) (b13 : Below (w12.alloc (.cells Z t)).drew.heap.size (w12.alloc (.cells Z t)) w13) (B0 : Below w12.heap.size w12 (w12.alloc (.cells Z t))) (t13 : PTri w13 w12.heap.size) (rf : Int) (H E : Value) :
    Below w12.heap.size w12 (((w13.setCell ⟨w12.heap.size, 0, none⟩ (.int .i64 rf)).setCell ⟨w12.heap.size, 1, none⟩ H).setCell ⟨w12.heap.size, 2, none⟩ E) ∧ (((w13.setCell ⟨w12.heap.size, 0, none⟩ (.int .i64 rf)).setCell ⟨w12.heap.size, 1, none⟩ H).setCell ⟨w12.heap.size, 2, none⟩ E).cell? ⟨w12.heap.size, 1, none⟩ = some H ∧ (((w13.setCell ⟨w12.heap.size, 0, none⟩ (.int .i64 rf)).setCell ⟨w12.heap.size, 1, none⟩ H).setCell ⟨w12.heap.size, 2, none⟩ E).cell? ⟨w12.heap.size, 2, none⟩ = some E ∧ ∃ A, IsF A (((w13.setCell ⟨w12.heap.size, 0, none⟩ (.int .i64 rf)).setCell ⟨w12.heap.size, 1, none⟩ H).setCell ⟨w12.heap.size, 2, none⟩ E) D bs := by
  obtain ⟨a, b, c⟩ := sto3 i13 b13 B0 t13 rf H E
  exact ⟨a, by rw [setCell_out (by omega)]; exact World.cell?_setCell_same' _ _ _ (by rw [setCell_out (by omega), t13.c1]; rfl), b, c⟩

/-- the memory of RingHolds between its calls -/
structure HM (A Og Op : Nat → Prop) (W : World) (x : Nat) (q : Bl) (n : Nat) (X : Rg) (hb : Nat) (hl : Nat → Nat) (gv pv : Nat) (G P : List (List Int)) : Prop where
  rig : RigP A W x q n X.D X.B X.s X.c
  held : HeldAt W hb n hl
  hd : Hd n X hl G P
  rg : RowS Og A W gv G
  rp : RowS Op A W pv P
  lt : ∀ g, A g → g < W.heap.size
  ah : A hb
  og : ∀ g, Og g → ¬ Op g ∧ ¬ PK q g ∧ g ≠ x ∧ g ≠ hb ∧ g ≠ q.p
  op : ∀ g, Op g → ¬ PK q g ∧ g ≠ x ∧ g ≠ hb ∧ g ≠ q.p
  hq : ¬ PK q hb ∧ hb ≠ x ∧ hb ≠ q.p

set_option maxRecDepth 100000 in
set_option maxHeartbeats 4000000 in
theorem told_any {A Og Op : Nat → Prop} {w : World} {x : Nat} {q : Bl} {n : Nat} {X : Rg} {hb : Nat} {hl : Nat → Nat} {gv pv : Nat} {G P : List (List Int)} (M : HM A Og Op w x q n X hb hl gv pv G P) (hbd : ∀ i, i < n → hl i < 2305843009213693952) {m : Nat} (hm : Bdd m X.B) (hm2 : m < 4611686018427387904) :
    Calls Try.prog 14 #[.pointer (some ⟨x, 0, none⟩), .pointer (some ⟨gv, 0, none⟩), .slice (some ⟨hb, 0, none⟩) n n, .pointer (some ⟨pv, 0, none⟩)] w fun e w' => e = .returned (.bool true) ∧ HM A Og Op w' x q n (X.polled n) hb (fun i => hl i + (X.c.ids.take G.length).count (i : Int)) gv pv [] P ∧ But (fun g => PK q g ∨ g = hb ∨ Og g) w w' ∧ w.heap.size ≤ w'.heap.size := by
  obtain ⟨nd, ec, hd', ht⟩ := M.hd.polls
  have hg15 : G.length ≤ 15 := Nat.le_trans M.hd.h2.1 M.hd.cm
  have XP := hide (Poll_up M.rig.p M.hd.ok hm hm2 nd (fun k hk => by
    rw [M.hd.got] at hk
    obtain ⟨f, hf⟩ : ∃ f, G[k]? = some f := ⟨_, List.getElem?_eq_getElem hk⟩
    exact (M.hd.rx hf).1) M.hd.h3 (by
      have a2 := M.hd.h2.2.1
      have a1 := M.hd.h2.1
      have c16 := M.hd.cf
      have c15 := M.hd.cm
      unfold span
      rw [a2, Int.toNat_natCast]
      omega))
  have n4 : n ≤ 4096 := M.rig.p.pool.n1
  have zn : (n : Int) ≤ 4096 := by omega
  have HM0 := hide M
  have EC := hide ec
  have HD' := hide hd'
  have HT := hide ht
  have HBD := hide hbd
  have k2 := M.rig.c2
  obtain ⟨C, hC⟩ : ∃ C, C = X.come := ⟨_, rfl⟩
  rw [← hC] at XP EC
  obtain ⟨Y, hY⟩ : ∃ Y, Y = X.polled n := ⟨_, rfl⟩
  rw [← hY] at XP HD' HT ⊢
  have HPL : Hid (Y.s.ids.length = P.length) := by
    obtain ⟨j, hj, b1, _, b3, _⟩ := M.hd.sent
    show _ = _
    rw [hY]
    show (X.s.cut X.sent).ids.length = _
    rw [hj, b3]
    unfold Sd.cut
    rw [List.length_drop]
  have CL : Hid (C.length = G.length) := by show _ = _; rw [EC.out, List.length_map, List.length_take]; have := M.hd.h2.1; omega
  have CK : Hid (∀ k z, X.c.ids[k]? = some z → k < G.length → C[k]? = some (z, false)) := fun k z hz hk => by rw [EC.out, List.getElem?_map, List.getElem?_take, if_pos hk, hz]; rfl
  clear M nd ec hd' ht hbd hm hC hY
  go_enter Try.func14, Try.ntmps14
  go_wp2_with fail
  refine XP.out.mono ?_
  rintro _ w1 ⟨v, rfl, r1, p1, b1⟩
  have R1 := hide (HM0.out.rig.did b1 p1)
  have H1 := hide (HM0.out.held.but b1 HM0.out.hq.1)
  have bPA : ∀ g, PK q g → A g := fun g e => by
    rcases e with e | e | e
    · rw [e]; exact HM0.out.rig.p.dev.mem
    · rw [e]; exact HM0.out.rig.p.ag
    · rw [e]; exact HM0.out.rig.p.ar
  have G1 := hide (HM0.out.rg.but b1 bPA (fun g hg e => (HM0.out.og g hg).2.1 e))
  have P1 := hide (HM0.out.rp.but b1 bPA (fun g hg e => (HM0.out.op g hg).1 e))
  have S1 := hide b1.size
  have BP1 := hide b1
  obtain ⟨ra, rc, rfl, hra⟩ := row_shape r1
  have ROW := hide r1
  have HRA := hide hra.1
  have zG : (C.length : Int) ≤ 15 := by have := CL.out; omega
  clear r1 p1 b1 XP k2 hra bPA
  go_wp2
  go_loopw [10] (fun v10 wr => ∃ k : Nat, v10 = .int .i64 (k : Int) ∧ k ≤ G.length ∧ Hid (But (fun g => g = hb ∨ g = gv) w1 wr) ∧ Hid (HeldAt wr hb n (fun i => hl i + (X.c.ids.take k).count (i : Int))) ∧ Hid (RowS Og A wr gv (G.drop k))) (fun v10 _ => G.length - (intOf v10).toNat)
  case atStart => exact ⟨0, rfl, Nat.zero_le _, But.refl _ _, by show HeldAt _ _ _ _; simpa using H1.out, G1.out⟩
  case round =>
    clear H1 G1
    obtain ⟨k, rfl, hk, hB, hH, hG⟩ := hrel
    have KA : ∀ g, (g = hb ∨ g = gv) → A g := fun g e => e.elim (fun e => e ▸ HM0.out.ah) (fun e => e ▸ hG.out.oa gv hG.out.ov)
    have ogv := HM0.out.og gv hG.out.ov
    have hq := HM0.out.hq
    have Rr := hide (R1.out.but hB.out KA (fun e => e.elim (fun e => hq.1 (.inl (Eq.symm e))) (fun e => ogv.2.1 (.inl (Eq.symm e)))) (fun e => e.elim (fun e => hq.2.2 (Eq.symm e)) (fun e => ogv.2.2.2.2 (Eq.symm e))) (fun e => e.elim (fun e => hq.1 (.inr (.inl (Eq.symm e)))) (fun e => ogv.2.1 (.inr (.inl (Eq.symm e))))) (fun e => e.elim (fun e => hq.1 (.inr (.inr (Eq.symm e)))) (fun e => ogv.2.1 (.inr (.inr (Eq.symm e))))) (fun e => e.elim (fun e => hq.2.1 (Eq.symm e)) (fun e => ogv.2.2.1 (Eq.symm e))))
    have Pr := hide (P1.out.but hB.out KA (fun g hg e => e.elim (fun e => (HM0.out.op g hg).2.2.1 e) (fun e => ogv.1 (e ▸ hg))))
    have KAH := hide KA
    have OGV := hide ogv
    have HQ := hide hq
    clear KA ogv hq
    have LTW := hide (And.intro (HM0.out.lt hb HM0.out.ah) (And.intro (HM0.out.lt gv (hG.out.oa gv hG.out.ov)) HM0.out.rig.xlt))
    by_cases hlt : k < G.length
    · obtain ⟨f, hf⟩ : ∃ f, G[k]? = some f := ⟨_, List.getElem?_eq_getElem hlt⟩
      have hdr : G.drop k = f :: G.drop (k + 1) := by rw [List.drop_eq_getElem_cons hlt]; rw [List.getElem?_eq_getElem hlt] at hf; rw [Option.some.inj hf]
      obtain ⟨i, hi, hz, hre, hhe, hda⟩ := HT.out k f hf
      have zi : (i : Int) < (n : Int) := by omega
      have zk : (k : Int) < (C.length : Int) := by have := CL.out; omega
      obtain ⟨rg, rfl, hrg⟩ := HRA.out (by have := CL.out; omega)
      have nrow : ∀ y, w.heap.size ≤ y → ¬ (y = hb ∨ y = gv) := fun y hy e => by have := LTW.out; omega
      have rw1 := row_keep ROW.out hB.out (fun y hy => nrow y (World.ownsRow.lt ROW.out y hy).1)
      obtain ⟨ck0, ck1⟩ := row_come rw1 (CK.out k (i : Int) hz hlt)
      have rlt : rg < wr.heap.size := World.block_lt_of_cell? wr _ ck0
      rw [hdr] at hG
      obtain ⟨g, off, cap, u, cg, hcap, hcm, cu, iu, og, glt, gne, hpop⟩ := hG.out.first
      have vlt := hG.out.vlt
      have vf := hG.out.vf
      obtain ⟨l', hl'⟩ : ∃ l', (G.drop (k + 1)).length = l' := ⟨_, rfl⟩
      rw [hl'] at cg hcap hpop
      have q0 : ((l' : Int) + 1 == 0) = false := by rw [beq_eq_false_iff_ne]; omega
      have zl : (l' : Int) ≤ 15 := by have : l' ≤ 15 := by rw [← hl', List.length_drop]; omega
                                      omega
      have k1 := Rr.out.c1
      have HGR := hide hG.out
      have IU := hide iu
      have HCAP := hide (And.intro hcap hcm)
      have HF := hide hf
      have HZ := hide hz
      have HDR := hide hl'
      have DD := hide (And.intro hre (And.intro hhe hda))
      have W0 := hide (And.intro hB.out hH.out)
      have GR := hide (And.intro og (And.intro glt gne))
      have RC := hide (And.intro ck0 (And.intro ck1 cg))
      have CU := hide cu
      have VV := hide (And.intro vlt vf)
      clear hpop iu hcap hcm hf hz hdr hl' hre hhe hda hB hH hG rw1 nrow og glt gne
      go_upto_region 7 with fail
      have XE : Hid (∀ W, Below wr.heap.size wr W → Calls Try.prog 12 #[.pointer (some ⟨q.p, 0, none⟩), .int .i64 (i : Int)] W fun e w' => ∃ rf ha hc da dc, e = .returned (.tuple #[.agg #[.int .i64 rf, .slice ha 0 hc, .slice da f.length dc], .int .i64 0]) ∧ IsF (fun g => g < W.heap.size) w' (.slice da f.length dc) f ∧ Below W.heap.size W w') := fun W hb => by
        refine (See_yes (Rr.out.later hb).p.pool i hi DD.out.1).mono ?_
        rintro e w' ⟨ha, hc, da, dc, rfl, hsn, hbw⟩
        have sd := hsn.d.isF (A := fun g => g < W.heap.size) (fun g hg e => by omega)
        rw [DD.out.2.2] at sd
        rw [DD.out.2.1, DD.out.2.2]
        exact ⟨_, _, _, _, _, rfl, sd, hbw⟩
      have b0 : But (fun _ => False) wr (wr.alloc (.cells #[.int .i64 0, .slice none 0 0, .slice none 0 0] 35)) := (But.refl _ _).alloc _
      have B0 : Hid (Below wr.heap.size wr (wr.alloc (.cells #[.int .i64 0, .slice none 0 0, .slice none 0 0] 35))) := b0.below (Nat.le_refl _) (fun _ _ => id)
      have T0 := hide (PTri.new wr 35)
      clear b0
      have u2 := World.block_lt_of_cell? wr _ k1
      have u3 : ¬ rg = wr.heap.size := by omega
      have u4 : ¬ wr.heap.size = rg := by omega
      have u5 : ¬ x = wr.heap.size := by have u2 : x < _ := u2; omega
      have u6 : ¬ wr.heap.size = x := by have u2 : x < _ := u2; omega
      go_cut [11, 12] from 18 to 102 (fun v11 v12 wc => v12 = .int .i64 0 ∧ ∃ sc ha hc da dc, v11 = .pointer (some ⟨sc, 0, none⟩) ∧ Hid (Below wr.heap.size wr wc ∧ wc.cell? ⟨sc, 1, none⟩ = some (.slice ha 0 hc) ∧ wc.cell? ⟨sc, 2, none⟩ = some (.slice da f.length dc) ∧ ∃ A, IsF A wc (.slice da f.length dc) f))
      case first =>
        go_region_with (first
          | (go_at_call 12; refine (XE.out wr.drew (undrew0 (Below.refl _ _))).mono ?_; rintro _ w13 ⟨rf, ha, hc, da, dc, rfl, i13, b13⟩; have F13 := hide (tol1 (H := .slice ha 0 hc) i13 (undrew b13) rf); clear i13 b13)
          | (go_at_call 12; refine (XE.out (wr.alloc (.cells #[.int .i64 0, .slice none 0 0, .slice none 0 0] 35)).drew (undrew0 B0.out)).mono ?_; rintro _ w13 ⟨rf, ha, hc, da, dc, rfl, i13, b13⟩; have t13 := T0.out.but (But.of_below (K := fun _ => False) (undrew b13)) id; have e0 := t13.c0; have e1 := t13.c1; have e2 := t13.c2; have f0 := t13.f 0; have f1 := t13.f 1; have f2 := t13.f 2; have F13 := hide (tol3 i13 (undrew b13) B0.out t13 rf (.slice ha 0 hc) (.slice da f.length dc)); clear i13 b13 t13))
        all_goals go_wp2
        all_goals go_meet
        all_goals exact ⟨rfl, _, _, _, _, _, rfl, F13.out⟩
      case rest =>
        obtain ⟨rfl, sc, ha, hc, da, dc, rfl, hcut2⟩ := hcut
        obtain ⟨b13, c1, c2, A13, i13⟩ := hcut2.out
        obtain ⟨ck0, ck1, cg⟩ := RC.out
        obtain ⟨ua, uc, rfl, _⟩ := IU.out.shape
        have a0 := (b13.cell (p := ⟨rg, k * 2, none⟩) rlt).trans ck0
        have a1 := (b13.cell (p := ⟨rg, k * 2 + 1, none⟩) rlt).trans ck1
        have a2 := (b13.cell (p := ⟨gv, 0, none⟩) VV.out.1).trans cg
        have a3 := (b13.cell (p := ⟨g, off, none⟩) GR.out.2.1).trans CU.out
        have cx : ∀ m, (convert 27 9 (.slice da f.length dc)).run Try.prog (wc.drewN m) = .ok (.string (strB f)) (wc.drewN m) := fun m => conv_str (i13.but (K := fun _ => False) ((But.refl _ _).drewN m) (fun _ e => e.elim))
        have cy : ∀ m, (convert 27 9 (.slice ua f.length uc)).run Try.prog (wc.drewN m) = .ok (.string (strB f)) (wc.drewN m) := fun m => conv_str ((IU.out.later b13).but (K := fun _ => False) ((But.refl _ _).drewN m) (fun _ e => e.elim))
        have BB := hide b13
        have zc : (cap : Int) ≤ 9223372036854775807 := by have := HCAP.out.2; unfold maxLen at this; omega
        have zc1 : (l' : Int) + 1 ≤ (cap : Int) := by have := HCAP.out.1; omega
        clear hcut2 b13 i13 XE B0 T0 u2 u3 u4 u5 u6
        go_upto_region 8 with fail
        go_quiet (fail)
        clear cx cy
        go_upto_region 10 with fail
        have vf : wc.frozen? ⟨gv, 0, none⟩ = false := (BB.out.frozen (p := ⟨gv, 0, none⟩) VV.out.1).trans VV.out.2
        have A0 := hide a0
        clear a0 a1 a3 c1 c2
        go_upto_region 11 with fail
        obtain ⟨a'', ea, ea2⟩ : ∃ a'' : Addr, (if cap = 1 then some (⟨g, off, none⟩ : Addr) else some ⟨g, off + 1, none⟩) = some a'' ∧ (1 < cap → a'' = ⟨g, off + 1, none⟩) := by
          by_cases e : cap = 1
          · exact ⟨_, if_pos e, fun h => by omega⟩
          · exact ⟨_, if_neg e, fun _ => rfl⟩
        rw [ea]
        clear ea
        have bq : Below wc.heap.size wc (wc.drewN nq) := drewN_belowG wc nq
        have GW := (HGR.out.later BB.out).later bq
        obtain ⟨g', off', cap', u', cg', _, _, _, _, _, _, _, hpop⟩ := GW.first
        have a2' : (wc.drewN nq).cell? ⟨gv, 0, none⟩ = some (.slice (some ⟨g, off, none⟩) (l' + 1) cap) := a2
        rw [a2'] at cg'
        have cg'' : g = g' ∧ off = off' ∧ cap = cap' := by
          simp only [Option.some.injEq, Value.slice.injEq, Addr.mk.injEq, and_true] at cg'
          exact ⟨cg'.1.1, cg'.1.2, cg'.2.2⟩
        obtain ⟨rfl, rfl, rfl⟩ := cg''
        have GP := hpop a'' ea2
        rw [HDR.out] at GP
        have ogv := OGV.out
        have hq := HQ.out
        have neh : gv ≠ hb := ogv.2.2.2.1
        have b14 : But (Only gv) (wc.drewN nq) ((wc.drewN nq).setCell ⟨gv, 0, none⟩ (.slice (some a'') l' (cap - 1))) := (But.refl _ _).cellb _ _
        have bWr : But (fun y => y = hb ∨ y = gv) wr ((wc.drewN nq).setCell ⟨gv, 0, none⟩ (.slice (some a'') l' (cap - 1))) := ((But.of_below BB.out).drewN nq).trans (b14.mono (fun y e => .inr e))
        have H14 := ((W0.out.2.later BB.out).later bq).but b14 (fun e => neh (Eq.symm e))
        have B14 := hide (W0.out.1.trans bWr)
        have ck' : ((wc.drewN nq).setCell ⟨gv, 0, none⟩ (.slice (some a'') l' (cap - 1))).cell? ⟨rg, k * 2, none⟩ = some (.int .i64 (i : Int)) := (b14.cell (p := ⟨rg, k * 2, none⟩) (Nat.lt_of_lt_of_le rlt BB.out.size) (fun e => by have e : rg = gv := e; have := LTW.out; omega)).trans A0.out
        obtain ⟨y, hy⟩ : ∃ y : Int, y = ((hl i + (X.c.ids.take k).count (i : Int) : Nat) : Int) := ⟨_, rfl⟩
        have hcl : (X.c.ids.take k).count (i : Int) ≤ 15 := Nat.le_trans List.count_le_length (by rw [List.length_take]; omega)
        have hbi := HBD.out i hi
        have zy : y < 4611686018427387904 := by omega
        have zy0 : 0 ≤ y := by omega
        have hcc := H14.cell i hi
        rw [← hy] at hcc
        have hff := H14.fz i
        have hkc : k < X.c.ids.length := (List.getElem?_eq_some_iff.1 HZ.out).1
        have E1 : (fun j => hl j + (X.c.ids.take (k + 1)).count (j : Int)) = upd (fun j => hl j + (X.c.ids.take k).count (j : Int)) i (hl i + (X.c.ids.take k).count (i : Int) + 1) := by
          funext j
          rw [take_snoc hkc, HZ.out, List.count_append]
          show _ + (_ + [(i : Int)].count (j : Int)) = _
          by_cases e : j = i
          · subst e; rw [upd_same, List.count_singleton_self]; omega
          · rw [upd_other _ _ _ _ e, List.count_singleton, if_neg (by simp; omega)]; rfl
        have H15 := hide (H14.set i hi (hl i + (X.c.ids.take k).count (i : Int) + 1))
        rw [← E1, show ((hl i + (X.c.ids.take k).count (i : Int) + 1 : Nat) : Int) = y + 1 by omega] at H15
        have b15 : But (Only hb) ((wc.drewN nq).setCell ⟨gv, 0, none⟩ (.slice (some a'') l' (cap - 1))) (((wc.drewN nq).setCell ⟨gv, 0, none⟩ (.slice (some a'') l' (cap - 1))).setCell ⟨hb, i, none⟩ (.int .i64 (y + 1))) := (But.refl _ _).cellb _ _
        have B15 := hide (B14.out.trans (b15.mono (fun y e => .inl e)))
        have G15 := hide (GP.but b15 (fun y e => by have e : y = hb := e; rw [e]; exact HM0.out.ah) (fun y hy e => (HM0.out.og y hy).2.2.2.1 e))
        clear GW GP hpop a2' cg' E1 hy hcl hbi H14 b14 b15 bWr bq ogv hq neh a2 vf hkc ea2 B14 A0 RC CU VV GR DD IU HCAP W0 HGR
        generalize (wc.drewN nq).setCell ⟨gv, 0, none⟩ (.slice (some a'') l' (cap - 1)) = w14 at *
        go_wp2
        go_roundw
        case rel => exact ⟨k + 1, by go_num, by omega, B15.out, H15.out, G15.out⟩
        case measure => simp [intOf]; omega
    · obtain rfl : k = G.length := by omega
      have zk : ¬ (G.length : Int) < (C.length : Int) := by have := CL.out; omega
      have hG0 := hG.out
      rw [List.drop_length] at hG0
      obtain ⟨ga, gcap, cg, _⟩ := hG0.row
      obtain ⟨pa, pcap, cp, _⟩ := Pr.out.row
      have PL : Hid (Y.s.ids.length = P.length) := HPL.out
      have k2 := Rr.out.c2
      have FIN : Hid (∀ W, Below wr.heap.size wr W → HM A Og Op W x q n Y hb (fun i => hl i + (X.c.ids.take G.length).count (i : Int)) gv pv [] P ∧ But (fun g => PK q g ∨ g = hb ∨ Og g) w W ∧ w.heap.size ≤ W.heap.size) := fun W hb' => by
        have sz : w.heap.size ≤ W.heap.size := Nat.le_trans S1.out (Nat.le_trans hB.out.size hb'.size)
        exact ⟨⟨Rr.out.later hb', hH.out.later hb', HD'.out, hG0.later hb', Pr.out.later hb', fun g hg => Nat.lt_of_lt_of_le (HM0.out.lt g hg) sz, HM0.out.ah, HM0.out.og, HM0.out.op, HM0.out.hq⟩, (BP1.out.mono (fun g e => .inl e)).trans ((hB.out.mono (fun g e => e.elim (fun e => .inr (.inl e)) (fun e => .inr (.inr (e ▸ HM0.out.rg.ov))))).trans (But.of_below hb')), sz⟩
      have XS : Hid (∀ W, Below wr.heap.size wr W → Calls Try.prog 23 #[.pointer (some ⟨q.r, 0, none⟩)] W fun e w' => ∃ a c, e = .returned (.slice a P.length c) ∧ Below wr.heap.size wr w') := fun W hb' => by
        refine (Sending_any (Rr.out.later hb').p).mono ?_
        rintro e w' ⟨v, rfl, r, bb⟩
        obtain ⟨a, c, rfl, _⟩ := row_shape r
        rw [PL.out]
        exact ⟨a, c, rfl, hb'.trans (bb.mono hb'.size)⟩
      have KP : Hid (∀ W, Below wr.heap.size wr W → W.cell? ⟨gv, 0, none⟩ = some (.slice ga 0 gcap) ∧ W.cell? ⟨pv, 0, none⟩ = some (.slice pa P.length pcap) ∧ W.cell? ⟨x, 2, none⟩ = some (.pointer (some ⟨q.r, 0, none⟩))) := fun W hb' => ⟨(hb'.cell (p := ⟨gv, 0, none⟩) hG0.vlt).trans cg, (hb'.cell (p := ⟨pv, 0, none⟩) Pr.out.vlt).trans cp, (Rr.out.later hb').c2⟩
      clear hG0 hG hB hH
      go_upto_region 12 with fail
      have q1 : Below wr.heap.size wr wr.drew := undrew0 (Below.refl _ _)
      obtain ⟨y1, y2, y3⟩ := KP.out wr (Below.refl _ _)
      generalize P.length = pl at *
      go_region_held3 (fun W => W.cell? ⟨gv, 0, none⟩ = some (.slice ga 0 gcap) ∧ W.cell? ⟨pv, 0, none⟩ = some (.slice pa pl pcap) ∧ W.cell? ⟨x, 2, none⟩ = some (.pointer (some ⟨q.r, 0, none⟩))) (exact KP.out _ (by assumption)) (first | (go_at_call 23; refine (XS.out wr.drew q1).mono ?_; rintro _ w5 ⟨a5, c5, rfl, q5⟩))
      all_goals go_wp2
      all_goals go_ret
      all_goals exact ⟨rfl, (FIN.out _ q5).1, (FIN.out _ q5).2.1, (FIN.out _ q5).2.2⟩
end Go.Proofs.Ytjkfjijnjkpbbaa
