
/-
  RingHolds: its walk.
-/
import Derived.Test.YtjkfjijnjkpbbaaJ10
import Derived.Deep.CutBlock
namespace Go.Proofs.Ytjkfjijnjkpbbaa
open Go.RowKit

set_option maxRecDepth 100000 in
set_option maxHeartbeats 4000000 in
theorem Holds_walk (many : Int) (v : Value) (l : List OpV) (W : World) (hI : IsO W.heap.size W v l) (hl : l.length ≤ 2932031007318) :
    Calls Try.prog 4 #[.int .i64 many, v] W fun e W' => e = .returned (.bool true) ∧ Below W.heap.size W W' := by
  have HI := hide hI
  obtain ⟨a, cap, rfl, _, _⟩ := hI
  have ZL : Hid (l.length ≤ 2932031007318) := hl
  have zl : (l.length : Int) ≤ 2932031007318 := by omega
  clear hl
  by_cases hmany : many < 1 ∨ 60 < many
  · have XB := hide (fun w => begun_no w many hmany)
    go_enter Try.func4, Try.ntmps4
    go_wp2_with fail
    refine (awake_any W).mono ?_
    rintro _ w1 ⟨rfl, hb1⟩
    go_wp2_with fail
    refine (XB.out w1).mono ?_
    rintro _ w2 ⟨rfl, hw⟩
    subst hw
    rcases hmany with h | h
    · go_wp2
      go_ret
      exact ⟨rfl, hb1⟩
    · have h1 : ¬ many < 1 := by omega
      go_wp2
      go_ret
      exact ⟨rfl, hb1⟩
  · obtain ⟨n, rfl⟩ : ∃ n : Nat, many = n := ⟨many.toNat, by omega⟩
    have n0 : 0 < n := by omega
    have n60 : n ≤ 60 := by omega
    have z0 : ¬ (n : Int) < 1 := by omega
    have z1 : (n : Int) ≤ 60 := by omega
    obtain ⟨i0, hi, hz0, hz1, hz2⟩ := info_parts info_int
    clear hmany
    go_enter Try.func4, Try.ntmps4
    go_wp2_with fail
    refine (awake_any W).mono ?_
    rintro _ w1 ⟨rfl, hb1⟩
    have B1 := hide hb1
    clear hb1
    go_wp2_with fail
    refine (begun_yes w1 n n0 n60).mono ?_
    rintro _ w2 ⟨x, q, rfl, r2, b2, hx, hqd, hqp, hqg, hqr⟩
    have R2 := hide r2
    have HQ := hide (And.intro hx (And.intro hqd (And.intro hqp (And.intro hqg hqr))))
    have B2 := hide (B1.out.trans (b2.mono B1.out.size))
    have S1 := hide B1.out.size
    clear r2 b2 hx hqd hqp hqg hqr
    go_wp2_with (at_make; refine wpList_make_full _ rfl _ _ 31 rfl w2.heap.size 3 i0 (.int .i64 0) 1 Try.underlying31 hi hz0 hz1 .i64 .i64 _ _ n rfl rfl rfl rfl (by rw [hz2]; omega) (by unfold maxLen; omega) (Nat.le_refl _) ?_)
    intro w3 hown hgr
    have b3 : Below w2.heap.size w2 w3 := (Below.refl _ w2).grown hgr (Nat.le_refl _) (fun k e => by cases e)
    have lt3 : w2.heap.size < w3.heap.size := (World.ownsRow.lt hown w2.heap.size rfl).2
    have H3 : HeldAt w3 w2.heap.size n (fun _ => 0) := by
      refine ⟨n0, fun i hi => ?_, fun k => ?_⟩
      · rw [World.ownsRow.cellAt hown i (by omega)]
        exact made1 n i hi
      · obtain ⟨_, ⟨e, _⟩ | ⟨g, cp, cur, e, _, hh, _⟩⟩ := hown
        · cases e
        · simp only [Value.slice.injEq, Option.some.injEq, Addr.mk.injEq, and_true] at e
          rw [e.1]
          unfold World.frozen?
          rw [hh]
          simp
    have HH3 := hide H3
    have B3 := hide b3
    have LT3 := hide lt3
    clear hown hgr b3 lt3 H3 hi hz0 hz1 hz2
    go_upto_region 8 with fail
    have hq := HQ.out
    have s1 := S1.out
    obtain ⟨gv, hgv⟩ : ∃ gv, gv = w3.heap.size := ⟨_, rfl⟩
    obtain ⟨hb, hhb⟩ : ∃ hb, hb = w2.heap.size := ⟨_, rfl⟩
    have lt3 := LT3.out
    have rl := R2.out.p.rlt
    have dl := R2.out.p.dev.lt
    have pl := R2.out.p.pool.blt
    have gl := R2.out.p.pool.glt
    have xl := R2.out.xlt
    have q5 : w3.alloc (.cells #[.slice none 0 0] 32) = w3.alloc (.cells #[.slice none 0 0] 32) := rfl
    have s4 : (w3.alloc (.cells #[.slice none 0 0] 32)).heap.size = gv + 1 := by rw [hgv]; simp
    have S0 : Hid (St W.heap.size W x q n hb gv (gv + 1) 0 ((w3.alloc (.cells #[.slice none 0 0] 32)).alloc (.cells #[.slice none 0 0] 32))) := by
      have ba : But (fun _ => False) w3 ((w3.alloc (.cells #[.slice none 0 0] 32)).alloc (.cells #[.slice none 0 0] 32)) := ((But.refl _ _).alloc _).alloc _
      have r4 := ((R2.out.avoid (A' := fun g => PK q g ∨ g = hb ∨ g = gv ∨ g = gv + 1) (fun _ _ _ => trivial) (.inl (.inl rfl)) (.inl (.inr (.inl rfl))) (.inl (.inr (.inr rfl)))).later B3.out).but ba (fun _ e => e.elim) id id id id id
      have h4 := HH3.out.but ba id
      rw [← hhb] at h4
      have rg4 := (RowS.new (O := fun g => g = gv) (A := fun g => PK q g ∨ g = hb ∨ g = gv ∨ g = gv + 1) w3 32 hgv.symm (fun g e => .inr (.inr (.inl e)))).later ((Below.refl _ _).alloc (Nat.le_refl _) (.cells #[.slice none 0 0] 32))
      rw [← hgv] at rg4
      have rp4 := RowS.new (O := fun g => g = gv + 1) (A := fun g => PK q g ∨ g = hb ∨ g = gv ∨ g = gv + 1) (w3.alloc (.cells #[.slice none 0 0] 32)) 32 s4 (fun g e => .inr (.inr (.inr e)))
      rw [s4] at rp4
      have sz : ((w3.alloc (.cells #[.slice none 0 0] 32)).alloc (.cells #[.slice none 0 0] 32)).heap.size = gv + 2 := by rw [hgv]; simp
      refine ⟨fun g => PK q g ∨ g = hb ∨ g = gv ∨ g = gv + 1, fun g => g = gv, fun g => g = gv + 1, ⟨(bg0 n).D, (bg0 n).B, sd0, (bg0 n).c⟩, fun _ => 0, [], [], ⟨r4, h4, Hd.new n, rg4, rp4, ?_, .inr (.inl rfl), ?_, ?_, ?_⟩, ?_, ?_, (bg0_ok n).2, fun _ _ => Nat.zero_le _⟩
      · intro g e
        rw [sz]
        rcases e with (e | e | e) | e | e | e <;> omega
      · intro g e
        subst e
        refine ⟨by omega, fun e => by rcases e with e | e | e <;> omega, by omega, by omega, by omega⟩
      · intro g e
        subst e
        refine ⟨fun e => by rcases e with e | e | e <;> omega, by omega, by omega, by omega⟩
      · refine ⟨fun e => by rcases e with e | e | e <;> omega, by omega, by omega⟩
      · exact B2.out.trans ((B3.out.trans (ba.below (by omega) (fun _ _ => id))).mono B2.out.size)
      · intro g e
        have bs := B2.out.size
        rcases e with (e | e | e) | e | e | e <;> omega
    rw [← hgv, ← hhb]
    rw [show (w3.alloc (.cells #[.slice none 0 0] 32)).heap.size = gv + 1 from s4] at *
    have HX := hide (And.intro rl xl)
    clear hq s1 lt3 rl dl pl gl xl hgv hhb s4 q5 LT3 B3 HH3 B2 R2 S1 HQ B1
    generalize (w3.alloc (.cells #[.slice none 0 0] 32)).alloc (.cells #[.slice none 0 0] 32) = w4 at *
    go_wp2
    go_loopw [10] (fun v10 wr => ∃ k : Nat, v10 = .int .i64 (k : Int) ∧ k ≤ l.length ∧ Hid (St W.heap.size W x q n hb gv (gv + 1) k wr)) (fun v10 _ => l.length - (intOf v10).toNat)
    case atStart => exact ⟨0, rfl, Nat.zero_le _, S0.out⟩
    case round =>
      clear S0
      obtain ⟨k, rfl, hk, hS⟩ := hrel
      by_cases hlt : k < l.length
      · have zk : (k : Int) < (l.length : Int) := by omega
        obtain ⟨o, ho⟩ : ∃ o, l[k]? = some o := ⟨_, List.getElem?_eq_getElem hlt⟩
        obtain ⟨A, Og, Op, X, hl, G, P, hM, hB, hge, hbd, hhl⟩ := hS.out
        obtain ⟨a', cap', e', hc', hf'⟩ := HI.out.below hB
        simp only [Value.slice.injEq, true_and] at e'
        obtain ⟨rfl, rfl⟩ := e'
        obtain ⟨og, off, rfl, hog, hcs⟩ := hc' (by omega)
        obtain ⟨o0, o1, o2, o3⟩ := hcs k o ho
        obtain ⟨io, iol⟩ := hf' o (List.mem_of_getElem? ho)
        obtain ⟨kd, kk, bv, bs, ys⟩ := o
        simp only at o0 o1 o2 o3 io iol
        obtain ⟨ba, bc, rfl, _⟩ := io.shape
        have b5 : Below wr.heap.size wr (wr.alloc (.cells #[.int .i64 kd, .int .i64 kk, .slice ba bs.length bc, .bool ys] 29)) := (Below.refl _ _).alloc (Nat.le_refl _) _
        have cz : ∀ j v, (#[.int .i64 kd, .int .i64 kk, .slice ba bs.length bc, .bool ys] : Array Value)[j]? = some v → (wr.alloc (.cells #[.int .i64 kd, .int .i64 kk, .slice ba bs.length bc, .bool ys] 29)).cell? ⟨wr.heap.size, j, none⟩ = some v := fun j v hv => by
          rw [cell_of_row _ wr.heap.size j _ 29 (0, 0) (heap_alloc_new wr _)]; exact hv
        have d0 : (wr.alloc (.cells #[.int .i64 kd, .int .i64 kk, .slice ba bs.length bc, .bool ys] 29)).cell? ⟨wr.heap.size, 0, none⟩ = some (.int .i64 kd) := cz 0 _ rfl
        have d1 : (wr.alloc (.cells #[.int .i64 kd, .int .i64 kk, .slice ba bs.length bc, .bool ys] 29)).cell? ⟨wr.heap.size, 1, none⟩ = some (.int .i64 kk) := cz 1 _ rfl
        have d2 : (wr.alloc (.cells #[.int .i64 kd, .int .i64 kk, .slice ba bs.length bc, .bool ys] 29)).cell? ⟨wr.heap.size, 2, none⟩ = some (.slice ba bs.length bc) := cz 2 _ rfl
        have sz := hM.rig.xlt
        have M5 : Hid (HM A Og Op (wr.alloc (.cells #[.int .i64 kd, .int .i64 kk, .slice ba bs.length bc, .bool ys] 29)) x q n X hb hl gv (gv + 1) G P) := ⟨hM.rig.later b5, hM.held.later b5, hM.hd, hM.rg.later b5, hM.rp.later b5, fun g hg => Nat.lt_of_lt_of_le (hM.lt g hg) b5.size, hM.ah, hM.og, hM.op, hM.hq⟩
        have IO : Hid (IsF (fun g => W.heap.size ≤ g) (wr.alloc (.cells #[.int .i64 kd, .int .i64 kk, .slice ba bs.length bc, .bool ys] 29)) (.slice ba bs.length bc) bs) := io.below (b5.mono hB.size)
        have IOL := hide iol
        have B5 := hide (hB.trans (b5.mono hB.size))
        have GE := hide hge
        have BD := hide hbd
        have HL := hide hhl
        have D0 := hide d0
        have D1 := hide d1
        have D2 := hide d2
        have NS : Hid (¬ A wr.heap.size) := fun e => by have := hM.lt _ e; omega
        clear hcs hc' hf' hM hB hge hbd hhl io iol ho hS cz b5 d1 d2 hk sz
        go_upto_region 12 with fail
        obtain ⟨so, hso⟩ : ∃ so, so = wr.heap.size := ⟨_, rfl⟩
        rw [← hso] at D0 D1 D2 NS ⊢
        rw [← hso] at d0
        generalize wr.alloc (.cells #[.int .i64 kd, .int .i64 kk, .slice ba bs.length bc, .bool ys] 29) = w5 at *
        clear hso o0 o1 o2 o3 D0 hog
        have SS : Hid (St W.heap.size W x q n hb gv (gv + 1) (k + 1) w5) := ⟨A, Og, Op, X, hl, G, P, M5.out, B5.out, GE.out, BD.out.mono (by omega), fun i hi => by have := HL.out i hi; omega⟩
        have d2 := D2.out
        have d1 := D1.out
        go_upto_block 2 with fail
        go_cut [] from 42 to 158 (fun wc => Hid (St W.heap.size W x q n hb gv (gv + 1) (k + 1) wc))
        case first =>
          by_cases k0 : kd = 0
          · as_aux_lemma =>
            subst k0
            cases hg : gt n X.B with
            | none =>
              have XG := hide (gets_no M5.out.rig hg hb (.slice ba bs.length bc))
              go_wp2_with fail
              refine XG.out.mono ?_
              rintro _ w6 ⟨rfl, hw⟩
              have hw' := hw.symm
              subst hw'
              have S6 := SS
              clear hw XG SS d0 d1 d2
              go_wp2
              go_meet
              exact S6.out
            | some i =>
              have XG := hide (gets_yes (A' := fun g => W.heap.size ≤ g) M5.out.rig M5.out.held (fun e => M5.out.hq.1 (.inr (.inl e))) M5.out.hq.2.1 M5.out.ah M5.out.hq.1 M5.out.hq.2.2 hg (.slice ba bs.length bc) bs IO.out (GE.out q.g M5.out.rig.p.ag) (by have := HL.out i (gt_some hg).1; have := ZL.out; omega))
              go_wp2_with fail
              refine XG.out.mono ?_
              rintro _ w6 ⟨rfl, r6, h6, b6⟩
              have S6 : Hid (St W.heap.size W x q n hb gv (gv + 1) (k + 1) w6) := ⟨A, Og, Op, _, _, G, P, M5.out.took (X' := ⟨X.D, stB n (upd X.B i ⟨1, [], []⟩) (i : Int) bs, X.s, X.c⟩) b6 r6 h6 (M5.out.hd.gets hg bs), B5.out.trans (b6.below B5.out.size (fun g hg' e => e.elim (fun e => by have := GE.out q.g M5.out.rig.p.ag; omega) (fun e => by have := GE.out hb M5.out.ah; omega))), GE.out, ((BD.out.get (by omega) i).st _ _).mono (by omega), fun j hj => by
                have h1 := HL.out j hj
                by_cases e : j = i
                · subst e; rw [upd_same]; omega
                · rw [upd_other _ _ _ _ e]; omega⟩
              clear r6 h6 b6 XG SS d0 d1 d2
              go_wp2
              go_meet
              exact S6.out
          · by_cases k1 : kd = 1
            · as_aux_lemma =>
              subst k1
              obtain ⟨eo, heo⟩ : ∃ eo, eo = hoE n X.B kk := ⟨_, rfl⟩
              obtain ⟨hh, ehh⟩ : ∃ y, y = (seX n X.B kk).head := ⟨_, rfl⟩
              obtain ⟨dt, edt⟩ : ∃ y, y = (seX n X.B kk).data := ⟨_, rfl⟩
              have HEO := hide heo
              have EHH := hide ehh
              have EDT := hide edt
              have XE : Hid (∀ w', Below w5.heap.size w5 w' → Calls Try.prog 12 #[.pointer (some ⟨q.p, 0, none⟩), .int .i64 kk] w' fun e w6 => ∃ rf ha hc da dc, e = .returned (.tuple #[.agg #[.int .i64 rf, .slice ha hh.length hc, .slice da dt.length dc], .int .i64 eo]) ∧ IsF (fun g => g < w'.heap.size) w6 (.slice ha hh.length hc) hh ∧ IsF (fun g => g < w'.heap.size) w6 (.slice da dt.length dc) dt ∧ Below w'.heap.size w' w6) := fun w' hb' => by
                refine (See_any (M5.out.later hb').rig.p.pool kk).mono ?_
                rintro e w6 ⟨ha, hc, da, dc, rfl, hsn, hbw⟩
                have sh := hsn.h.isF (A := fun g => g < w'.heap.size) (fun g hg e => by omega)
                have sd := hsn.d.isF (A := fun g => g < w'.heap.size) (fun g hg e => by omega)
                rw [← EHH.out] at sh
                rw [← EDT.out] at sd
                rw [← EHH.out, ← EDT.out, ← HEO.out]
                exact ⟨_, _, _, _, _, rfl, sh, sd, hbw⟩
              have kx := M5.out.rig.c1
              have b0 : But (fun _ => False) w5 (w5.alloc (.cells #[.int .i64 0, .slice none 0 0, .slice none 0 0] 35)) := (But.refl _ _).alloc _
              have B0 : Hid (Below w5.heap.size w5 (w5.alloc (.cells #[.int .i64 0, .slice none 0 0, .slice none 0 0] 35))) := b0.below (Nat.le_refl _) (fun _ _ => id)
              have T0 := hide (PTri.new w5 35)
              have u1 := World.block_lt_of_cell? w5 _ kx
              have u2 := World.block_lt_of_cell? w5 _ d1
              have u3 : ¬ x = w5.heap.size := by have u1 : x < _ := u1; omega
              have u4 : ¬ w5.heap.size = x := by have u1 : x < _ := u1; omega
              have u5 : ¬ so = w5.heap.size := by have u2 : so < _ := u2; omega
              have u6 : ¬ w5.heap.size = so := by have u2 : so < _ := u2; omega
              have SO : Hid (so < w5.heap.size) := u2
              have NSK : Hid (¬ PK q so) := fun e => NS.out (PK_A M5.out so e)
              clear heo ehh edt b0 SS
              go_upto_region 18 with fail
              go_cut [13, 14] from 42 to 158 (fun v13 v14 wc => v14 = .int .i64 eo ∧ ∃ sb ha hc da dc, v13 = .pointer (some ⟨sb, 0, none⟩) ∧ Hid (Below w5.heap.size w5 wc ∧ wc.cell? ⟨sb, 1, none⟩ = some (.slice ha hh.length hc) ∧ wc.cell? ⟨sb, 2, none⟩ = some (.slice da dt.length dc) ∧ IsF (fun g => g < w5.heap.size) wc (.slice ha hh.length hc) hh ∧ IsF (fun g => g < w5.heap.size) wc (.slice da dt.length dc) dt ∧ w5.heap.size ≤ sb))
              case first =>
                have KP1 : Hid (∀ w', Below w5.heap.size w5 w' → w'.cell? ⟨x, 1, none⟩ = some (.pointer (some ⟨q.p, 0, none⟩)) ∧ w'.cell? ⟨so, 1, none⟩ = some (.int .i64 kk)) := fun w' hb' => ⟨(M5.out.later hb').rig.c1, (hb'.cell (p := ⟨so, 1, none⟩) SO.out).trans D1.out⟩
                have KS : Hid (∀ w', Below w5.heap.size w5 w' → Below w5.heap.size w5 (w'.alloc (.cells #[.int .i64 0, .slice none 0 0, .slice none 0 0] 35))) := fun w' hb' => hb'.alloc hb'.size _
                have KS1 : Hid (∀ w', Below w5.heap.size w5 w' → ∀ u, Below w5.heap.size w5 (w'.setCell ⟨w5.heap.size, 0, none⟩ u)) := fun w' hb' u => hb'.setCell (p := ⟨w5.heap.size, 0, none⟩) (Nat.le_refl _) _
                have KS2 : Hid (∀ w', Below w5.heap.size w5 w' → ∀ u v, Below w5.heap.size w5 ((w'.setCell ⟨w5.heap.size, 0, none⟩ u).setCell ⟨w5.heap.size, 1, none⟩ v)) := fun w' hb' u v => (hb'.setCell (p := ⟨w5.heap.size, 0, none⟩) (Nat.le_refl _) _).setCell (p := ⟨w5.heap.size, 1, none⟩) (Nat.le_refl _) _
                have KS3 : Hid (∀ w', Below w5.heap.size w5 w' → ∀ u v y, Below w5.heap.size w5 (((w'.setCell ⟨w5.heap.size, 0, none⟩ u).setCell ⟨w5.heap.size, 1, none⟩ v).setCell ⟨w5.heap.size, 2, none⟩ y)) := fun w' hb' u v y => ((hb'.setCell (p := ⟨w5.heap.size, 0, none⟩) (Nat.le_refl _) _).setCell (p := ⟨w5.heap.size, 1, none⟩) (Nat.le_refl _) _).setCell (p := ⟨w5.heap.size, 2, none⟩) (Nat.le_refl _) _
                have q0' : Below w5.heap.size w5 w5.drew := undrew0 (Below.refl _ _)
                go_region_held3 (fun w' => w'.cell? ⟨x, 1, none⟩ = some (.pointer (some ⟨q.p, 0, none⟩)) ∧ w'.cell? ⟨so, 1, none⟩ = some (.int .i64 kk)) (first | exact KP1.out _ (by assumption) | exact KP1.out _ B0.out | exact KP1.out _ (undrew0 B0.out) | exact KP1.out _ F13.out.1 | exact KP1.out _ (KS.out _ (by assumption)) | exact KP1.out _ (KS1.out _ (by assumption) _) | exact KP1.out _ (KS2.out _ (by assumption) _ _) | exact KP1.out _ (KS3.out _ (by assumption) _ _ _)) (first
                  | (go_at_call 12; refine (XE.out w5.drew (undrew0 (Below.refl _ _))).mono ?_; rintro _ w13 ⟨rf, ha, hc, da, dc, rfl, ih, it, b13⟩; have F13 := hide (see1 (w5 := w5) ih it (fun g hg => hg) (undrew b13) rf); have q13 : Below w5.heap.size w5 w13 := undrew b13; clear ih it b13)
                  | (go_at_call 12; refine (XE.out (w5.alloc (.cells #[.int .i64 0, .slice none 0 0, .slice none 0 0] 35)).drew (undrew0 B0.out)).mono ?_; rintro _ w13 ⟨rf, ha, hc, da, dc, rfl, ih, it, b13⟩; have t13 := T0.out.but (But.of_below (K := fun _ => False) (undrew b13)) id; have e0 := t13.c0; have e1 := t13.c1; have e2 := t13.c2; have f0 := t13.f 0; have f1 := t13.f 1; have f2 := t13.f 2; have F13 := hide (see3 (w5 := w5) ih it (undrew b13) B0.out t13 rf); have q13 : Below w5.heap.size w5 w13 := B0.out.trans ((undrew b13).mono B0.out.size); clear ih it b13 t13))
                all_goals go_wp2
                all_goals go_meet
                all_goals exact ⟨rfl, _, _, _, _, _, rfl, F13.out⟩
              case rest =>
                obtain ⟨rfl, sb, ha, hc, da, dc, rfl, hcut2⟩ := hcut
                obtain ⟨b6, c61, c62, i61, i62, hsb⟩ := hcut2.out
                have M6 := hide (M5.out.later b6)
                have B6 := hide b6
                have IH6 := hide (i61.avoid (A' := A) (fun g _ e => M5.out.lt g e))
                have IT6 := hide (i62.avoid (A' := A) (fun g _ e => M5.out.lt g e))
                have C6 := hide (And.intro c61 c62)
                have SB : Hid (¬ A sb ∧ sb < wc.heap.size) := ⟨fun e => by have := M5.out.lt sb e; omega, World.block_lt_of_cell? wc _ c61⟩
                have o16 : wc.cell? ⟨so, 1, none⟩ = some (.int .i64 kk) := (b6.cell (p := ⟨so, 1, none⟩) SO.out).trans D1.out
                obtain ⟨se, hse⟩ : ∃ se, se = sdE n X.D X.B X.s kk := ⟨_, rfl⟩
                have XSD : Hid (∀ w', Below wc.heap.size wc w' → Calls Try.prog 13 #[.pointer (some ⟨q.r, 0, none⟩), .int .i64 kk] w' fun e w6 => e = .returned (.int .i64 se) ∧ RigP A w6 x q n (sdD n X.D X.B X.s kk) (sdB n X.D X.B X.s kk) (sdS n X.D X.B X.s kk) X.c ∧ But (PK q) wc w6) := fun w' hb' => by
                  have m := M6.out.later hb'
                  refine (Send_any m.rig.p m.hd.ok m.lt kk BD.out (by have := ZL.out; omega)).mono ?_
                  rintro e w6 ⟨rfl, hp6, hb6⟩
                  exact ⟨by rw [hse], m.rig.did hb6 hp6, (But.of_below hb').trans hb6⟩
                have KP : Hid (∀ w', Below wc.heap.size wc w' → w'.cell? ⟨x, 2, none⟩ = some (.pointer (some ⟨q.r, 0, none⟩)) ∧ w'.cell? ⟨so, 1, none⟩ = some (.int .i64 kk)) := fun w' hb' => ⟨(M6.out.later hb').rig.c2, (hb'.cell (p := ⟨so, 1, none⟩) (Nat.lt_of_lt_of_le SO.out b6.size)).trans o16⟩
                have SO6 : Hid (so < wc.heap.size) := Nat.lt_of_lt_of_le SO.out b6.size
                have O16 := hide o16
                have HSE := hide hse
                have kx2 := M6.out.rig.c2
                clear hcut2 b6 c61 c62 i61 i62 hsb XE B0 T0 u1 u2 u3 u4 u5 u6 kx hse d1 d2 d0
                go_upto_region 19 with fail
                have q1 : Below wc.heap.size wc wc.drew := undrew0 (Below.refl _ _)
                obtain ⟨w6, hw6⟩ : ∃ w6, w6 = wc := ⟨_, rfl⟩
                go_cut [15] from 42 to 158 (fun v15 wd => v15 = .int .i64 se ∧ Hid (RigP A wd x q n (sdD n X.D X.B X.s kk) (sdB n X.D X.B X.s kk) (sdS n X.D X.B X.s kk) X.c ∧ But (PK q) w6 wd))
                case first =>
                  subst hw6
                  go_region_held3 (fun w' => w'.cell? ⟨x, 2, none⟩ = some (.pointer (some ⟨q.r, 0, none⟩)) ∧ w'.cell? ⟨so, 1, none⟩ = some (.int .i64 kk)) (first | exact KP.out _ (by assumption) | assumption) (first | (go_at_call 13; refine (XSD.out w6.drew q1).mono ?_; rintro _ w7 ⟨rfl, r7, b7⟩; have F7 := hide (And.intro r7 b7); have q7 : w7.cell? ⟨x, 2, none⟩ = some (.pointer (some ⟨q.r, 0, none⟩)) ∧ w7.cell? ⟨so, 1, none⟩ = some (.int .i64 kk) := (And.intro r7.c2 ((b7.cell (p := ⟨so, 1, none⟩) SO6.out NSK.out).trans O16.out)); clear r7 b7))
                  all_goals go_wp2
                  all_goals go_meet
                  all_goals exact ⟨rfl, F7.out⟩
                case rest =>
                  rw [← hw6] at M6 B6 IH6 IT6 C6 SB
                  clear hw6 q1 KP XSD O16 SO6 o16 kx2
                  obtain ⟨rfl, hcut3⟩ := hcut
                  obtain ⟨r7, b7⟩ := hcut3.out
                  have bN : Below W.heap.size w6 wc := b7.below (Nat.le_trans B5.out.size B6.out.size) (fun g hg' e => by have := GE.out g (PK_A M5.out g e); omega)
                  have BN : Hid (Below W.heap.size W wc) := (B5.out.trans (B6.out.mono B5.out.size)).trans bN
                  rcases M5.out.hd.sends kk with ⟨e0, hu, hd'⟩ | ⟨e0, hd'⟩
                  · have se0 : se = 0 := HSE.out.trans e0
                    have eo0 : eo = 0 := by rw [HEO.out]; unfold hoE; rw [if_pos hu]
                    subst se0 eo0
                    have iH := IH6.out.but b7 (PK_A M5.out)
                    have iT := IT6.out.but b7 (PK_A M5.out)
                    have nsb : ¬ PK q sb := fun e => SB.out.1 (PK_A M5.out sb e)
                    have c71 := (b7.cell (p := ⟨sb, 1, none⟩) SB.out.2 nsb).trans C6.out.1
                    have c72 := (b7.cell (p := ⟨sb, 2, none⟩) SB.out.2 nsb).trans C6.out.2
                    have lsb : sb < wc.heap.size := Nat.lt_of_lt_of_le SB.out.2 b7.size
                    obtain ⟨i, rfl, hi, hr⟩ := usd_yes hu
                    have eX : seX n X.B (i : Int) = X.B i := by unfold seX; rw [if_pos hu]; simp
                    have lh : hh.length ≤ 104 := by rw [EHH.out, eX]; exact (M5.out.rig.p.pool.buf i hi).hle
                    have ld : dt.length ≤ 288 := by rw [EDT.out, eX]; exact (M5.out.rig.p.pool.buf i hi).dle
                    obtain ⟨F, eF⟩ : ∃ F, F = hh ++ dt := ⟨_, rfl⟩
                    have fF : fr X.B (i : Int) = F := by rw [eF, EHH.out, EDT.out, eX]; unfold fr; simp
                    rw [fF] at hd'
                    have p15 : P.length ≤ 15 := by obtain ⟨j, _, _, b3, _⟩ := M5.out.hd.h4; have := M5.out.hd.sm; omega
                    have rp7 := M6.out.rp.but b7 (PK_A M5.out) (fun g hg e => (M5.out.op g hg).1 e)
                    obtain ⟨pa0, pcap0, cpv, _⟩ := rp7.row
                    have pvl := rp7.vlt
                    have XPU : Hid (∀ w9 u, Below wc.heap.size wc w9 → IsF A w9 u F → ∃ val w2, (Builtin.append_ #[32, 32] 32 #[.slice pa0 P.length pcap0, .slice (some ⟨w9.heap.size, 0, none⟩) 1 1]).run Try.prog (w9.alloc (.cells #[u] 27)) = .ok val w2 ∧ (∃ a' c', val = .slice a' (P.length + 1) c') ∧ w2.cell? ⟨gv + 1, 0, none⟩ = some (.slice pa0 P.length pcap0) ∧ w2.frozen? ⟨gv + 1, 0, none⟩ = false ∧ St W.heap.size W x q n hb gv (gv + 1) (k + 1) (w2.setCell ⟨gv + 1, 0, none⟩ val)) := fun w9 u hb9 hu9 => by
                      obtain ⟨pa, pcap, val, w2, c1, hrun, hv, c2, f2, ⟨A', Op', hM', hA'⟩, bO⟩ := M6.out.pushP (X' := ⟨sdD n X.D X.B X.s (i : Int), sdB n X.D X.B X.s (i : Int), sdS n X.D X.B X.s (i : Int), X.c⟩) (b7.trans (But.of_below hb9)) (r7.later hb9) u F hu9 hd' p15
                      have e1 : w9.cell? ⟨gv + 1, 0, none⟩ = some (.slice pa0 P.length pcap0) := (hb9.cell (p := ⟨gv + 1, 0, none⟩) pvl).trans cpv
                      rw [e1] at c1
                      have ee : pa0 = pa ∧ pcap0 = pcap := by
                        simp only [Option.some.injEq, Value.slice.injEq, true_and] at c1
                        exact c1
                      obtain ⟨rfl, rfl⟩ := ee
                      have s9 : W.heap.size ≤ w9.heap.size := Nat.le_trans BN.out.size hb9.size
                      exact ⟨val, w2, hrun, hv, c2, f2, A', Og, Op', _, hl, G, P ++ [F], hM', (BN.out.trans (hb9.mono BN.out.size)).trans (bO.below s9 (fun g hg' e => by have := GE.out g e; omega)), fun g e => (hA' g e).elim (fun e => GE.out g e) (fun e => Nat.le_trans s9 e), BD.out.sd _, fun j hj => by have := HL.out j hj; omega⟩
                    have IH7 : Hid (IsF A wc.drew (.slice ha hh.length hc) hh) := iH.drew
                    have IT7 := hide iT
                    have L0 : Hid (([] : List Int).length + hh.length ≤ 140737488355328) := by unfold Hid; simp; omega
                    have L1 : Hid (hh.length + dt.length ≤ 140737488355328) := by unfold Hid; omega
                    have EF := hide eF.symm
                    have LT7 : Hid (∀ g, A g → g < wc.heap.size) := fun g hg => Nat.lt_of_lt_of_le (M6.out.lt g hg) b7.size
                    have KC : Hid (∀ w8, Below wc.heap.size wc w8 → w8.cell? ⟨gv + 1, 0, none⟩ = some (.slice pa0 P.length pcap0) ∧ w8.cell? ⟨sb, 2, none⟩ = some (.slice da dt.length dc) ∧ gv + 1 < w8.heap.size ∧ sb < w8.heap.size) := fun w8 hb8 => ⟨(hb8.cell (p := ⟨gv + 1, 0, none⟩) pvl).trans cpv, (hb8.cell (p := ⟨sb, 2, none⟩) lsb).trans c72, Nat.lt_of_lt_of_le pvl hb8.size, Nat.lt_of_lt_of_le lsb hb8.size⟩
                    clear iH iT hcut3 r7 b7 bN e0 hd' rp7 eF fF hu hr eX
                    go_upto_region 23 with fail
                    go_region_law (first
                      | (refine step_more rfl _ _ rfl rfl (A := A) (M := wc.heap.size) _ _ [] hh (by simp [Act.eval]) (by simp [Act.eval]) (Gro.nil _ _) IH7.out (Nat.le_refl _) L0.out hh (List.nil_append _) ?_; intro a8 cap8 w8 hG8 hb8; have G8 := hide hG8; have q8 := undrew hb8; obtain ⟨y1, y2, y3, y4⟩ := KC.out w8 q8; have IT8 := hide (IT7.out.later q8); have S8 := hide q8; clear hG8 hb8 q8)
                      | (refine step_more rfl _ _ rfl rfl (A := A) (M := wc.heap.size) _ _ hh dt (by simp [Act.eval]) (by simp [Act.eval]) G8.out IT8.out S8.out.size L1.out F EF.out ?_; intro a9 cap9 w9 hG9 hb9; have q9 := S8.out.trans hb9; obtain ⟨z1, z2, z3, z4⟩ := KC.out w9 q9; have z5 : ¬ gv + 1 = w9.heap.size := (by omega); have z6 : ¬ w9.heap.size = gv + 1 := (by omega); have IF9 : IsF A w9 (.slice a9 F.length cap9) F := hG9.isF (fun g hg e => by have := LT7.out g e; omega); obtain ⟨val, w10, hrun, ⟨va, vc, hval⟩, cv, fv, S10⟩ := XPU.out w9 (.slice a9 F.length cap9) q9 IF9; subst hval; have HRN := hide hrun; have S6 := hide S10; clear hG9 hb9 IF9 hrun S10 q9)
                      | (refine step_app rfl 32 _ _ rfl rfl _ _ _ _ (by simp [Act.eval]) (by simp [Act.eval]) HRN.out ?_))
                    all_goals go_wp2
                    all_goals go_meet
                    all_goals exact S6.out
                  · have se0 : (se == 0) = false := by rw [HSE.out]; simp [e0]
                    have S6 : Hid (St W.heap.size W x q n hb gv (gv + 1) (k + 1) wc) := ⟨A, Og, Op, _, hl, G, P, M6.out.did (X' := ⟨sdD n X.D X.B X.s kk, sdB n X.D X.B X.s kk, sdS n X.D X.B X.s kk, X.c⟩) b7 r7 hd' rfl rfl, BN.out, GE.out, BD.out.sd _, fun i hi => by have := HL.out i hi; omega⟩
                    clear hcut3 r7 b7 bN e0 hd'
                    go_wp2
                    go_meet
                    exact S6.out
            · by_cases k2 : kd = 2
              · as_aux_lemma =>
                subst k2
                have XT := hide (told_any M5.out (fun i hi => by have := HL.out i hi; have := ZL.out; omega) BD.out (by have := ZL.out; omega))
                go_wp2_with fail
                refine XT.out.mono ?_
                rintro _ w6 ⟨rfl, m6, b6, s6⟩
                have b6' : Below W.heap.size w5 w6 := b6.below B5.out.size (fun g hg' e => by
                  have h1 : A g := by
                    rcases e with e | e | e
                    · exact PK_A M5.out g e
                    · rw [e]; exact M5.out.ah
                    · exact M5.out.rg.oa g e
                  have := GE.out g h1
                  omega)
                have S6 : Hid (St W.heap.size W x q n hb gv (gv + 1) (k + 1) w6) := ⟨A, Og, Op, _, _, [], P, m6, B5.out.trans b6', GE.out, (polled_bdd BD.out (by omega) M5.out.hd.ok).mono (by omega), fun j hj => by
                  have h1 := HL.out j hj
                  have h2 : (X.c.ids.take G.length).count (j : Int) ≤ 15 := Nat.le_trans List.count_le_length (by rw [List.length_take]; have := M5.out.hd.cm; omega)
                  omega⟩
                clear m6 b6 b6' s6 XT SS d0 d1 d2
                go_wp2
                go_meet
                exact S6.out
              · by_cases k4 : kd = 4
                · as_aux_lemma =>
                  subst k4
                  have kx := M5.out.rig.c0
                  rcases M5.out.hd.takes with ⟨rfl, e7, ed⟩ | ⟨f, P', rfl, e0, ef, hd'⟩
                  · have XT := hide (Take_any M5.out.rig.p.dev M5.out.hd.ok)
                    rw [e7, ed] at XT
                    clear e7 ed
                    go_wp2_with fail
                    refine XT.out.mono ?_
                    rintro _ w6 ⟨fa, fc, rfl, _, d6, b6⟩
                    generalize X.D.tkF.length = tl at *
                    generalize X.D.tkT = tt at *
                    have b6' : But (PK q) w5 w6 := b6.mono (fun g e => .inl e)
                    have m6 := M5.out.did (X' := X) b6' (M5.out.rig.did b6' (M5.out.rig.p.onDev b6 d6)) M5.out.hd rfl rfl
                    have bN : Below W.heap.size w5 w6 := b6'.below B5.out.size (fun g hg' e => by have := GE.out g (PK_A M5.out g e); omega)
                    have bz6 : Below w6.heap.size w6 (w6.alloc (.cells #[.slice fa tl fc, .bool false, .int .i64 tt] 51)) := (Below.refl _ _).alloc (Nat.le_refl _) _
                    have S6 : Hid (St W.heap.size W x q n hb gv (gv + 1) (k + 1) (w6.alloc (.cells #[.slice fa tl fc, .bool false, .int .i64 tt] 51))) := ⟨A, Og, Op, _, hl, G, [], m6.later bz6, (B5.out.trans bN).trans (bz6.mono (Nat.le_trans B5.out.size b6.size)), GE.out, BD.out.mono (by omega), fun i hi => by have := HL.out i hi; omega⟩
                    clear d6 b6 b6' m6 bN bz6 XT SS d0 d1 d2 kx
                    go_wp2
                    go_meet
                    exact S6.out
                  · have XT := hide (Take_any M5.out.rig.p.dev M5.out.hd.ok)
                    rw [e0, ef] at XT
                    have HD6 := hide hd'
                    clear e0 ef hd'
                    go_wp2_with fail
                    refine XT.out.mono ?_
                    rintro _ w6 ⟨fa, fc, rfl, g6, d6, b6⟩
                    generalize X.D.tkT = tt at *
                    have b6' : But (PK q) w5 w6 := b6.mono (fun g e => .inl e)
                    have r6 := M5.out.rig.did b6' (M5.out.rig.p.onDev b6 d6)
                    have bz6 : Below w6.heap.size w6 (w6.alloc (.cells #[.slice fa f.length fc, .bool false, .int .i64 tt] 51)) := (Below.refl _ _).alloc (Nat.le_refl _) _
                    have bN : Below W.heap.size w5 w6 := b6'.below B5.out.size (fun g hg' e => by have := GE.out g (PK_A M5.out g e); omega)
                    obtain ⟨g, off, pcap, ua, uc, c1, hc1, hc2, c4, iu, vf, hpop⟩ := M5.out.popP (X' := ⟨X.D.tkD, X.B, X.s, X.c⟩) (b6'.trans (But.of_below bz6)) (r6.later bz6) HD6.out
                    have iF := (g6.isF (A := fun _ => False) (fun _ _ e => e)).but (K := fun _ => False) (But.of_below bz6) (fun _ e => e)
                    have cf : (w6.alloc (.cells #[.slice fa f.length fc, .bool false, .int .i64 tt] 51)).cell? ⟨w6.heap.size, 0, none⟩ = some (.slice fa f.length fc) := by rw [cell_of_row _ w6.heap.size 0 _ 51 (0, 0) (heap_alloc_new w6 _)]; rfl
                    have BN : Hid (Below W.heap.size W (w6.alloc (.cells #[.slice fa f.length fc, .bool false, .int .i64 tt] 51))) := (B5.out.trans bN).trans (bz6.mono (Nat.le_trans B5.out.size b6.size))
                    have p15 : P'.length ≤ 15 := by obtain ⟨j, _, _, b3, _⟩ := HD6.out.h4; have := HD6.out.sm; rw [b3]; show X.s.ids.length - j ≤ 15; have : X.s.ids.length ≤ 15 := this; omega
                    have zp : (P'.length : Int) ≤ 15 := by omega
                    have qp : ((P'.length : Int) + 1 == 0) = false := by rw [beq_eq_false_iff_ne]; omega
                    have zc : (pcap : Int) ≤ 9223372036854775807 := by unfold maxLen at hc2; omega
                    have zc1 : (P'.length : Int) + 1 ≤ (pcap : Int) := by omega
                    have HPOP := hide hpop
                    clear g6 d6 b6 b6' r6 bz6 bN hpop XT SS d0 d1 d2 kx hc1 hc2 p15
                    go_upto_region 31 with fail
                    obtain ⟨sf, hsf⟩ : ∃ sf, sf = w6.heap.size := ⟨_, rfl⟩
                    rw [← hsf] at cf ⊢
                    generalize w6.alloc (.cells #[.slice fa f.length fc, .bool false, .int .i64 tt] 51) = w7 at *
                    have cx : ∀ m, (convert 27 9 (.slice fa f.length fc)).run Try.prog (w7.drewN m) = .ok (.string (strB f)) (w7.drewN m) := fun m => conv_str (iF.but (K := fun _ => False) ((But.refl _ _).drewN m) (fun _ e => e.elim))
                    have cy : ∀ m, (convert 27 9 (.slice ua f.length uc)).run Try.prog (w7.drewN m) = .ok (.string (strB f)) (w7.drewN m) := fun m => conv_str (iu.but (K := fun _ => False) ((But.refl _ _).drewN m) (fun _ e => e.elim))
                    clear hsf iF iu
                    go_quiet (fail)
                    clear cx cy
                    by_cases e1 : pcap = 1
                    · subst e1
                      obtain ⟨m7, bA⟩ := HPOP.out ⟨g, off, none⟩ (fun h => by omega)
                      have bN2 : Below W.heap.size w7 (w7.setCell ⟨gv + 1, 0, none⟩ (.slice (some ⟨g, off, none⟩) P'.length 0)) := bA.below BN.out.size (fun y hy e => by have := GE.out y e; omega)
                      have S6 : Hid (St W.heap.size W x q n hb gv (gv + 1) (k + 1) ((w7.setCell ⟨gv + 1, 0, none⟩ (.slice (some ⟨g, off, none⟩) P'.length 0)).drewN nq)) := ⟨A, Og, Op, _, hl, G, P', m7.later (drewN_belowG _ nq), (BN.out.trans bN2).trans ((drewN_belowG _ nq).mono (Nat.le_trans BN.out.size bN2.size)), GE.out, BD.out.mono (by omega), fun i hi => by have := HL.out i hi; omega⟩
                      have S6 : Hid (St W.heap.size W x q n hb gv (gv + 1) (k + 1) ((w7.drewN nq).setCell ⟨gv + 1, 0, none⟩ (.slice (some ⟨g, off, none⟩) P'.length 0))) := S6
                      clear m7 bA bN2
                      go_wp2
                      clear c1 c4 vf cf
                      generalize (w7.drewN nq).setCell ⟨gv + 1, 0, none⟩ (.slice (some ⟨g, off, none⟩) P'.length 0) = w8 at *
                      go_wp2
                      go_meet
                      exact S6.out
                    · have e2 : ¬ (pcap : Int) = 1 := by omega
                      obtain ⟨m7, bA⟩ := HPOP.out ⟨g, off + 1, none⟩ (fun _ => rfl)
                      have bN2 : Below W.heap.size w7 (w7.setCell ⟨gv + 1, 0, none⟩ (.slice (some ⟨g, off + 1, none⟩) P'.length (pcap - 1))) := bA.below BN.out.size (fun y hy e => by have := GE.out y e; omega)
                      have S6 : Hid (St W.heap.size W x q n hb gv (gv + 1) (k + 1) ((w7.setCell ⟨gv + 1, 0, none⟩ (.slice (some ⟨g, off + 1, none⟩) P'.length (pcap - 1))).drewN nq)) := ⟨A, Og, Op, _, hl, G, P', m7.later (drewN_belowG _ nq), (BN.out.trans bN2).trans ((drewN_belowG _ nq).mono (Nat.le_trans BN.out.size bN2.size)), GE.out, BD.out.mono (by omega), fun i hi => by have := HL.out i hi; omega⟩
                      have S6 : Hid (St W.heap.size W x q n hb gv (gv + 1) (k + 1) ((w7.drewN nq).setCell ⟨gv + 1, 0, none⟩ (.slice (some ⟨g, off + 1, none⟩) P'.length (pcap - 1)))) := S6
                      clear m7 bA bN2
                      go_wp2
                      clear c1 c4 vf cf
                      generalize (w7.drewN nq).setCell ⟨gv + 1, 0, none⟩ (.slice (some ⟨g, off + 1, none⟩) P'.length (pcap - 1)) = w8 at *
                      go_wp2
                      go_meet
                      exact S6.out
                · by_cases k5 : kd = 5
                  · as_aux_lemma =>
                    subst k5
                    obtain ⟨ev, hev⟩ : ∃ ev, ev = X.D.gvE bs := ⟨_, rfl⟩
                    have XGV : Hid (∀ w', Below w5.heap.size w5 w' → Calls Try.prog 16 #[.pointer (some ⟨q.d, 0, none⟩), .slice ba bs.length bc, .bool false] w' fun e w6 => e = .returned (.int .i64 ev) ∧ RigP A w6 x q n (X.D.gvD bs false) X.B X.s X.c ∧ But (PK q) w5 w6) := fun w' hb' => by
                      have m := M5.out.later hb'
                      refine (Give_any (A' := fun g => W.heap.size ≤ g) m.rig.p.dev m.hd.ok m.lt _ bs false (IO.out.later hb') (by have := IOL.out; omega)).mono ?_
                      rintro e w6 ⟨rfl, hd6, hb6⟩
                      exact ⟨by rw [hev], m.rig.did (hb6.mono (fun g e => .inl e)) (m.rig.p.onDev hb6 hd6), (But.of_below hb').trans (hb6.mono (fun g e => .inl e))⟩
                    have kx := M5.out.rig.c0
                    have KP : Hid (∀ w', Below w5.heap.size w5 w' → w'.cell? ⟨x, 0, none⟩ = some (.pointer (some ⟨q.d, 0, none⟩)) ∧ w'.cell? ⟨so, 2, none⟩ = some (.slice ba bs.length bc)) := fun w' hb' => ⟨(M5.out.later hb').rig.c0, (hb'.cell (p := ⟨so, 2, none⟩) (World.block_lt_of_cell? w5 _ D2.out)).trans D2.out⟩
                    have SO : Hid (so < w5.heap.size) := World.block_lt_of_cell? w5 _ D2.out
                    have NSK : Hid (¬ PK q so) := fun e => NS.out (PK_A M5.out so e)
                    have HEV := hide hev
                    clear hev SS
                    go_upto_region 35 with fail
                    have q1 : Below w5.heap.size w5 w5.drew := undrew0 (Below.refl _ _)
                    go_cut [19] from 42 to 158 (fun v19 wc => v19 = .int .i64 ev ∧ Hid (RigP A wc x q n (X.D.gvD bs false) X.B X.s X.c ∧ But (PK q) w5 wc))
                    case first =>
                      go_region_held3 (fun w' => w'.cell? ⟨x, 0, none⟩ = some (.pointer (some ⟨q.d, 0, none⟩)) ∧ w'.cell? ⟨so, 2, none⟩ = some (.slice ba bs.length bc)) (first | exact KP.out _ (by assumption) | assumption) (first | (go_at_call 16; refine (XGV.out w5.drew q1).mono ?_; rintro _ w6 ⟨rfl, r6, b6⟩; have F6 := hide (And.intro r6 b6); have q6 : w6.cell? ⟨x, 0, none⟩ = some (.pointer (some ⟨q.d, 0, none⟩)) ∧ w6.cell? ⟨so, 2, none⟩ = some (.slice ba bs.length bc) := (And.intro r6.c0 ((b6.cell (p := ⟨so, 2, none⟩) SO.out NSK.out).trans D2.out)); clear r6 b6))
                      all_goals go_wp2
                      all_goals go_meet
                      all_goals exact ⟨rfl, F6.out⟩
                    case rest =>
                      obtain ⟨rfl, hcut2⟩ := hcut
                      obtain ⟨r6, b6⟩ := hcut2.out
                      rcases M5.out.hd.gives bs with ⟨e0, hd'⟩ | ⟨e0, hd'⟩
                      · have ev0 : ev = 0 := HEV.out.trans e0
                        subst ev0
                        have iu : IsF A wc (.slice ba bs.length bc) bs := (IO.out.avoid (fun g _ e => GE.out g e)).but b6 (PK_A M5.out)
                        obtain ⟨pa, pcap, val, w7, c1, hrun, ⟨va, vc, rfl⟩, c2, f2, ⟨A', Og', hM', hA'⟩, bO⟩ := M5.out.pushG (X' := ⟨X.D.gvD bs false, X.B, X.s, X.c⟩) b6 r6 (.slice ba bs.length bc) bs iu hd' (Nat.le_trans M5.out.hd.h2.1 M5.out.hd.cm)
                        have co : wc.cell? ⟨so, 2, none⟩ = some (.slice ba bs.length bc) := (b6.cell (p := ⟨so, 2, none⟩) SO.out NSK.out).trans D2.out
                        have bN : Below W.heap.size w5 wc := b6.below B5.out.size (fun g hg' e => by have := GE.out g (PK_A M5.out g e); omega)
                        have bN2 : Below W.heap.size wc (w7.setCell ⟨gv, 0, none⟩ (.slice va (G.length + 1) vc)) := bO.below (Nat.le_trans B5.out.size b6.size) (fun g hg' e => by have := GE.out g e; omega)
                        have S6 : Hid (St W.heap.size W x q n hb gv (gv + 1) (k + 1) (w7.setCell ⟨gv, 0, none⟩ (.slice va (G.length + 1) vc))) := ⟨A', Og', Op, _, hl, G ++ [bs], P, hM', (B5.out.trans bN).trans bN2, fun g e => (hA' g e).elim (fun e => GE.out g e) (fun e => Nat.le_trans (Nat.le_trans B5.out.size b6.size) e), BD.out.mono (by omega), fun i hi => by have := HL.out i hi; omega⟩
                        have HRN := hide hrun
                        clear hcut2 r6 b6 e0 hd' iu hrun hM' hA' bO bN bN2 KP XGV kx q1 d0 d1 d2
                        go_upto_region 38 with (at_builtin; refine wpList_app rfl _ _ 32 32 rfl _ _ rfl rfl HRN.out ?_)
                        generalize w7.setCell ⟨gv, 0, none⟩ (.slice va (G.length + 1) vc) = w8 at *
                        clear c1 c2 f2 co HRN
                        go_wp2
                        go_meet
                        exact S6.out
                      · have ev0 : (ev == 0) = false := by rw [HEV.out]; simp [e0]
                        have bN : Below W.heap.size w5 wc := b6.below B5.out.size (fun g hg' e => by have := GE.out g (PK_A M5.out g e); omega)
                        have S6 : Hid (St W.heap.size W x q n hb gv (gv + 1) (k + 1) wc) := ⟨A, Og, Op, _, hl, G, P, M5.out.did (X' := ⟨X.D.gvD bs false, X.B, X.s, X.c⟩) b6 r6 hd' rfl rfl, B5.out.trans bN, GE.out, BD.out.mono (by omega), fun i hi => by have := HL.out i hi; omega⟩
                        clear hcut2 r6 b6 e0 hd' bN KP XGV kx q1 d0 d1 d2
                        go_wp2
                        go_meet
                        exact S6.out
                  · by_cases k8 : kd = 8
                    · as_aux_lemma =>
                      subst k8
                      by_cases hno : kk < 0 ∨ (n : Int) ≤ kk ∨ hl kk.toNat = 0
                      · have XG := hide (lets_no (x := x) M5.out.held (by omega) kk hno)
                        go_wp2_with fail
                        refine XG.out.mono ?_
                        rintro _ w6 ⟨rfl, hw⟩
                        have hw' := hw.symm
                        subst hw'
                        have S6 := SS
                        clear hw XG SS d0 d1 d2 hno
                        go_wp2
                        go_meet
                        exact S6.out
                      · obtain ⟨i, rfl⟩ : ∃ i : Nat, kk = i := ⟨kk.toNat, by omega⟩
                        have hi : i < n := by omega
                        have h0 : 0 < hl i := by
                          rcases Nat.eq_zero_or_pos (hl i) with e | e
                          · exact absurd (.inr (.inr (by simpa using e))) hno
                          · exact e
                        obtain ⟨hE, hD⟩ := M5.out.hd.lets hi h0
                        have XG := hide (lets_yes M5.out.rig M5.out.held M5.out.hq.2.1 M5.out.ah M5.out.hq.1 M5.out.hq.2.2 hi h0 (by have := HL.out i hi; have := ZL.out; omega) (by have := BD.out i; have := ZL.out; omega) hE)
                        have HD6 := hide hD
                        have HI6 := hide hi
                        clear hD hE h0 hi hno
                        go_wp2_with fail
                        refine XG.out.mono ?_
                        rintro _ w6 ⟨rfl, r6, h6, b6⟩
                        have S6 : Hid (St W.heap.size W x q n hb gv (gv + 1) (k + 1) w6) := ⟨A, Og, Op, _, _, G, P, M5.out.took (X' := ⟨X.D, frB n X.B (i : Int), X.s, X.c⟩) b6 r6 h6 HD6.out, B5.out.trans (b6.below B5.out.size (fun g hg' e => e.elim (fun e => by have := GE.out q.g M5.out.rig.p.ag; omega) (fun e => by have := GE.out hb M5.out.ah; omega))), GE.out, (BD.out.fr _).mono (by omega), fun j hj => by
                          have h1 := HL.out j hj
                          by_cases e : j = i
                          · subst e; rw [upd_same]; omega
                          · rw [upd_other _ _ _ _ e]; omega⟩
                        clear r6 h6 b6 XG SS d0 d1 d2
                        go_wp2
                        go_meet
                        exact S6.out
                    · have q0 : (kd == 0) = false := by simp [k0]
                      have q1 : (kd == 1) = false := by simp [k1]
                      have q2 : (kd == 2) = false := by simp [k2]
                      have q4 : (kd == 4) = false := by simp [k4]
                      have q5 : (kd == 5) = false := by simp [k5]
                      have q8 : (kd == 8) = false := by simp [k8]
                      have S6 := SS
                      clear SS d1 d2
                      go_wp2
                      go_meet
                      exact S6.out
        case rest =>
          clear SS M5 B5 IO D1 D2 d0 d1 d2 GE BD HL NS
          have XCT := hide (St_counted hcut.out (by have := ZL.out; omega) (Nat.le_refl _))
          go_wp2_with fail
          refine XCT.out.mono ?_
          rintro _ wz ⟨rfl, sz⟩
          have SZ := hide sz
          clear sz XCT hcut
          go_wp2
          go_roundw
          case rel => exact ⟨k + 1, by go_num, by omega, SZ.out⟩
          case measure => simp [intOf]; omega
      · obtain rfl : k = l.length := by omega
        have zk : ¬ (l.length : Int) < (l.length : Int) := by omega
        obtain ⟨A, Og, Op, X, hl, G, P, hM, hB, _⟩ := hS.out
        have BF := hide hB
        go_wp2
        go_ret
        exact ⟨rfl, BF.out⟩
end Go.Proofs.Ytjkfjijnjkpbbaa
