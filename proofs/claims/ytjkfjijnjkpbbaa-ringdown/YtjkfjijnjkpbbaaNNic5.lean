
/-
  Contracts: Give, Take.
-/
import Derived.Test.YtjkfjijnjkpbbaaNNic4
namespace Go.Proofs.Ytjkfjijnjkpbbaa
open Go.RowKit

theorem beq_no {x y : Int} (h : ¬ x = y) : (x == y) = false := by rw [beq_eq_false_iff_ne]; exact h
theorem beq_yes {x y : Int} (h : x = y) : (x == y) = true := by rw [h]; simp

set_option maxRecDepth 100000 in
set_option maxHeartbeats 1000000 in
theorem Give_any {A A' : Nat → Prop} {b : Nat} {D : Dev} {w : World} (h : DevAt LN A w b D) (ok : D.Ok) (hA : ∀ g, A g → g < w.heap.size) (v : Value) (bs : List Int) (x : Bool) (hv : IsF A' w v bs) (hl : bs.length ≤ 140737488355328) :
    Calls Try.prog 16 #[.pointer (some ⟨b, 0, none⟩), v, .bool x] w fun e w' => e = .returned (.int .i64 (D.gvE bs)) ∧ DevAt LN A w' b (D.gvD bs x) ∧ But (Only b) w w' := by
  obtain ⟨a, cap, rfl, _, _⟩ := hv.shape
  have H := hide h
  have HV := hide hv
  have HA := hide hA
  have OK := hide ok
  have R := hide (runs_any h)
  clear hv hA
  by_cases hr : D.runs = true
  · rw [hr] at R
    obtain ⟨k, hk, hk16⟩ := toNat_of (ok.ring 2 (by omega) (by omega))
    have c2 := h.creg 2 (by omega)
    have c3 := h.creg 3 (by omega)
    rw [hk] at c2
    by_cases e : D.r 2 = D.r 3
    · have q : ((k : Int) == D.r 3) = true := beq_yes (by rw [← hk]; exact e)
      have E : Hid (D.gvE bs = 21) := by unfold Dev.gvE; rw [if_pos hr, if_pos e]; exact rfl
      have c7 := h.creg 7 (by omega)
      have f7 := h.frozen 7
      generalize D.r 3 = z at c3 q
      have E2 : Hid (D.gvD bs x = D.miss) := by unfold Dev.gvD; rw [if_neg (by rw [E.out]; omega), if_neg (by rw [E.out]; omega)]; exact rfl
      clear h ok hk hr e
      go_enter Try.func16, Try.ntmps16
      go_wp2_with fail
      refine (unhide R).mono ?_
      rintro e w1 ⟨rfl, rfl⟩
      clear R
      go_wp2
      go_region
      go_wp2
      go_ret
      refine ⟨by rw [E.out]; rfl, ?_, ((But.refl _ _).cellb _ _).drew⟩
      rw [E2.out]
      exact (H.out.setReg LN_ok 7 (by omega) _).drew
    · have q : ((k : Int) == D.r 3) = false := beq_no (by rw [← hk]; exact e)
      have EE := hide e
      generalize D.r 3 = z at c3 q e
      have cr : w.cell? ⟨b, 41 + k * 4, none⟩ = some (.int .i64 (D.room k)) := h.croom LN_ok k hk16
      have hki : (k : Int) < 16 := by omega
      by_cases hrm : D.room k < bs.length
      · have E : Hid (D.gvE bs = 2) := by unfold Dev.gvE; rw [if_pos hr, if_neg EE.out, if_pos (by rw [hk, Int.toNat_natCast]; exact hrm)]; exact rfl
        have E2 : Hid (D.gvD bs x = D.miss) := by unfold Dev.gvD; rw [if_neg (by rw [E.out]; omega), if_neg (by rw [E.out]; omega)]; exact rfl
        have c7 := h.creg 7 (by omega)
        have f7 := h.frozen 7
        generalize D.room k = rm at cr hrm
        clear h ok hk hr e
        go_enter Try.func16, Try.ntmps16
        go_wp2_with fail
        refine (unhide R).mono ?_
        rintro e w1 ⟨rfl, rfl⟩
        clear R
        go_wp2
        go_region
        go_wp2
        go_ret
        refine ⟨by rw [E.out]; rfl, ?_, ((But.refl _ _).cellb _ _).drew⟩
        rw [E2.out]
        exact (H.out.setReg LN_ok 7 (by omega) _).drew
      · have E : Hid (D.gvE bs = 0) := by unfold Dev.gvE; rw [if_pos hr, if_neg EE.out, if_neg (by rw [hk, Int.toNat_natCast]; exact hrm)]; exact rfl
        have E2 : Hid (D.gvD bs x = D.fill bs x) := by unfold Dev.gvD; rw [if_neg (by rw [E.out]; omega), if_pos E.out]; exact rfl
        generalize D.room k = rm at cr hrm
        have HK := hide hk
        clear h ok hk hr e
        go_enter Try.func16, Try.ntmps16
        go_wp2_with fail
        refine (unhide R).mono ?_
        rintro e w1 ⟨rfl, rfl⟩
        clear R
        go_wp2_with fail
        refine (Clone_sl HV.out hl).mono ?_
        rintro e w2 ⟨a', cap', rfl, hG, hB⟩
        have d2 := H.out.later hB
        have g1 := d2.cheld LN_ok k hk16
        obtain ⟨u, g2, _⟩ := d2.crxf LN_ok k hk16
        have g3 := d2.cbad LN_ok k hk16
        have f1 := d2.frozen (41 + k * 4 + 1)
        have f2 := d2.frozen (41 + k * 4 + 2)
        have f3 := d2.frozen (41 + k * 4 + 3)
        simp only [LN] at g1 g2 g3
        have hF : IsF A w2 (.slice a' bs.length cap') bs := hG.isF (fun g hg ha => by have := HA.out g ha; omega)
        have D3 := hide (((d2.setHeld LN_ok k hk16 true).setRxf LN_ok k hk16 _ bs (hF.but (K := Only b) ((But.refl _ _).cellb _ _) (fun g e => e ▸ d2.mem))).setBad LN_ok k hk16 x)
        have HB := hide hB
        clear d2 hF hG hB
        go_wp2_with fail
        refine (goOn_rx D3.out (OK.out.ring 2 (by omega) (by omega)) OK.out.ev).mono ?_
        rintro e w3 ⟨rfl, hd, hb⟩
        have HD := hide hd
        have HB3 := hide hb
        clear hd hb
        go_wp2
        go_ret
        refine ⟨by rw [E.out]; rfl, ?_, ((((But.of_below HB.out).cellb _ _).cellb _ _).cellb _ _).trans HB3.out⟩
        rw [E2.out]
        unfold Dev.fill
        rw [HK.out, Int.toNat_natCast]
        have := HD.out
        rw [show D.r 2 = (k : Int) from HK.out] at this
        exact this
  · have hr : D.runs = false := by simpa using hr
    rw [hr] at R
    have E : Hid (D.gvE bs = 20) := by unfold Dev.gvE; rw [if_neg (by rw [hr]; simp)]; exact rfl
    clear h ok hr
    go_enter Try.func16, Try.ntmps16
    go_wp2_with fail
    refine (unhide R).mono ?_
    rintro e w1 ⟨rfl, rfl⟩
    clear R
    go_wp2
    go_ret
    refine ⟨by rw [E.out]; rfl, ?_, But.refl _ _⟩
    unfold Dev.gvD
    rw [if_pos E.out]
    exact H.out

theorem Gro.mono {B B' : Nat} {W : World} {v : Value} {bs : List Int} (h : Gro B W v bs) (hb : B' ≤ B) : Gro B' W v bs := by
  obtain ⟨h1, h2 | ⟨g, cap, cur, rfl, hg, r⟩⟩ := h
  · exact ⟨h1, .inl h2⟩
  · exact ⟨h1, .inr ⟨g, cap, cur, rfl, by omega, r⟩⟩

/-- the answer's variable -/
structure Tri (W : World) (s : Nat) : Prop where
  c0 : ∃ u, W.cell? ⟨s, 0, none⟩ = some u
  c1 : ∃ u, W.cell? ⟨s, 1, none⟩ = some u
  c2 : ∃ u, W.cell? ⟨s, 2, none⟩ = some u
  f0 : W.frozen? ⟨s, 0, none⟩ = false
  f1 : W.frozen? ⟨s, 1, none⟩ = false
  f2 : W.frozen? ⟨s, 2, none⟩ = false
theorem Tri.but {K : Nat → Prop} {W W' : World} {s : Nat} (h : Tri W s) (hb : But K W W') (hk : ¬ K s) : Tri W' s := by
  have hlt : s < W.heap.size := by obtain ⟨u, hu⟩ := h.c0; exact World.block_lt_of_cell? W _ hu
  exact ⟨h.c0.imp fun _ e => (hb.cell (p := ⟨s, 0, none⟩) hlt hk).trans e, h.c1.imp fun _ e => (hb.cell (p := ⟨s, 1, none⟩) hlt hk).trans e, h.c2.imp fun _ e => (hb.cell (p := ⟨s, 2, none⟩) hlt hk).trans e,
    (hb.frozen (p := ⟨s, 0, none⟩) hlt hk).trans h.f0, (hb.frozen (p := ⟨s, 1, none⟩) hlt hk).trans h.f1, (hb.frozen (p := ⟨s, 2, none⟩) hlt hk).trans h.f2⟩

set_option maxRecDepth 100000 in
set_option maxHeartbeats 1000000 in
theorem Take_any {A : Nat → Prop} {b : Nat} {D : Dev} {w : World} (h : DevAt LN A w b D) (ok : D.Ok) :
    Calls Try.prog 15 #[.pointer (some ⟨b, 0, none⟩)] w fun e w' => ∃ a cap, e = .returned (.tuple #[.agg #[.slice a D.tkF.length cap, .bool false, .int .i64 D.tkT], .int .i64 D.tkE]) ∧ Gro w.heap.size w' (.slice a D.tkF.length cap) D.tkF ∧ DevAt LN A w' b D.tkD ∧ But (Only b) w w' := by
  have H := hide h
  have OK := hide ok
  have hlt := h.lt
  by_cases hr : D.runs = true
  · have R : Hid (∀ W', DevAt LN A W' b D → Calls Try.prog 57 #[.pointer (some ⟨b, 0, none⟩)] W' fun e w' => e = .returned (.bool true) ∧ w' = W') := fun W' h' => by have := runs_any h'; rw [hr] at this; exact this
    obtain ⟨k, hk, hk16⟩ := toNat_of (ok.ring 4 (by omega) (by omega))
    have c4 := h.creg 4 (by omega)
    have c5 := h.creg 5 (by omega)
    rw [hk] at c4
    by_cases e : D.r 4 = D.r 5
    · have E : D.tkE = 7 := by unfold Dev.tkE; rw [if_pos hr, if_pos e]
      have E1 : D.tkF = [] := by unfold Dev.tkF; rw [if_neg (by rw [E]; omega)]
      have E2 : D.tkT = 0 := by unfold Dev.tkT; rw [if_neg (by rw [E]; omega)]
      have E3 : D.tkD = D := by unfold Dev.tkD; rw [if_neg (by rw [E]; omega)]
      rw [E, E1, E2, E3]
      have q : ((k : Int) == D.r 5) = true := beq_yes (by rw [← hk]; exact e)
      generalize D.r 5 = z at c5 q
      clear h ok hr E E1 E2 E3 hk e
      go_enter Try.func15, Try.ntmps15
      go_wp2_with fail
      refine (R.out _ (H.out.later ((Below.refl _ _).alloc (Nat.le_refl _) _))).mono ?_
      rintro e w1 ⟨rfl, rfl⟩
      go_wp2
      refine bodyPost_ret (v := .tuple #[.agg #[.slice none 0 0, .bool false, .int .i64 0], .int .i64 7]) (by simp [results, asAddr, go_sem]) rfl ?_
      exact ⟨_, _, rfl, Gro.nil _ _, H.out.later ((Below.refl _ _).alloc (Nat.le_refl _) _), (But.refl _ _).alloc _⟩
    · have E : D.tkE = 0 := by unfold Dev.tkE; rw [if_pos hr, if_neg e]
      have E1 : D.tkF = D.txf k := by unfold Dev.tkF; rw [if_pos E, hk, Int.toNat_natCast]
      have E2 : D.tkT = D.posted k := by unfold Dev.tkT; rw [if_pos E, hk, Int.toNat_natCast]
      have E3 : D.tkD = { D with r := upd (upd D.r 4 (nxt (D.r 4))) 6 (evor (D.r 6) 2) } := by unfold Dev.tkD; rw [if_pos E]
      rw [E, E1, E2, E3]
      have q : ((k : Int) == D.r 5) = false := beq_no (by rw [← hk]; exact e)
      generalize D.r 5 = z at c5 q
      have hki : (k : Int) < 16 := by omega
      clear h ok hr E E1 E2 E3 hk e
      go_enter Try.func15, Try.ntmps15
      go_wp2_with fail
      refine (R.out _ (H.out.later ((Below.refl _ _).alloc (Nat.le_refl _) _))).mono ?_
      rintro e w1 ⟨rfl, rfl⟩
      clear R
      go_wp2_with fail
      refine (goOn_tx ((H.out.avoid (A' := fun g => A g ∨ g = w.heap.size) (fun g hg e => e.elim id (fun e => by omega)) (.inl H.out.mem)).later ((Below.refl _ _).alloc (Nat.le_refl _) _)) OK.out).mono ?_
      rintro e w2 ⟨rfl, hd, hb⟩
      have hlt2 := hd.lt
      have t2 : Tri w2 w.heap.size := Tri.but (W := w.alloc (.cells #[.slice none 0 0, .bool false, .int .i64 0] 51)) ⟨⟨.slice none 0 0, by simp [go_sem]⟩, ⟨.bool false, by simp [go_sem]⟩, ⟨.int .i64 0, by simp [go_sem]⟩, by simp [go_sem], by simp [go_sem], by simp [go_sem]⟩ hb (by unfold Only; omega)
      obtain ⟨vf, g0, hf⟩ := hd.ctxf LN_ok k hk16
      obtain ⟨af, cf, rfl, _, _⟩ := hf.shape
      have g0 : w2.cell? ⟨b, 9 + k * 2, none⟩ = some (.slice af (D.txf k).length cf) := g0
      have g1 : w2.cell? ⟨b, 9 + k * 2 + 1, none⟩ = some (.int .i64 (D.posted k)) := hd.cposted LN_ok k hk16
      have hl : (D.txf k).length ≤ 140737488355328 := by have := OK.out.txf k hk16; omega
      have FV := hide hf.drew
      have HT := hide t2
      have B1 : Hid (But (Only b) w w2) := ((But.refl _ w).alloc _).trans hb
      obtain ⟨s, hs⟩ : ∃ s, s = w.heap.size := ⟨_, rfl⟩
      have hsz : w.heap.size + 1 ≤ w2.heap.size := by have := hb.size; simpa using this
      rw [← hs] at HT ⊢
      have KK : Hid (∀ W', Below w2.drew.heap.size w2.drew W' → W'.cell? ⟨b, 9 + k * 2, none⟩ = some (.slice af (D.txf k).length cf) ∧ W'.cell? ⟨b, 9 + k * 2 + 1, none⟩ = some (.int .i64 (D.posted k)) ∧ Tri W' s) := by
        intro W' hb'
        exact ⟨(hb'.cell (p := ⟨b, 9 + k * 2, none⟩) hlt2).trans g0, (hb'.cell (p := ⟨b, 9 + k * 2 + 1, none⟩) hlt2).trans g1, HT.out.but (K := fun _ => False) (But.of_below (undrew hb')) id⟩
      have HD := hide hd
      have HS := hide hs
      have HZ := hide hsz
      have hbs : b < s := by omega
      clear hd hb hf t2 c4 c5 q hs hsz
      generalize hbs' : D.txf k = bs at *
      generalize htk' : D.posted k = tk at *
      have HX := hide hbs'
      have HY := hide htk'
      clear hbs' htk'
      go_wp2
      go_region_with (refine (Clone_sl FV.out hl).mono ?_; rintro e w' ⟨a', cap', rfl, hG, hB⟩; obtain ⟨hu, hu2, ⟨⟨x0, y0⟩, ⟨x1, y1⟩, ⟨x2, y2⟩, z0, z1, z2⟩⟩ := KK.out _ hB; have HG := hide hG; have HBB := hide hB; clear hG hB)
      all_goals go_wp2
      all_goals refine bodyPost_ret (v := .tuple #[.agg #[.slice a' bs.length cap', .bool false, .int .i64 tk], .int .i64 0]) (by simp [results, asAddr, Act.put, go_sem, y0, y1, y2]) (by simp [Act.put]) ?_
      all_goals rw [HX.out, HY.out]
      all_goals refine ⟨_, _, rfl, (HG.out.but (K := Only s) ((((But.refl _ w').cellb _ _).cellb _ _).cellb _ _) (fun g e => ?_)).mono ?_, ((HD.out.later (undrew HBB.out)).but (K := Only s) ((((But.refl _ w').cellb _ _).cellb _ _).cellb _ _) (fun g e => .inr (e.trans HS.out)) (fun e => by unfold Only at e; omega)).avoid (A' := A) (fun g _ ha => .inl ha) H.out.mem,
        (((((B1.out.trans (But.of_below (undrew HBB.out))).setCell (p := ⟨s, 0, none⟩) (.inl (by have := HS.out; simp; omega)) _).setCell (p := ⟨s, 1, none⟩) (.inl (by have := HS.out; simp; omega)) _).setCell (p := ⟨s, 2, none⟩) (.inl (by have := HS.out; simp; omega)) _))⟩
      all_goals first
        | (have h1 := HS.out; have h2 := HZ.out; have h3 : g = s := e; show g < w2.heap.size; omega)
        | (have h2 := HZ.out; show w.heap.size ≤ w2.heap.size; omega)
  · have hr : D.runs = false := by simpa using hr
    have E : D.tkE = 20 := by unfold Dev.tkE; rw [if_neg (by rw [hr]; simp)]
    have E1 : D.tkF = [] := by unfold Dev.tkF; rw [if_neg (by rw [E]; omega)]
    have E2 : D.tkT = 0 := by unfold Dev.tkT; rw [if_neg (by rw [E]; omega)]
    have E3 : D.tkD = D := by unfold Dev.tkD; rw [if_neg (by rw [E]; omega)]
    rw [E, E1, E2, E3]
    have R : Hid (∀ W', DevAt LN A W' b D → Calls Try.prog 57 #[.pointer (some ⟨b, 0, none⟩)] W' fun e w' => e = .returned (.bool false) ∧ w' = W') := fun W' h' => by have := runs_any h'; rw [hr] at this; exact this
    clear h ok hr E E1 E2 E3
    go_enter Try.func15, Try.ntmps15
    go_wp2_with fail
    refine (R.out _ (H.out.later ((Below.refl _ _).alloc (Nat.le_refl _) _))).mono ?_
    rintro e w1 ⟨rfl, rfl⟩
    go_wp2
    refine bodyPost_ret (v := .tuple #[.agg #[.slice none 0 0, .bool false, .int .i64 0], .int .i64 20]) (by simp [results, asAddr, go_sem]) rfl ?_
    exact ⟨_, _, rfl, Gro.nil _ _, H.out.later ((Below.refl _ _).alloc (Nat.le_refl _) _), (But.refl _ _).alloc _⟩

end Go.Proofs.Ytjkfjijnjkpbbaa
