
/-
  The document's answer: contracts of SetRx, Rx, Take, Give.
-/
import Derived.Test.YtjkfjijnjkpbbaaNRef2
namespace Go.Proofs.Ytjkfjijnjkpbbaa
open Go.RowKit

set_option maxRecDepth 100000 in
set_option maxHeartbeats 2000000 in
theorem rSetRx_any {A : Nat → Prop} {b : Nat} {D : Dev} {w : World} (h : DevAt LR A w b D) (ok : D.Ok) (i room : Int) :
    Calls Try.prog 98 #[.pointer (some ⟨b, 0, none⟩), .int .i64 i, .int .i64 room] w fun e w' => e = .returned (.int .i64 (D.srE i room)) ∧ DevAt LR A w' b (D.srD i room) ∧ But (Only b) w w' := by
  have H := hide h
  have OK := hide ok
  have c2 := h.creg 2 (by omega)
  have c3 := h.creg 3 (by omega)
  by_cases hp : place i = true
  · obtain ⟨k, rfl, hk⟩ := place_nat hp
    have HP := hide hp
    have C := hide (devs h ok 2 3 (by omega) (by omega) (by omega) (by omega) k hk)
    have n0 : ¬ (k : Int) < 0 := by omega
    have n1 : ¬ (16 : Int) ≤ k := by omega
    clear hp h ok
    obtain ⟨x, hx⟩ : ∃ x, x = D.r 2 := ⟨_, rfl⟩
    obtain ⟨y, hy⟩ : ∃ y, y = D.r 3 := ⟨_, rfl⟩
    rw [← hx] at c2 C
    rw [← hy] at c3 C
    clear hx hy
    by_cases hr : room < 0 ∨ 65535 < room
    · have E : Hid (D.srE k room = 1) := by unfold Dev.srE; rw [if_pos (.inr hr)]; exact rfl
      have F : Hid (DevAt LR A w b (D.srD k room)) := by unfold Dev.srD; rw [if_neg (by rw [E.out]; omega)]; exact H.out
      clear C
      rcases hr with hr | hr
      · go_enter Try.func98, Try.ntmps98
        go_wp2
        go_ret
        exact ⟨by rw [E.out]; rfl, F.out, But.refl _ _⟩
      · have hr0 : ¬ room < 0 := by omega
        go_enter Try.func98, Try.ntmps98
        go_wp2
        go_ret
        exact ⟨by rw [E.out]; rfl, F.out, But.refl _ _⟩
    · have hr0 : ¬ room < 0 := by omega
      have hr1 : ¬ 65535 < room := by omega
      by_cases ho : D.owns 2 3 k = true
      · have E : Hid (D.srE k room = 1) := by unfold Dev.srE; rw [if_pos (.inl (by rw [HP.out, ho]; rfl))]; exact rfl
        rw [ho] at C
        clear hr
        go_enter Try.func98, Try.ntmps98
        go_wp2
        go_region_with (refine (C.out _).mono ?_; rintro e w' ⟨rfl, rfl⟩)
        all_goals go_wp2
        all_goals go_ret
        all_goals refine ⟨by rw [E.out]; rfl, ?_, (But.refl _ _).drew⟩
        all_goals unfold Dev.srD
        all_goals rw [if_neg (by rw [E.out]; omega)]
        all_goals exact H.out.drew
      · have ho : D.owns 2 3 k = false := by simpa using ho
        have E : Hid (D.srE k room = 0) := by unfold Dev.srE; rw [if_neg (by rw [HP.out, ho]; simp; omega)]; exact rfl
        rw [ho] at C
        have hd := H.out
        have g0 := hd.croom LR_ok k hk
        have g1 := hd.cheld LR_ok k hk
        obtain ⟨u, g2, _⟩ := hd.crxf LR_ok k hk
        have g3 := hd.cbad LR_ok k hk
        have f0 := hd.frozen (40 + k * 4)
        have f1 := hd.frozen (40 + k * 4 + 1)
        have f2 := hd.frozen (40 + k * 4 + 2)
        have f3 := hd.frozen (40 + k * 4 + 3)
        simp only [LR] at g0 g1 g2 g3
        have HD := hide hd
        clear hd hr
        have hki : (k : Int) < 16 := by omega
        go_enter Try.func98, Try.ntmps98
        go_wp2
        go_region_with (refine (C.out _).mono ?_; rintro e w' ⟨rfl, rfl⟩)
        all_goals go_wp2
        all_goals go_ret
        all_goals refine ⟨by rw [E.out]; rfl, ?_, ((((((But.refl _ w).cellb _ _).cellb _ _).cellb _ _).cellb _ _)).drew⟩
        all_goals unfold Dev.srD
        all_goals rw [if_pos E.out, Int.toNat_natCast]
        all_goals exact ((((HD.out.setRoom LR_ok k hk room).setHeld LR_ok k hk false).setRxf LR_ok k hk _ [] (IsF.nil _ _)).setBad LR_ok k hk false).drew
  · have hp : place i = false := by simpa using hp
    have E : Hid (D.srE i room = 1) := by unfold Dev.srE; rw [if_pos (.inl (by rw [hp]; rfl))]; exact rfl
    have hp2 : i < 0 ∨ 16 ≤ i := by simp [place] at hp; omega
    have F : Hid (DevAt LR A w b (D.srD i room)) := by unfold Dev.srD; rw [if_neg (by rw [E.out]; omega)]; exact h
    clear hp h ok
    rcases hp2 with hv | hv
    · go_enter Try.func98, Try.ntmps98
      go_wp2
      go_ret
      exact ⟨by rw [E.out]; rfl, F.out, But.refl _ _⟩
    · have n0 : ¬ i < 0 := by omega
      go_enter Try.func98, Try.ntmps98
      go_wp2
      go_ret
      exact ⟨by rw [E.out]; rfl, F.out, But.refl _ _⟩

set_option maxRecDepth 100000 in
set_option maxHeartbeats 2000000 in
theorem rRx_any {A : Nat → Prop} {b : Nat} {D : Dev} {w : World} (h : DevAt LR A w b D) (i : Int) :
    Calls Try.prog 96 #[.pointer (some ⟨b, 0, none⟩), .int .i64 i] w fun e w' => ∃ a cap, e = .returned (.tuple #[.slice a (D.rxF i).length cap, .bool (D.rxB i), .int .i64 (D.rxE i)]) ∧ IsF A w' (.slice a (D.rxF i).length cap) (D.rxF i) ∧ Below w.heap.size w w' := by
  have H := hide h
  by_cases hp : place i = true
  · obtain ⟨k, rfl, hk⟩ := place_nat hp
    have n0 : ¬ (k : Int) < 0 := by omega
    have n1 : ¬ (16 : Int) ≤ k := by omega
    have g1 : w.cell? ⟨b, 40 + k * 4 + 1, none⟩ = some (.bool (D.held k)) := H.out.cheld LR_ok k hk
    have hki : (k : Int) < 16 := by omega
    by_cases hh : D.held k = true
    · have E : D.rxE k = 0 := by unfold Dev.rxE; rw [if_pos hp, Int.toNat_natCast, if_pos hh]
      have E2 : D.rxF k = D.rxf k := by unfold Dev.rxF; rw [if_pos E, Int.toNat_natCast]
      have E3 : D.rxB k = D.bad k := by unfold Dev.rxB; rw [if_pos E, Int.toNat_natCast]
      rw [E, E2, E3]
      rw [hh] at g1
      obtain ⟨vf, g2, hf⟩ := H.out.crxf LR_ok k hk
      obtain ⟨af, cf, rfl, _, _⟩ := hf.shape
      have g2 : w.cell? ⟨b, 40 + k * 4 + 2, none⟩ = some (.slice af (D.rxf k).length cf) := g2
      have g3 : w.cell? ⟨b, 40 + k * 4 + 3, none⟩ = some (.bool (D.bad k)) := H.out.cbad LR_ok k hk
      have FV := hide hf.drew
      generalize D.rxf k = bs at *
      generalize D.bad k = x at *
      clear hp E E2 E3 hh hf h H
      go_enter Try.func96, Try.ntmps96
      go_wp2
      go_region
      go_wp2
      go_ret3
      exact ⟨_, _, rfl, FV.out, (Below.refl _ _).drew⟩
    · have hh : D.held k = false := by simpa using hh
      have E : D.rxE k = 7 := by unfold Dev.rxE; rw [if_pos hp, Int.toNat_natCast, if_neg (by rw [hh]; simp)]
      have E2 : D.rxF k = [] := by unfold Dev.rxF; rw [if_neg (by rw [E]; omega)]
      have E3 : D.rxB k = false := by unfold Dev.rxB; rw [if_neg (by rw [E]; omega)]
      rw [E, E2, E3]
      rw [hh] at g1
      clear hp E E2 E3 hh h
      go_enter Try.func96, Try.ntmps96
      go_wp2
      go_ret3
      exact ⟨_, _, rfl, IsF.nil _ _, Below.refl _ _⟩
  · have hp : place i = false := by simpa using hp
    have E : D.rxE i = 1 := by unfold Dev.rxE; rw [if_neg (by rw [hp]; simp)]
    have E2 : D.rxF i = [] := by unfold Dev.rxF; rw [if_neg (by rw [E]; omega)]
    have E3 : D.rxB i = false := by unfold Dev.rxB; rw [if_neg (by rw [E]; omega)]
    rw [E, E2, E3]
    have hp2 : i < 0 ∨ 16 ≤ i := by simp [place] at hp; omega
    clear hp E E2 E3 h
    rcases hp2 with hv | hv
    · go_enter Try.func96, Try.ntmps96
      go_wp2
      go_ret3
      exact ⟨_, _, rfl, IsF.nil _ _, Below.refl _ _⟩
    · have n0 : ¬ i < 0 := by omega
      go_enter Try.func96, Try.ntmps96
      go_wp2
      go_ret3
      exact ⟨_, _, rfl, IsF.nil _ _, Below.refl _ _⟩

set_option maxRecDepth 100000 in
set_option maxHeartbeats 2000000 in
theorem rTake_any {A : Nat → Prop} {b : Nat} {D : Dev} {w : World} (h : DevAt LR A w b D) (ok : D.Ok) :
    Calls Try.prog 39 #[.pointer (some ⟨b, 0, none⟩)] w fun e w' => ∃ a cap, e = .returned (.tuple #[.agg #[.slice a D.tkF.length cap, .bool false, .int .i64 D.tkT], .int .i64 D.tkE]) ∧ IsF A w' (.slice a D.tkF.length cap) D.tkF ∧ DevAt LR A w' b D.tkD ∧ But (Only b) w w' := by
  have H := hide h
  have OK := hide ok
  have hlt := h.lt
  have R : Hid (∀ W', DevAt LR A W' b D → Calls Try.prog 77 #[.pointer (some ⟨b, 0, none⟩)] W' fun e w' => e = .returned (.bool (!D.runs)) ∧ w' = W') := fun W' h' => roff_any h'
  by_cases hr : D.runs = true
  · rw [hr, Bool.not_true] at R
    obtain ⟨k, hk, hk16⟩ := toNat_of (ok.ring 4 (by omega) (by omega))
    have c4 := h.creg 4 (by omega)
    have f4 := h.frozen 4
    have c5 := h.creg 5 (by omega)
    rw [hk] at c4
    by_cases e : D.r 4 = D.r 5
    · have E : D.tkE = 7 := by unfold Dev.tkE; rw [if_pos hr, if_pos e]
      have E1 : D.tkF = [] := by unfold Dev.tkF; rw [if_neg (by rw [E]; omega)]
      have E2 : D.tkT = 0 := by unfold Dev.tkT; rw [if_neg (by rw [E]; omega)]
      have E3 : D.tkD = D := by unfold Dev.tkD; rw [if_neg (by rw [E]; omega)]
      rw [E, E1, E2, E3]
      have q : ((k : Int) == D.r 5) = true := beq_yes (by rw [← hk]; exact e)
      generalize D.r 5 = z at c5 q
      clear h ok hr E E1 E2 E3 hk e
      go_enter Try.func39, Try.ntmps39
      go_wp2_with fail
      refine (R.out _ (H.out.later ((Below.refl _ _).alloc (Nat.le_refl _) _))).mono ?_
      rintro e w1 ⟨rfl, rfl⟩
      go_wp2
      refine bodyPost_ret (v := .tuple #[.agg #[.slice none 0 0, .bool false, .int .i64 0], .int .i64 7]) (by simp [results, asAddr, go_sem]) rfl ?_
      exact ⟨_, _, rfl, IsF.nil _ _, H.out.later ((Below.refl _ _).alloc (Nat.le_refl _) _), (But.refl _ _).alloc _⟩
    · have E : D.tkE = 0 := by unfold Dev.tkE; rw [if_pos hr, if_neg e]
      have E1 : D.tkF = D.txf k := by unfold Dev.tkF; rw [if_pos E, hk, Int.toNat_natCast]
      have E2 : D.tkT = D.posted k := by unfold Dev.tkT; rw [if_pos E, hk, Int.toNat_natCast]
      have E3 : D.tkD = { D with r := upd (upd D.r 4 (nxt (k : Int))) 6 (evor (D.r 6) 2) } := by unfold Dev.tkD; rw [if_pos E, hk]
      rw [E, E1, E2, E3]
      have q : ((k : Int) == D.r 5) = false := beq_no (by rw [← hk]; exact e)
      generalize D.r 5 = z at c5 q
      have hki : (k : Int) < 16 := by omega
      have HA0 : Hid (∀ o, DevAt LR (fun g => A g ∨ g = w.heap.size) ((w.setCell ⟨b, 4, none⟩ (.int .i64 (((k : Int) + 1) % 16))).alloc o) b { D with r := upd D.r 4 (nxt (k : Int)) }) := fun o => (((h.avoid (A' := fun g => A g ∨ g = w.heap.size) (fun g hg e => e.elim id (fun e => by omega)) (.inl h.mem)).setReg LR_ok 4 (by omega) _)).later ((Below.refl _ _).alloc (Nat.le_refl _) o)
      clear h ok hr E E1 E2 E3 hk e
      go_enter Try.func39, Try.ntmps39
      go_wp2_with fail
      refine (R.out _ (H.out.later ((Below.refl _ _).alloc (Nat.le_refl _) _))).mono ?_
      rintro e w1 ⟨rfl, rfl⟩
      clear R
      go_wp2_with fail
      refine (revent_any (HA0.out _) OK.out.ev 2 (by omega)).mono ?_
      rintro e w2 ⟨rfl, hd, hb⟩
      have hlt2 := hd.lt
      have t2 : Tri w2 w.heap.size := by
        have hsz : (w.setCell ⟨b, 4, none⟩ (.int .i64 (((k : Int) + 1) % 16))).heap.size = w.heap.size := by simp
        have t1 := Tri.but (s := (w.setCell ⟨b, 4, none⟩ (.int .i64 (((k : Int) + 1) % 16))).heap.size) ⟨⟨.slice none 0 0, by simp [go_sem]⟩, ⟨.bool false, by simp [go_sem]⟩, ⟨.int .i64 0, by simp [go_sem]⟩, by simp [go_sem], by simp [go_sem], by simp [go_sem]⟩ hb (by rw [hsz]; unfold Only; omega)
        rw [hsz] at t1
        exact t1
      obtain ⟨vf, g0, hf⟩ := hd.ctxf LR_ok k hk16
      obtain ⟨af, cf, rfl, _, _⟩ := hf.shape
      have g0 : w2.cell? ⟨b, 8 + k * 2, none⟩ = some (.slice af (D.txf k).length cf) := g0
      have g1 : w2.cell? ⟨b, 8 + k * 2 + 1, none⟩ = some (.int .i64 (D.posted k)) := hd.cposted LR_ok k hk16
      have FV := hide hf
      obtain ⟨⟨x0, y0⟩, ⟨x1, y1⟩, ⟨x2, y2⟩, z0, z1, z2⟩ := t2
      have B1 : Hid (But (Only b) w w2) := (((But.refl _ w).cellb _ _).alloc _).trans hb
      obtain ⟨s, hs⟩ : ∃ s, s = w.heap.size := ⟨_, rfl⟩
      rw [← hs] at y0 y1 y2 z0 z1 z2 ⊢
      have HD := hide hd
      have HS := hide hs
      have hbs : b < s := by omega
      clear hd hb hf c4 c5 q hs HA0
      generalize hbs' : D.txf k = bs at *
      generalize htk' : D.posted k = tk at *
      have HX := hide hbs'
      have HY := hide htk'
      clear hbs' htk'
      go_wp2
      go_region
      all_goals go_wp2
      all_goals refine bodyPost_ret (v := .tuple #[.agg #[.slice af bs.length cf, .bool false, .int .i64 tk], .int .i64 0]) (by simp [results, asAddr, go_sem, y0, y1, y2]) rfl ?_
      all_goals rw [HX.out, HY.out]
      all_goals refine ⟨_, _, rfl, ((FV.out.but (K := Only s) (((((But.refl _ w2).cellb _ _).cellb _ _).cellb _ _).drew) (fun g e => .inr (e.trans HS.out))).avoid (A' := A) (fun g _ ha => .inl ha)), (HD.out.but (K := Only s) (((((But.refl _ w2).cellb _ _).cellb _ _).cellb _ _).drew) (fun g e => .inr (e.trans HS.out)) (fun e => by unfold Only at e; omega)).avoid (A' := A) (fun g _ ha => .inl ha) H.out.mem,
        ((((B1.out.setCell (p := ⟨s, 0, none⟩) (.inl (by have := HS.out; simp; omega)) _).setCell (p := ⟨s, 1, none⟩) (.inl (by have := HS.out; simp; omega)) _).setCell (p := ⟨s, 2, none⟩) (.inl (by have := HS.out; simp; omega)) _)).drew⟩
  · have hr : D.runs = false := by simpa using hr
    rw [hr, Bool.not_false] at R
    have E : D.tkE = 20 := by unfold Dev.tkE; rw [if_neg (by rw [hr]; simp)]
    have E1 : D.tkF = [] := by unfold Dev.tkF; rw [if_neg (by rw [E]; omega)]
    have E2 : D.tkT = 0 := by unfold Dev.tkT; rw [if_neg (by rw [E]; omega)]
    have E3 : D.tkD = D := by unfold Dev.tkD; rw [if_neg (by rw [E]; omega)]
    rw [E, E1, E2, E3]
    clear h ok hr E E1 E2 E3
    go_enter Try.func39, Try.ntmps39
    go_wp2_with fail
    refine (R.out _ (H.out.later ((Below.refl _ _).alloc (Nat.le_refl _) _))).mono ?_
    rintro e w1 ⟨rfl, rfl⟩
    go_wp2
    refine bodyPost_ret (v := .tuple #[.agg #[.slice none 0 0, .bool false, .int .i64 0], .int .i64 20]) (by simp [results, asAddr, go_sem]) rfl ?_
    exact ⟨_, _, rfl, IsF.nil _ _, H.out.later ((Below.refl _ _).alloc (Nat.le_refl _) _), (But.refl _ _).alloc _⟩

set_option maxRecDepth 100000 in
set_option maxHeartbeats 2000000 in
theorem rGive_any {A A' : Nat → Prop} {b : Nat} {D : Dev} {w : World} (h : DevAt LR A w b D) (ok : D.Ok) (hA : ∀ g, A g → g < w.heap.size) (v : Value) (bs : List Int) (x : Bool) (hv : IsF A' w v bs) (hl : bs.length ≤ 140737488355328) :
    Calls Try.prog 40 #[.pointer (some ⟨b, 0, none⟩), v, .bool x] w fun e w' => e = .returned (.int .i64 (D.gvE bs)) ∧ DevAt LR A w' b (D.gvD bs x) ∧ But (Only b) w w' := by
  obtain ⟨a, cap, rfl, _, _⟩ := hv.shape
  have H := hide h
  have HV := hide hv
  have HA := hide hA
  have OK := hide ok
  have R := hide (roff_any h)
  clear hv hA
  by_cases hr : D.runs = true
  · rw [hr, Bool.not_true] at R
    obtain ⟨k, hk, hk16⟩ := toNat_of (ok.ring 2 (by omega) (by omega))
    have c2 := h.creg 2 (by omega)
    have c3 := h.creg 3 (by omega)
    rw [hk] at c2
    by_cases e : D.r 2 = D.r 3
    · have q : ((k : Int) == D.r 3) = true := beq_yes (by rw [← hk]; exact e)
      have E : Hid (D.gvE bs = 21) := by unfold Dev.gvE; rw [if_pos hr, if_pos e]; exact rfl
      have c7 := h.creg 7 (by omega)
      have f7 := h.frozen 7
      generalize D.r 3 = z at c3 q
      have E2 : Hid (D.gvD bs x = D.miss) := by unfold Dev.gvD; rw [if_neg (by rw [E.out]; omega), if_neg (by rw [E.out]; omega)]; exact rfl
      clear h ok hk hr e
      go_enter Try.func40, Try.ntmps40
      go_wp2_with fail
      refine (unhide R).mono ?_
      rintro e w1 ⟨rfl, rfl⟩
      clear R
      go_wp2
      go_region
      go_wp2
      go_ret
      refine ⟨by rw [E.out]; rfl, ?_, ((But.refl _ _).cellb _ _).drew⟩
      rw [E2.out]
      exact (H.out.setReg LR_ok 7 (by omega) _).drew
    · have q : ((k : Int) == D.r 3) = false := beq_no (by rw [← hk]; exact e)
      have EE := hide e
      generalize D.r 3 = z at c3 q e
      have cr : w.cell? ⟨b, 40 + k * 4, none⟩ = some (.int .i64 (D.room k)) := h.croom LR_ok k hk16
      have hki : (k : Int) < 16 := by omega
      by_cases hrm : D.room k < bs.length
      · have E : Hid (D.gvE bs = 2) := by unfold Dev.gvE; rw [if_pos hr, if_neg EE.out, if_pos (by rw [hk, Int.toNat_natCast]; exact hrm)]; exact rfl
        have E2 : Hid (D.gvD bs x = D.miss) := by unfold Dev.gvD; rw [if_neg (by rw [E.out]; omega), if_neg (by rw [E.out]; omega)]; exact rfl
        have c7 := h.creg 7 (by omega)
        have f7 := h.frozen 7
        generalize D.room k = rm at cr hrm
        clear h ok hk hr e
        go_enter Try.func40, Try.ntmps40
        go_wp2_with fail
        refine (unhide R).mono ?_
        rintro e w1 ⟨rfl, rfl⟩
        clear R
        go_wp2
        go_region
        go_wp2
        go_ret
        refine ⟨by rw [E.out]; rfl, ?_, ((But.refl _ _).cellb _ _).drew⟩
        rw [E2.out]
        exact (H.out.setReg LR_ok 7 (by omega) _).drew
      · have E : Hid (D.gvE bs = 0) := by unfold Dev.gvE; rw [if_pos hr, if_neg EE.out, if_neg (by rw [hk, Int.toNat_natCast]; exact hrm)]; exact rfl
        have E2 : Hid (D.gvD bs x = D.fill bs x) := by unfold Dev.gvD; rw [if_neg (by rw [E.out]; omega), if_pos E.out]; exact rfl
        have HK := hide hk
        have K : Hid (∀ W', Below w.drew.heap.size w.drew W' → W'.cell? ⟨b, 40 + k * 4, none⟩ = some (.int .i64 (D.room k)) ∧ W'.cell? ⟨b, 40 + k * 4 + 1, none⟩ = some (.bool (D.held k)) ∧ (∃ u, W'.cell? ⟨b, 40 + k * 4 + 2, none⟩ = some u) ∧ W'.cell? ⟨b, 40 + k * 4 + 3, none⟩ = some (.bool (D.bad k)) ∧ (∀ i, W'.frozen? ⟨b, i, none⟩ = false) ∧ W'.cell? ⟨b, 2, none⟩ = some (.int .i64 (k : Int)) ∧ DevAt LR A W' b D) := by
          intro W' hb
          have d3 := H.out.drew.later hb
          obtain ⟨u, hu, _⟩ := d3.crxf LR_ok k hk16
          have c2' := d3.creg 2 (by omega)
          rw [HK.out] at c2'
          exact ⟨d3.croom LR_ok k hk16, d3.cheld LR_ok k hk16, ⟨u, hu⟩, d3.cbad LR_ok k hk16, d3.frozen, c2', d3⟩
        have FV := hide HV.out.drew
        have HRM : Hid (D.room k = D.room k) := rfl
        obtain ⟨rm, hrm'⟩ : ∃ rm, rm = D.room k := ⟨_, rfl⟩
        rw [← hrm'] at cr hrm K
        have HR := hide hrm'
        clear h ok hk hr e hrm' HRM
        go_enter Try.func40, Try.ntmps40
        go_wp2_with fail
        refine (unhide R).mono ?_
        rintro e w1 ⟨rfl, rfl⟩
        clear R
        go_wp2
        go_region_law (refine step_grow rfl _ rfl rfl _ bs (by simp [Act.eval, Act.put]) FV.out hl ?_; intro a' cap' w' hG hB; obtain ⟨k0, k1, ⟨u, k2⟩, k3, kf, kc, hd⟩ := K.out _ hB; have HD := hide hd; have HG := hide hG; have HBB := hide hB; clear hd hG hB)
        all_goals go_wp2_with fail
        all_goals refine (revent_any (((((HD.out.setRoom LR_ok k hk16 rm).setHeld LR_ok k hk16 true).setRxf LR_ok k hk16 _ bs ((HG.out.isF (fun g hg ha => by have h1 := HA.out g ha; have h3 : w1.heap.size ≤ g := hg; omega)).but (K := Only b) (((But.refl _ _).cellb _ _).cellb _ _) (fun g e => e ▸ H.out.mem))).setBad LR_ok k hk16 x).setReg LR_ok 2 (by omega) (((k : Int) + 1) % 16)) OK.out.ev 1 (by omega)).mono ?_
        all_goals rintro e w3 ⟨rfl, d3, b3⟩
        all_goals have D3 := hide d3
        all_goals have B3 := hide b3
        all_goals clear d3 b3
        all_goals go_wp2
        all_goals go_ret
        all_goals refine ⟨by rw [E.out]; rfl, ?_, ((((((But.of_below (undrew HBB.out)).cellb _ _).cellb _ _).cellb _ _).cellb _ _).cellb _ _).trans B3.out⟩
        all_goals have d4 := D3.out
        all_goals simp only [HR.out, upd_self] at d4
        all_goals rw [E2.out]
        all_goals unfold Dev.fill
        all_goals rw [HK.out, Int.toNat_natCast]
        all_goals exact d4
  · have hr : D.runs = false := by simpa using hr
    rw [hr, Bool.not_false] at R
    have E : Hid (D.gvE bs = 20) := by unfold Dev.gvE; rw [if_neg (by rw [hr]; simp)]; exact rfl
    clear h ok hr
    go_enter Try.func40, Try.ntmps40
    go_wp2_with fail
    refine (unhide R).mono ?_
    rintro e w1 ⟨rfl, rfl⟩
    clear R
    go_wp2
    go_ret
    refine ⟨by rw [E.out]; rfl, ?_, But.refl _ _⟩
    unfold Dev.gvD
    rw [if_pos E.out]
    exact H.out

end Go.Proofs.Ytjkfjijnjkpbbaa
