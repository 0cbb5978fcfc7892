
/-
  The document's answer: contracts of Write, SetTx, SetRx, Rx.
-/
import Derived.Test.YtjkfjijnjkpbbaaNRef1
namespace Go.Proofs.Ytjkfjijnjkpbbaa
open Go.RowKit

theorem upd_self {α : Type} (f : Nat → α) (k : Nat) : upd f k (f k) = f := by
  funext i; simp only [upd]; split
  · rename_i e; rw [e]
  · rfl

set_option maxRecDepth 100000 in
set_option maxHeartbeats 2000000 in
theorem rWrite_any {A : Nat → Prop} {b : Nat} {D : Dev} {w : World} (h : DevAt LR A w b D) (ok : D.Ok) (reg v : Int) :
    Calls Try.prog 73 #[.pointer (some ⟨b, 0, none⟩), .int .i64 reg, .int .i64 v] w fun e w' => e = .returned (.int .i64 (wrE reg v)) ∧ DevAt LR A w' b (D.wrD reg v) ∧ But (Only b) w w' := by
  have H := hide h
  have OK := hide ok
  have f0 := h.frozen 0
  have f3 := h.frozen 3
  have c0 := h.creg 0 (by omega)
  have c3 := h.creg 3 (by omega)
  clear h ok
  by_cases r0 : reg = 0
  · subst r0
    by_cases v2 : v = 2
    · subst v2
      have E : Hid (wrE 0 2 = 0) := by show _ = _; decide
      have E2 : Hid (D.wrD 0 2 = D.reset) := by show _ = _; unfold Dev.wrD; rw [if_pos ⟨rfl, rfl⟩]
      clear f0 f3 c0 c3
      go_enter Try.func73, Try.ntmps73
      go_wp2_with fail
      refine (rNew_any w).mono ?_
      rintro e w1 ⟨rfl, hN, hb1, hs1⟩
      have n1 := hN (fun _ => True) trivial
      have h1 := H.out.but (K := fun _ => False) (But.of_below hb1) (fun _ e => e.elim) id
      have hne := H.out.lt
      obtain ⟨g, hg⟩ : ∃ g, g = w.heap.size := ⟨_, rfl⟩
      rw [← hg] at n1 ⊢
      have hbg : b < g := by omega
      have c1 := h1.creg 1 (by omega)
      have c8 : w1.cell? ⟨b, 104, none⟩ = some (.int .i64 D.clock) := h1.cclock LR_ok
      have e1 := n1.creg 1 (by omega)
      have e8 : w1.cell? ⟨g, 104, none⟩ = some (.int .i64 Dev.new.clock) := n1.cclock LR_ok
      have f1 := n1.frozen 1
      have f8 := n1.frozen 104
      have HN := hide n1
      have H1 := hide h1
      have HB := hide hb1
      have HG := hide hg
      clear n1 h1 hN hb1 hs1 hg hne
      obtain ⟨x, hx⟩ : ∃ x, x = D.r 1 := ⟨_, rfl⟩
      obtain ⟨y, hy⟩ : ∃ y, y = D.clock := ⟨_, rfl⟩
      rw [← hx] at c1
      rw [← hy] at c8
      have HX := hide hx
      have HY := hide hy
      clear hx hy
      go_wp2
      go_region
      go_upto_region 5 with fail
      have d2 : DevAt LR (fun _ => True) (((w1.setCell ⟨g, 104, none⟩ (.int .i64 y)).setCell ⟨g, 1, none⟩ (.int .i64 x)).drew) g { Dev.new with clock := y, r := upd Dev.new.r 1 x } := ((HN.out.setClock LR_ok y).setReg LR_ok 1 (by omega) x).drew
      have b2 : But (Only g) w1 (((w1.setCell ⟨g, 104, none⟩ (.int .i64 y)).setCell ⟨g, 1, none⟩ (.int .i64 x)).drew) := (((But.refl _ _).cellb _ _).cellb _ _).drew
      generalize ((w1.setCell ⟨g, 104, none⟩ (.int .i64 y)).setCell ⟨g, 1, none⟩ (.int .i64 x)).drew = W2 at *
      obtain ⟨_, U, hU, rU⟩ := d2
      obtain ⟨ha, V, hV0, _⟩ := H1.out
      have hV := hV0.but b2 (show ¬ b = g by omega)
      clear hV0
      have HU := hide hU
      have HV := hide hV
      have HR := hide rU
      clear hU rU hV
      go_wp2_with (first | (refine wpList_load_blk rfl _ _ rfl aggR sizR g rfl U HU.out ?_) | (refine wpList_store_blk rfl _ _ _ rfl sizR b g rfl U V rfl HV.out HU.out ?_))
      intro W' hB3 hb3
      go_wp2
      go_ret
      refine ⟨by rw [E.out]; rfl, ?_, ?_⟩
      · rw [E2.out, reset_eq, ← HX.out, ← HY.out]
        exact ⟨ha, U, hB3, (HR.out.avoid (A' := A) (fun _ _ _ => trivial)).but hb3 (fun g e => e ▸ ha)⟩
      · exact ((But.of_below HB.out).trans' b2 (fun k hk e => by have := HG.out; unfold Only at e; omega)).trans hb3
    · by_cases v01 : v = 0 ∨ v = 1
      · have E : Hid (wrE 0 v = 0) := by unfold wrE; rw [if_pos (.inl ⟨rfl, by omega⟩)]; exact rfl
        have E2 : Hid (D.wrD 0 v = { D with r := upd D.r 0 v }) := by unfold Dev.wrD; rw [if_neg (by omega), if_pos ⟨rfl, v01⟩]; exact rfl
        rcases v01 with rfl | rfl
        · go_enter Try.func73, Try.ntmps73
          go_wp2
          go_ret
          exact ⟨by rw [E.out]; rfl, by rw [E2.out]; exact H.out.setReg LR_ok 0 (by omega) _, (But.refl _ _).cellb _ _⟩
        · go_enter Try.func73, Try.ntmps73
          go_wp2
          go_ret
          exact ⟨by rw [E.out]; rfl, by rw [E2.out]; exact H.out.setReg LR_ok 0 (by omega) _, (But.refl _ _).cellb _ _⟩
      · have E : Hid (wrE 0 v = 1) := by unfold wrE; rw [if_neg (by omega)]; exact rfl
        have E2 : Hid (D.wrD 0 v = D) := by unfold Dev.wrD; rw [if_neg (by omega), if_neg (by omega), if_neg (by omega), if_neg (by omega)]; exact rfl
        have q0 : (v == 0) = false := by rw [beq_eq_false_iff_ne]; omega
        have q1 : (v == 1) = false := by rw [beq_eq_false_iff_ne]; omega
        have q2 : (v == 2) = false := by rw [beq_eq_false_iff_ne]; omega
        clear v2 v01 f0 f3 c0 c3
        go_enter Try.func73, Try.ntmps73
        go_wp2
        go_ret
        exact ⟨by rw [E.out]; rfl, by rw [E2.out]; exact H.out, But.refl _ _⟩
  · have q0 : (reg == 0) = false := by rw [beq_eq_false_iff_ne]; omega
    by_cases r3 : reg = 3
    · subst r3
      by_cases hp : place v = true
      · have E : Hid (wrE 3 v = 0) := by unfold wrE; rw [if_pos (.inr ⟨.inl rfl, hp⟩)]; exact rfl
        have E2 : Hid (D.wrD 3 v = { D with r := upd D.r 3 v }) := by unfold Dev.wrD; rw [if_neg (by omega), if_neg (by omega), if_pos ⟨rfl, hp⟩]; exact rfl
        have hp2 : 0 ≤ v ∧ v ≤ 15 := by simpa [place] using hp
        obtain ⟨p0, p1⟩ := hp2
        have n0 : ¬ v < 0 := by omega
        have n1 : ¬ 16 ≤ v := by omega
        clear hp
        go_enter Try.func73, Try.ntmps73
        go_wp2
        go_ret
        exact ⟨by rw [E.out]; rfl, by rw [E2.out]; exact H.out.setReg LR_ok 3 (by omega) _, (But.refl _ _).cellb _ _⟩
      · have hp : place v = false := by simpa using hp
        have E : Hid (wrE 3 v = 1) := by unfold wrE; rw [if_neg (by simp [hp])]; exact rfl
        have E2 : Hid (D.wrD 3 v = D) := by unfold Dev.wrD; rw [if_neg (by omega), if_neg (by omega), if_neg (by simp [hp]), if_neg (by omega)]; exact rfl
        have hp2 : v < 0 ∨ 16 ≤ v := by simp [place] at hp; omega
        clear hp
        rcases hp2 with hv | hv
        · go_enter Try.func73, Try.ntmps73
          go_wp2
          go_ret
          exact ⟨by rw [E.out]; rfl, by rw [E2.out]; exact H.out, But.refl _ _⟩
        · have n0 : ¬ v < 0 := by omega
          go_enter Try.func73, Try.ntmps73
          go_wp2
          go_ret
          exact ⟨by rw [E.out]; rfl, by rw [E2.out]; exact H.out, But.refl _ _⟩
    · have q3 : (reg != 3) = true := by simp; omega
      clear f0 f3 c0 c3
      by_cases r5 : reg = 5
      · subst r5
        by_cases hp : place v = true
        · have E : Hid (wrE 5 v = 0) := by unfold wrE; rw [if_pos (.inr ⟨.inr rfl, hp⟩)]; exact rfl
          have E2 : Hid (D.wrD 5 v = D.post v) := by unfold Dev.wrD; rw [if_neg (by omega), if_neg (by omega), if_neg (by omega), if_pos ⟨rfl, hp⟩]; exact rfl
          obtain ⟨t, rfl, ht⟩ := place_nat hp
          obtain ⟨hd, e5, hh⟩ := toNat_of (OK.out.ring 5 (by omega) (by omega))
          have c5 := H.out.creg 5 (by omega)
          rw [e5] at c5
          have n0 : ¬ (t : Int) < 0 := by omega
          have n1 : ¬ (16 : Int) ≤ t := by omega
          have E5 := hide e5
          clear hp e5
          go_enter Try.func73, Try.ntmps73
          go_wp2
          go_loopw [8] (fun va wr => ∃ (a j : Nat), va = .int .i64 (a : Int) ∧ a < 16 ∧ j ≤ span hd t ∧ a = (hd + j) % 16 ∧ DevAt LR A wr b (D.posts (ringN hd j)) ∧ But (Only b) w wr) (fun va _ => span (intOf va).toNat t)
          case atStart => exact ⟨hd, 0, rfl, hh, Nat.zero_le _, by omega, by rw [show ringN hd 0 = [] from rfl, posts_nil]; exact H.out, But.refl _ _⟩
          case round =>
            obtain ⟨a, j, rfl, ha, hj, hat, hdv, hB⟩ := hrel
            have HAT := hide hat
            have HJ := hide hj
            have HD := hide hdv
            have HB := hide hB
            by_cases e : a = t
            · have q : ((a : Int) != (t : Int)) = false := by simp [e]
              have E9 := hide e
              have c5' := hdv.creg 5 (by omega)
              have f5' := hdv.frozen 5
              clear e hat hj hdv hB
              go_wp2
              go_ret
              refine ⟨by rw [E.out]; rfl, ?_, HB.out.cellb _ _⟩
              rw [E2.out]
              refine posts_post hd t hh E5.out ?_
              have hjn : j = span hd t := by have h1 := HAT.out; have h2 := HJ.out; have h3 := E9.out; unfold span at *; omega
              have := HD.out.setReg LR_ok 5 (by omega) (t : Int)
              rw [hjn] at this
              exact this
            · have q : ((a : Int) != (t : Int)) = true := by simp; omega
              have E9 := hide e
              have c8 : wr.cell? ⟨b, 104, none⟩ = some (.int .i64 D.clock) := hdv.cclock LR_ok
              have cp : wr.cell? ⟨b, 8 + a * 2 + 1, none⟩ = some (.int .i64 ((D.posts (ringN hd j)).posted a)) := hdv.cposted LR_ok a ha
              have fp := hdv.frozen (8 + a * 2 + 1)
              have hki : (a : Int) < 16 := by omega
              obtain ⟨y, hy⟩ : ∃ y, y = D.clock := ⟨_, rfl⟩
              obtain ⟨z, hz⟩ : ∃ z, z = (D.posts (ringN hd j)).posted a := ⟨_, rfl⟩
              rw [← hy] at c8
              rw [← hz] at cp
              have HY := hide hy
              clear e hat hj hdv hB hy hz
              go_wp2
              go_region
              go_wp2
              go_roundw
              case rel =>
                refine ⟨(a + 1) % 16, j + 1, by go_num, by omega, spot_ne hh ht HJ.out (by have := HAT.out; have := E9.out; omega), by have := HAT.out; omega, ?_, (HB.out.cellb _ _).drew⟩
                have hsp : spot hd j = ⟨a, ha⟩ := by apply Fin.ext; have := HAT.out; simp only [spot]; omega
                rw [ringN_succ, hsp, posts_snoc, ← HY.out]
                exact (HD.out.setPosted LR_ok a ha y).drew
              case measure =>
                have := E9.out
                simp [intOf]
                unfold span; omega
        · have hp : place v = false := by simpa using hp
          have E : Hid (wrE 5 v = 1) := by unfold wrE; rw [if_neg (by simp [hp])]; exact rfl
          have E2 : Hid (D.wrD 5 v = D) := by unfold Dev.wrD; rw [if_neg (by omega), if_neg (by omega), if_neg (by omega), if_neg (by simp [hp])]; exact rfl
          have hp2 : v < 0 ∨ 16 ≤ v := by simp [place] at hp; omega
          clear hp
          rcases hp2 with hv | hv
          · go_enter Try.func73, Try.ntmps73
            go_wp2
            go_ret
            exact ⟨by rw [E.out]; rfl, by rw [E2.out]; exact H.out, But.refl _ _⟩
          · have n0 : ¬ v < 0 := by omega
            go_enter Try.func73, Try.ntmps73
            go_wp2
            go_ret
            exact ⟨by rw [E.out]; rfl, by rw [E2.out]; exact H.out, But.refl _ _⟩
      · have q5 : (reg != 5) = true := by simp; omega
        have E : Hid (wrE reg v = 1) := by unfold wrE; rw [if_neg (by simp [r0, r3, r5])]; exact rfl
        have E2 : Hid (D.wrD reg v = D) := by unfold Dev.wrD; rw [if_neg (by omega), if_neg (by omega), if_neg (by omega), if_neg (by omega)]; exact rfl
        clear r0 r3 r5
        go_enter Try.func73, Try.ntmps73
        go_wp2
        go_ret
        exact ⟨by rw [E.out]; rfl, by rw [E2.out]; exact H.out, But.refl _ _⟩

theorem devs {A : Nat → Prop} {b : Nat} {D : Dev} {w : World} (_ : DevAt LR A w b D) (ok : D.Ok) (k1 k2 : Nat) (h1 : 2 ≤ k1) (h2 : k1 ≤ 5) (h3 : 2 ≤ k2) (h4 : k2 ≤ 5) (i : Nat) (hi : i < 16) (w' : World) :
    Calls Try.prog 93 #[.int .i64 (i : Int), .int .i64 (D.r k1), .int .i64 (D.r k2)] w' fun e w'' => e = .returned (.bool (D.owns k1 k2 i)) ∧ w'' = w' := by
  obtain ⟨h, e, hh⟩ := toNat_of (ok.ring k1 h1 h2)
  obtain ⟨t, e', ht⟩ := toNat_of (ok.ring k2 h3 h4)
  unfold Dev.owns
  rw [e, e']
  simpa using devices_any i h t hi hh ht w'

set_option maxRecDepth 100000 in
set_option maxHeartbeats 2000000 in
theorem rSetTx_any {A A' : Nat → Prop} {b : Nat} {D : Dev} {w : World} (h : DevAt LR A w b D) (ok : D.Ok) (hA : ∀ g, A g → g < w.heap.size) (i : Int) (v : Value) (bs : List Int) (hv : IsF A' w v bs) (hl : bs.length ≤ 140737488355328) :
    Calls Try.prog 72 #[.pointer (some ⟨b, 0, none⟩), .int .i64 i, v] w fun e w' => e = .returned (.int .i64 (D.stE i bs)) ∧ DevAt LR A w' b (D.stD i bs) ∧ But (Only b) w w' := by
  obtain ⟨a, cap, rfl, _, _⟩ := hv.shape
  have H := hide h
  have HV := hide hv
  have HA := hide hA
  have OK := hide ok
  have c4 := h.creg 4 (by omega)
  have c5 := h.creg 5 (by omega)
  clear hv hA
  by_cases hp : place i = true
  · obtain ⟨k, rfl, hk⟩ := place_nat hp
    have HP := hide hp
    have C := hide (devs h ok 4 5 (by omega) (by omega) (by omega) (by omega) k hk)
    have n0 : ¬ (k : Int) < 0 := by omega
    have n1 : ¬ (16 : Int) ≤ k := by omega
    clear hp h ok
    obtain ⟨x, hx⟩ : ∃ x, x = D.r 4 := ⟨_, rfl⟩
    obtain ⟨y, hy⟩ : ∃ y, y = D.r 5 := ⟨_, rfl⟩
    rw [← hx] at c4 C
    rw [← hy] at c5 C
    clear hx hy
    by_cases ho : D.owns 4 5 k = true
    · have E : Hid (D.stE k bs = 1) := by unfold Dev.stE; rw [if_pos (by rw [HP.out, ho]; rfl)]; exact rfl
      rw [ho] at C
      go_enter Try.func72, Try.ntmps72
      go_wp2
      go_region_with (refine (C.out _).mono ?_; rintro e w' ⟨rfl, rfl⟩)
      all_goals go_wp2
      all_goals go_ret
      all_goals refine ⟨by rw [E.out]; rfl, ?_, (But.refl _ _).drew⟩
      all_goals unfold Dev.stD
      all_goals rw [if_neg (by rw [E.out]; omega)]
      all_goals exact H.out.drew
    · have ho : D.owns 4 5 k = false := by simpa using ho
      have E : Hid (D.stE k bs = if bs.length = 0 then 3 else if 274 < bs.length then 2 else 0) := by
        unfold Dev.stE; rw [if_neg (by rw [HP.out, ho]; simp)]; exact rfl
      rw [ho] at C
      by_cases h0 : bs.length = 0
      · have q : ((bs.length : Int) == 0) = true := by simp [h0]
        have E2 : Hid (D.stE k bs = 3) := by rw [E.out, if_pos h0]; exact rfl
        clear h0
        go_enter Try.func72, Try.ntmps72
        go_wp2
        go_region_with (refine (C.out _).mono ?_; rintro e w' ⟨rfl, rfl⟩)
        all_goals go_wp2
        all_goals go_ret
        all_goals refine ⟨by rw [E2.out]; rfl, ?_, (But.refl _ _).drew⟩
        all_goals unfold Dev.stD
        all_goals rw [if_neg (by rw [E2.out]; omega)]
        all_goals exact H.out.drew
      · have q : ((bs.length : Int) == 0) = false := by rw [beq_eq_false_iff_ne]; omega
        by_cases h1 : 274 < bs.length
        · have E2 : Hid (D.stE k bs = 2) := by rw [E.out, if_neg h0, if_pos h1]; exact rfl
          have q2 : (274 : Int) < bs.length := by omega
          clear h0 h1
          go_enter Try.func72, Try.ntmps72
          go_wp2
          go_region_with (refine (C.out _).mono ?_; rintro e w' ⟨rfl, rfl⟩)
          all_goals go_wp2
          all_goals go_ret
          all_goals refine ⟨by rw [E2.out]; rfl, ?_, (But.refl _ _).drew⟩
          all_goals unfold Dev.stD
          all_goals rw [if_neg (by rw [E2.out]; omega)]
          all_goals exact H.out.drew
        · have E2 : Hid (D.stE k bs = 0) := by rw [E.out, if_neg h0, if_neg h1]; exact rfl
          have q2 : ¬ (274 : Int) < bs.length := by omega
          clear h0 h1
          have K : Hid (∀ W', Below w.drew.drew.heap.size w.drew.drew W' → (∃ u, W'.cell? ⟨b, 8 + k * 2, none⟩ = some u) ∧ W'.frozen? ⟨b, 8 + k * 2, none⟩ = false ∧ DevAt LR A W' b D) := by
            intro W' hb
            have d3 := H.out.drew.drew.later hb
            obtain ⟨u, hu, _⟩ := d3.ctxf LR_ok k hk
            exact ⟨⟨u, hu⟩, d3.frozen _, d3⟩
          have FV := hide HV.out.drew.drew
          have hki : (k : Int) < 16 := by omega
          go_enter Try.func72, Try.ntmps72
          go_wp2
          go_region_with (refine (C.out _).mono ?_; rintro e w' ⟨rfl, rfl⟩)
          all_goals go_wp2
          all_goals go_region_law (refine step_grow rfl _ rfl rfl _ bs (by simp [Act.eval, Act.put]) FV.out hl ?_; intro a' cap' w' hG hB; obtain ⟨⟨u, hu⟩, hfz, hd⟩ := K.out _ hB; have HD := hide hd; have HG := hide hG; have HBB := hide hB; clear hd hG hB)
          all_goals go_wp2
          all_goals go_ret
          all_goals refine ⟨by rw [E2.out]; rfl, ?_, (But.of_below (undrew (undrew HBB.out))).cellb _ _⟩
          all_goals unfold Dev.stD
          all_goals rw [if_pos E2.out, Int.toNat_natCast]
          all_goals exact HD.out.setTxf LR_ok k hk _ bs (HG.out.isF (fun g hg ha => by have h1 := HA.out g ha; have h3 : w.heap.size ≤ g := hg; omega))
  · have hp : place i = false := by simpa using hp
    have E : Hid (D.stE i bs = 1) := by unfold Dev.stE; rw [if_pos (by rw [hp]; rfl)]; exact rfl
    have hp2 : i < 0 ∨ 16 ≤ i := by simp [place] at hp; omega
    have F : Hid (DevAt LR A w b (D.stD i bs)) := by unfold Dev.stD; rw [if_neg (by rw [E.out]; omega)]; exact h
    clear hp h ok
    rcases hp2 with hv | hv
    · go_enter Try.func72, Try.ntmps72
      go_wp2
      go_ret
      exact ⟨by rw [E.out]; rfl, F.out, But.refl _ _⟩
    · have n0 : ¬ i < 0 := by omega
      go_enter Try.func72, Try.ntmps72
      go_wp2
      go_ret
      exact ⟨by rw [E.out]; rfl, F.out, But.refl _ _⟩

end Go.Proofs.Ytjkfjijnjkpbbaa
