
/-
  Contracts: SetTx, SetRx, Rx.
-/
import Derived.Test.YtjkfjijnjkpbbaaNOwns
namespace Go.Proofs.Ytjkfjijnjkpbbaa
open Go.RowKit

theorem Clone_sl {A : Nat → Prop} {v : Value} {bs : List Int} {w : World} (h : IsF A w v bs) (hl : bs.length ≤ 140737488355328) :
    Calls Try.prog 49 #[v] w fun e w' => ∃ a' cap', e = .returned (.slice a' bs.length cap') ∧ Gro w.heap.size w' (.slice a' bs.length cap') bs ∧ Below w.heap.size w w' := by
  refine (Clone_any h hl).mono ?_
  rintro e w' ⟨v', rfl, hG, hB⟩
  obtain ⟨a', cap', rfl, _⟩ := hG.shape
  exact ⟨a', cap', rfl, hG, hB⟩
theorem IsF.drew {A : Nat → Prop} {W : World} {v : Value} {bs : List Int} (h : IsF A W v bs) : IsF A W.drew v bs := h.but (K := fun _ => False) ((But.refl _ _).drew) (fun _ e => e.elim)
theorem DevAt.later {L : Lay} {A : Nat → Prop} {W W' : World} {b : Nat} {D : Dev} (h : DevAt L A W b D) (hb : Below W.heap.size W W') : DevAt L A W' b D := h.but (K := fun _ => False) (But.of_below hb) (fun _ e => e.elim) id
theorem IsF.later {A : Nat → Prop} {W W' : World} {v : Value} {bs : List Int} (h : IsF A W v bs) (hb : Below W.heap.size W W') : IsF A W' v bs := h.but (K := fun _ => False) (But.of_below hb) (fun _ e => e.elim)
theorem undrew {n : Nat} {w w' : World} (h : Below n w.drew w') : Below n w w' := ⟨h.os, h.tape, h.output, h.size, h.block⟩
theorem place_nat {i : Int} (h : place i = true) : ∃ k : Nat, i = k ∧ k < 16 := by
  simp [place] at h; exact ⟨i.toNat, by omega, by omega⟩

set_option maxRecDepth 100000 in
set_option maxHeartbeats 1000000 in
theorem SetTx_any {A A' : Nat → Prop} {b : Nat} {D : Dev} {w : World} (h : DevAt LN A w b D) (ok : D.Ok) (hA : ∀ g, A g → g < w.heap.size) (i : Int) (v : Value) (bs : List Int) (hv : IsF A' w v bs) (hl : bs.length ≤ 140737488355328) :
    Calls Try.prog 51 #[.pointer (some ⟨b, 0, none⟩), .int .i64 i, v] w fun e w' => e = .returned (.int .i64 (D.stE i bs)) ∧ DevAt LN A w' b (D.stD i bs) ∧ But (Only b) w w' := by
  obtain ⟨a, cap, rfl, _, _⟩ := hv.shape
  have H := hide h
  have HV := hide hv
  have HA := hide hA
  have OK := hide ok
  clear h hv hA ok
  by_cases hp : place i = true
  · obtain ⟨k, rfl, hk⟩ := place_nat hp
    have HP := hide hp
    have C := hide (isPlace_any (k : Int) w)
    rw [hp] at C
    clear hp
    go_enter Try.func51, Try.ntmps51
    go_wp2_with fail
    refine (unhide C).mono ?_
    rintro e w1 ⟨rfl, rfl⟩
    clear C
    go_wp2_with fail
    refine (owns_tx H.out OK.out k hk).mono ?_
    rintro e w2 ⟨rfl, hB⟩
    have HB := hide hB
    clear hB
    by_cases ho : D.owns 4 5 k = true
    · have E : Hid (D.stE k bs = 1) := by unfold Dev.stE; rw [if_pos (by rw [HP.out, ho]; rfl)]; exact rfl
      rw [ho]
      go_wp2
      go_ret
      refine ⟨by rw [E.out]; rfl, ?_, But.of_below HB.out⟩
      unfold Dev.stD
      rw [if_neg (by rw [E.out]; omega)]
      exact H.out.later HB.out
    · have ho : D.owns 4 5 k = false := by simpa using ho
      have E : Hid (D.stE k bs = if bs.length = 0 then 3 else if 274 < bs.length then 2 else 0) := by
        unfold Dev.stE; rw [if_neg (by rw [HP.out, ho]; simp)]; exact rfl
      rw [ho]
      by_cases h0 : bs.length = 0
      · have q : ((bs.length : Int) == 0) = true := by simp [h0]
        have E2 : Hid (D.stE k bs = 3) := by rw [E.out, if_pos h0]; exact rfl
        clear h0
        go_wp2
        go_ret
        refine ⟨by rw [E2.out]; rfl, ?_, But.of_below HB.out⟩
        unfold Dev.stD
        rw [if_neg (by rw [E2.out]; omega)]
        exact H.out.later HB.out
      · have q : ((bs.length : Int) == 0) = false := by rw [beq_eq_false_iff_ne]; omega
        by_cases h1 : 274 < bs.length
        · have E2 : Hid (D.stE k bs = 2) := by rw [E.out, if_neg h0, if_pos h1]; exact rfl
          have q2 : (274 : Int) < bs.length := by omega
          clear h0 h1
          go_wp2
          go_ret
          refine ⟨by rw [E2.out]; rfl, ?_, But.of_below HB.out⟩
          unfold Dev.stD
          rw [if_neg (by rw [E2.out]; omega)]
          exact H.out.later HB.out
        · have E2 : Hid (D.stE k bs = 0) := by rw [E.out, if_neg h0, if_neg h1]; exact rfl
          have q2 : ¬ (274 : Int) < bs.length := by omega
          clear h0 h1
          have d2 := H.out.later HB.out
          have K : Hid (∀ W', Below w2.drew.heap.size w2.drew W' → (∃ u, W'.cell? ⟨b, 9 + k * 2, none⟩ = some u) ∧ W'.frozen? ⟨b, 9 + k * 2, none⟩ = false ∧ DevAt LN A W' b D) := by
            intro W' hb
            have d3 := d2.drew.later hb
            obtain ⟨u, hu, _⟩ := d3.ctxf LN_ok k hk
            exact ⟨⟨u, hu⟩, d3.frozen _, d3⟩
          have FV := hide ((HV.out.later HB.out).drew)
          clear d2
          have hki : (k : Int) < 16 := by omega
          go_wp2
          go_region_with (refine (Clone_sl FV.out hl).mono ?_; rintro e w' ⟨a', cap', rfl, hG, hB⟩; obtain ⟨⟨u, hu⟩, hfz, hd⟩ := K.out _ hB; have HD := hide hd; have HG := hide hG; have HBB := hide hB; clear hd hG hB)
          all_goals go_wp2
          all_goals go_ret
          all_goals refine ⟨by rw [E2.out]; rfl, ?_, (((But.of_below HB.out).trans (But.of_below (undrew HBB.out))).cellb _ _)⟩
          all_goals unfold Dev.stD
          all_goals rw [if_pos E2.out, Int.toNat_natCast]
          all_goals exact HD.out.setTxf LN_ok k hk _ bs (HG.out.isF (fun g hg ha => by have h1 := HA.out g ha; have h2 := HB.out.size; have h3 : w2.heap.size ≤ g := hg; omega))
  · have hp : place i = false := by simpa using hp
    have E : Hid (D.stE i bs = 1) := by unfold Dev.stE; rw [if_pos (by rw [hp]; rfl)]; exact rfl
    have C := hide (isPlace_any i w)
    rw [hp] at C
    clear hp
    go_enter Try.func51, Try.ntmps51
    go_wp2_with fail
    refine (unhide C).mono ?_
    rintro e w1 ⟨rfl, rfl⟩
    clear C
    go_wp2
    go_ret
    refine ⟨by rw [E.out]; rfl, ?_, But.refl _ _⟩
    unfold Dev.stD
    rw [if_neg (by rw [E.out]; omega)]
    exact H.out

set_option maxRecDepth 100000 in
set_option maxHeartbeats 1000000 in
theorem SetRx_any {A : Nat → Prop} {b : Nat} {D : Dev} {w : World} (h : DevAt LN A w b D) (ok : D.Ok) (i room : Int) :
    Calls Try.prog 89 #[.pointer (some ⟨b, 0, none⟩), .int .i64 i, .int .i64 room] w fun e w' => e = .returned (.int .i64 (D.srE i room)) ∧ DevAt LN A w' b (D.srD i room) ∧ But (Only b) w w' := by
  have H := hide h
  have OK := hide ok
  clear h ok
  by_cases hp : place i = true
  · obtain ⟨k, rfl, hk⟩ := place_nat hp
    have HP := hide hp
    have C := hide (isPlace_any (k : Int) w)
    rw [hp] at C
    clear hp
    go_enter Try.func89, Try.ntmps89
    go_wp2_with fail
    refine (unhide C).mono ?_
    rintro e w1 ⟨rfl, rfl⟩
    clear C
    go_wp2_with fail
    refine (owns_rx H.out OK.out k hk).mono ?_
    rintro e w2 ⟨rfl, hB⟩
    have HB := hide hB
    clear hB
    by_cases ho : D.owns 2 3 k = true
    · have E : Hid (D.srE k room = 1) := by unfold Dev.srE; rw [if_pos (.inl (by rw [HP.out, ho]; rfl))]; exact rfl
      rw [ho]
      go_wp2
      go_ret
      refine ⟨by rw [E.out]; rfl, ?_, But.of_below HB.out⟩
      unfold Dev.srD
      rw [if_neg (by rw [E.out]; omega)]
      exact H.out.later HB.out
    · have ho : D.owns 2 3 k = false := by simpa using ho
      rw [ho]
      by_cases hr : room < 0 ∨ 65535 < room
      · have E : Hid (D.srE k room = 1) := by unfold Dev.srE; rw [if_pos (.inr hr)]; exact rfl
        rcases hr with hr | hr
        · go_wp2
          go_ret
          refine ⟨by rw [E.out]; rfl, ?_, But.of_below HB.out⟩
          unfold Dev.srD
          rw [if_neg (by rw [E.out]; omega)]
          exact H.out.later HB.out
        · have hr0 : ¬ room < 0 := by omega
          go_wp2
          go_ret
          refine ⟨by rw [E.out]; rfl, ?_, But.of_below HB.out⟩
          unfold Dev.srD
          rw [if_neg (by rw [E.out]; omega)]
          exact H.out.later HB.out
      · have E : Hid (D.srE k room = 0) := by unfold Dev.srE; rw [if_neg (by rw [HP.out, ho]; simp; omega)]; exact rfl
        have hr0 : ¬ room < 0 := by omega
        have hr1 : ¬ 65535 < room := by omega
        clear hr
        have hd := H.out.later HB.out
        have g0 := hd.croom LN_ok k hk
        have g1 := hd.cheld LN_ok k hk
        obtain ⟨u, g2, _⟩ := hd.crxf LN_ok k hk
        have g3 := hd.cbad LN_ok k hk
        have f0 := hd.frozen (41 + k * 4)
        have f1 := hd.frozen (41 + k * 4 + 1)
        have f2 := hd.frozen (41 + k * 4 + 2)
        have f3 := hd.frozen (41 + k * 4 + 3)
        simp only [LN] at g0 g1 g2 g3
        have HD := hide hd
        clear hd
        have hki : (k : Int) < 16 := by omega
        go_wp2
        go_ret
        refine ⟨by rw [E.out]; rfl, ?_, (((((But.of_below HB.out).cellb _ _).cellb _ _).cellb _ _).cellb _ _)⟩
        unfold Dev.srD
        rw [if_pos E.out, Int.toNat_natCast]
        exact (((HD.out.setRoom LN_ok k hk room).setHeld LN_ok k hk false).setRxf LN_ok k hk _ [] (IsF.nil _ _)).setBad LN_ok k hk false
  · have hp : place i = false := by simpa using hp
    have E : Hid (D.srE i room = 1) := by unfold Dev.srE; rw [if_pos (.inl (by rw [hp]; rfl))]; exact rfl
    have C := hide (isPlace_any i w)
    rw [hp] at C
    clear hp
    go_enter Try.func89, Try.ntmps89
    go_wp2_with fail
    refine (unhide C).mono ?_
    rintro e w1 ⟨rfl, rfl⟩
    clear C
    go_wp2
    go_ret
    refine ⟨by rw [E.out]; rfl, ?_, But.refl _ _⟩
    unfold Dev.srD
    rw [if_neg (by rw [E.out]; omega)]
    exact H.out

set_option maxRecDepth 100000 in
set_option maxHeartbeats 1000000 in
theorem Rx_any {A : Nat → Prop} {b : Nat} {D : Dev} {w : World} (h : DevAt LN A w b D) (ok : D.Ok) (i : Int) :
    Calls Try.prog 88 #[.pointer (some ⟨b, 0, none⟩), .int .i64 i] w fun e w' => ∃ a cap, e = .returned (.tuple #[.slice a (D.rxF i).length cap, .bool (D.rxB i), .int .i64 (D.rxE i)]) ∧ Gro w.heap.size w' (.slice a (D.rxF i).length cap) (D.rxF i) ∧ Below w.heap.size w w' := by
  have H := hide h
  have OK := hide ok
  clear h ok
  by_cases hp : place i = true
  · obtain ⟨k, rfl, hk⟩ := place_nat hp
    have C := hide (isPlace_any (k : Int) w)
    rw [hp] at C
    have g1 : w.cell? ⟨b, 41 + k * 4 + 1, none⟩ = some (.bool (D.held k)) := H.out.cheld LN_ok k hk
    have hki : (k : Int) < 16 := by omega
    by_cases hh : D.held k = true
    · have E : D.rxE k = 0 := by unfold Dev.rxE; rw [if_pos hp, Int.toNat_natCast, if_pos hh]
      have E2 : D.rxF k = D.rxf k := by unfold Dev.rxF; rw [if_pos E, Int.toNat_natCast]
      have E3 : D.rxB k = D.bad k := by unfold Dev.rxB; rw [if_pos E, Int.toNat_natCast]
      rw [E, E2, E3]
      rw [hh] at g1
      have hl : (D.rxf k).length ≤ 140737488355328 := by have := OK.out.rxf k hk; omega
      obtain ⟨vf, g2, hf⟩ := H.out.crxf LN_ok k hk
      obtain ⟨af, cf, rfl, _, _⟩ := hf.shape
      have g2 : w.cell? ⟨b, 41 + k * 4 + 2, none⟩ = some (.slice af (D.rxf k).length cf) := g2
      have g3 : w.cell? ⟨b, 41 + k * 4 + 3, none⟩ = some (.bool (D.bad k)) := H.out.cbad LN_ok k hk
      have FV := hide (hf.drew)
      have KK : Hid (∀ W', Below w.drew.heap.size w.drew W' → W'.cell? ⟨b, 41 + k * 4 + 2, none⟩ = some (.slice af (D.rxf k).length cf) ∧ W'.cell? ⟨b, 41 + k * 4 + 3, none⟩ = some (.bool (D.bad k))) := by
        intro W' hb
        have hlt := H.out.lt
        exact ⟨(hb.cell (p := ⟨b, 41 + k * 4 + 2, none⟩) hlt).trans g2, (hb.cell (p := ⟨b, 41 + k * 4 + 3, none⟩) hlt).trans g3⟩
      generalize D.rxf k = bs at *
      generalize D.bad k = x at *
      clear hp E E2 E3 hh hf
      go_enter Try.func88, Try.ntmps88
      go_wp2_with fail
      refine (unhide C).mono ?_
      rintro e w1 ⟨rfl, rfl⟩
      clear C
      go_wp2
      go_region_with (refine (Clone_sl FV.out hl).mono ?_; rintro e w' ⟨a', cap', rfl, hG, hB⟩; obtain ⟨hu, hu2⟩ := KK.out _ hB; have HG := hide hG; have HBB := hide hB; clear hG hB)
      all_goals go_wp2
      all_goals go_ret3
      all_goals exact ⟨_, _, rfl, HG.out, undrew HBB.out⟩
    · have hh : D.held k = false := by simpa using hh
      have E : D.rxE k = 7 := by unfold Dev.rxE; rw [if_pos hp, Int.toNat_natCast, if_neg (by rw [hh]; simp)]
      have E2 : D.rxF k = [] := by unfold Dev.rxF; rw [if_neg (by rw [E]; omega)]
      have E3 : D.rxB k = false := by unfold Dev.rxB; rw [if_neg (by rw [E]; omega)]
      rw [E, E2, E3]
      rw [hh] at g1
      clear hp E E2 E3 hh
      go_enter Try.func88, Try.ntmps88
      go_wp2_with fail
      refine (unhide C).mono ?_
      rintro e w1 ⟨rfl, rfl⟩
      clear C
      go_wp2
      go_ret3
      exact ⟨_, _, rfl, Gro.nil _ _, Below.refl _ _⟩
  · have hp : place i = false := by simpa using hp
    have C := hide (isPlace_any i w)
    rw [hp] at C
    have E : D.rxE i = 1 := by unfold Dev.rxE; rw [if_neg (by rw [hp]; simp)]
    have E2 : D.rxF i = [] := by unfold Dev.rxF; rw [if_neg (by rw [E]; omega)]
    have E3 : D.rxB i = false := by unfold Dev.rxB; rw [if_neg (by rw [E]; omega)]
    rw [E, E2, E3]
    clear hp E E2 E3
    go_enter Try.func88, Try.ntmps88
    go_wp2_with fail
    refine (unhide C).mono ?_
    rintro e w1 ⟨rfl, rfl⟩
    clear C
    go_wp2
    go_ret3
    exact ⟨_, _, rfl, Gro.nil _ _, Below.refl _ _⟩

end Go.Proofs.Ytjkfjijnjkpbbaa
