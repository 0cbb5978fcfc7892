
/-
  The document's udp: Decode.
-/
import Derived.Test.YthjeaebpboilpaaU7
namespace Go.Proofs.Ythjeaebpboilpaa
open Go.RowKit Go.Shelf

theorem rAtv (v : Value) (bs : List Int) (k : Nat) (w : World) (hb : IsB w.heap.size w v bs) (hB : Bytes bs) (hl : (bs.length : Int) ≤ 4611686018427387904) (hk : k + 2 ≤ bs.length) :
    Calls Try.prog 34 #[v, .int .i64 (k : Int), .int .i64 2] w fun e w' => e = .returned (.int .i64 (w16 bs k)) ∧ w' = w := by
  have h := rAt2_any v bs (k : Int) w hb hB hl
  rw [if_pos (by simp [stB]; omega), rd16_at hk] at h
  exact h
theorem prt_zero {n : Int} (h0 : 0 ≤ n) (h1 : n ≤ 65535) : prt n = !decide (n = 0) := by
  unfold prt
  by_cases e : n = 0
  · subst e; rfl
  · simp [e]; omega
set_option maxRecDepth 100000 in
set_option maxHeartbeats 8000000 in
theorem rDec_any (x y : I4) (hx : x.Ok) (hy : y.Ok) (v : Value) (bs : List Int) (w : World) (hb : IsB w.heap.size w v bs) (hB : Bytes bs) (hl : bs.length ≤ 1125899906842624) :
    Calls Try.prog 12 #[x.val, y.val, v] w fun e w' => ∃ u, e = .returned (.tuple #[.int .i64 (udF x y bs), .int .i64 (udT x y bs), u, .int .i64 (udE x y bs)]) ∧ IsB w'.heap.size w' u (udD x y bs) ∧ Below w.heap.size w w' := by
  obtain ⟨w1, w2, s1, s2, hs1, hw1, hs2, hw2, c1, c2, b2, l1, l2, _⟩ := twoI w x y
  obtain ⟨a, c, rfl, hnc⟩ := hb.shape
  have C1 := hide c1
  have C2 := hide c2
  have B2 := hide b2
  have HD := hide (hb.later b2)
  have BY := hide hB
  have XO := hide hx
  have YO := hide hy
  obtain ⟨F, hF⟩ : ∃ F, F = udF x y bs := ⟨_, rfl⟩
  obtain ⟨T, hT⟩ : ∃ T, T = udT x y bs := ⟨_, rfl⟩
  obtain ⟨E, hE⟩ : ∃ E, E = udE x y bs := ⟨_, rfl⟩
  obtain ⟨D, hD⟩ : ∃ D, D = udD x y bs := ⟨_, rfl⟩
  have EF : Hid (F = if E = 0 then w16 bs 0 else 0) := by rw [hF, hE]; exact rfl
  have ET : Hid (T = if E = 0 then w16 bs 2 else 0) := by rw [hT, hE]; exact rfl
  have ED : Hid (D = if E = 0 then (bs.take (w16 bs 4).toNat).drop 8 else []) := by rw [hD, hE]; exact rfl
  have EE := hide hE
  rw [← hF, ← hT, ← hE, ← hD]
  obtain ⟨n, hn⟩ : ∃ n, n = bs.length := ⟨_, rfl⟩
  have HN := hide hn
  rw [← hn] at hl HD hnc ⊢
  rw [show x.val = .agg #[.int .u8 x.a, .int .u8 x.b, .int .u8 x.c, .int .u8 x.d] from rfl, show y.val = .agg #[.int .u8 y.a, .int .u8 y.b, .int .u8 y.c, .int .u8 y.d] from rfl]
  have hs1' := hs1.symm
  have hs2' := hs2.symm
  have hw1' := hw1.symm
  have hw2' := hw2.symm
  clear c1 c2 b2 hs1 hs2 hw1 hw2 hb hB hn hF hT hE hD hx hy
  have BAD : E ≠ 0 → F = 0 ∧ T = 0 ∧ D = [] := fun h => ⟨by rw [EF.out, if_neg h], by rw [ET.out, if_neg h], by rw [ED.out, if_neg h]⟩
  have HBAD := hide BAD
  clear BAD
  go_enter Try.func12, Try.ntmps12
  go_upto_region 1 with fail
  clear hs1' hs2' hw1' hw2'
  by_cases h1 : n < 8
  · have e : E = 3 := by rw [EE.out, udE, if_pos (by rw [← HN.out]; exact h1)]
    obtain ⟨eF, eT, eD⟩ := HBAD.out (by rw [e]; decide)
    subst e eF eT eD
    have z : (n : Int) < 8 := by omega
    go_wp2
    refine bodyPost_ret (v := .tuple #[.int .i64 0, .int .i64 0, .slice none 0 0, .int .i64 3]) (by simp [results, go_sem]) rfl ?_
    exact ⟨_, rfl, IsB.nil _ _, B2.out⟩
  have z1 : ¬ (n : Int) < 8 := by omega
  have AT : Hid (∀ (k : Nat) (W : World), k ≤ 6 → Below w2.heap.size w2 W → Calls Try.prog 34 #[.slice a n c, .int .i64 (k : Int), .int .i64 2] W fun e w' => e = .returned (.int .i64 (w16 bs k)) ∧ w' = W) := fun k W hk hW => rAtv (.slice a n c) bs k W (HD.out.later hW) BY.out (by rw [← HN.out]; omega) (by rw [← HN.out]; omega)
  obtain ⟨p0, hp0⟩ : ∃ p0, p0 = w16 bs 0 := ⟨_, rfl⟩
  obtain ⟨p2, hp2⟩ : ∃ p2, p2 = w16 bs 2 := ⟨_, rfl⟩
  obtain ⟨p6, hp6⟩ : ∃ p6, p6 = w16 bs 6 := ⟨_, rfl⟩
  have PB0 : Hid (prt p0 = !decide (p0 = 0)) := by rw [hp0]; exact prt_zero (w16_bd BY.out 0).1 (w16_bd BY.out 0).2
  have PB2 : Hid (prt p2 = !decide (p2 = 0)) := by rw [hp2]; exact prt_zero (w16_bd BY.out 2).1 (w16_bd BY.out 2).2
  obtain ⟨z, hz⟩ : ∃ z : Nat, w16 bs 4 = (z : Int) := ⟨(w16 bs 4).toNat, by rw [Int.toNat_of_nonneg (w16_bd BY.out 4).1]⟩
  have z6 : z ≤ 65535 := by have := (w16_bd BY.out 4).2; omega
  have A4 := hide (AT.out 4 w2 (by omega) (Below.refl _ _))
  rw [hz] at A4
  rw [← hp0] at EF
  rw [← hp2] at ET
  rw [hz, Int.toNat_natCast] at ED
  have E2 : Hid (E = if (z : Int) < 8 ∨ (n : Int) < (z : Int) then 4 else if uSm x y (bs.take z) = false then 5 else if prt p0 = false ∨ prt p2 = false then 1 else 0) := by
    unfold Hid
    rw [EE.out, udE, if_neg (by rw [← HN.out]; exact h1), hz, Int.toNat_natCast, ← HN.out, ← hp0, ← hp2]
  have HP0 := hide hp0
  have HP2 := hide hp2
  have HP6 := hide hp6
  clear hp0 hp2 hz hp6
  go_wp2_with fail
  refine A4.out.mono ?_
  rintro _ wx ⟨rfl, hw⟩
  rw [hw]
  clear hw wx A4
  by_cases h2 : z < 8
  · have e : E = 4 := by rw [E2.out, if_pos (.inl (by omega))]
    obtain ⟨eF, eT, eD⟩ := HBAD.out (by rw [e]; decide)
    subst e eF eT eD
    have z2 : (z : Int) < 8 := by omega
    go_wp2
    refine bodyPost_ret (v := .tuple #[.int .i64 0, .int .i64 0, .slice none 0 0, .int .i64 4]) (by simp [results, go_sem]) rfl ?_
    exact ⟨_, rfl, IsB.nil _ _, B2.out⟩
  have z2 : ¬ (z : Int) < 8 := by omega
  by_cases h3 : n < z
  · have e : E = 4 := by rw [E2.out, if_pos (.inr (by omega))]
    obtain ⟨eF, eT, eD⟩ := HBAD.out (by rw [e]; decide)
    subst e eF eT eD
    have z3 : (n : Int) < (z : Int) := by omega
    go_wp2
    refine bodyPost_ret (v := .tuple #[.int .i64 0, .int .i64 0, .slice none 0 0, .int .i64 4]) (by simp [results, go_sem]) rfl ?_
    exact ⟨_, rfl, IsB.nil _ _, B2.out⟩
  have z3 : ¬ (n : Int) < (z : Int) := by omega
  rw [if_neg (show ¬ ((z : Int) < 8 ∨ (n : Int) < (z : Int)) by omega)] at E2
  obtain ⟨g, off, rfl⟩ : ∃ g off, a = some ⟨g, off, none⟩ := by
    obtain ⟨a', c, e, _, _, hc⟩ := HD.out
    simp only [Value.slice.injEq] at e
    obtain ⟨rfl, _, rfl⟩ := e
    obtain ⟨b', off', e, _⟩ := hc (by have := HN.out; omega)
    exact ⟨b', off', e⟩
  have tl : (bs.take z).length = z := by rw [List.length_take]; have := HN.out; omega
  have t6 : w16 (bs.take z) 6 = w16 bs 6 := by
    unfold w16 nb
    rw [List.getElem?_take_of_lt (by omega), List.getElem?_take_of_lt (by omega)]
  obtain ⟨cs, hcs⟩ : ∃ cs, cs = csum (psB x y 17 (z : Int) ++ bs.take z) := ⟨_, rfl⟩
  have SE : Hid (uSm x y (bs.take z) = (decide (p6 = 0) || decide (cs = 0))) := by
    unfold Hid uSm
    rw [t6, tl, ← HP6.out, ← hcs]
  have CS : Hid (∀ W, Below w2.heap.size w2 W → Calls Try.prog 29 #[x.val, y.val, .slice (some ⟨g, off, none⟩) z c] W fun e w' => e = .returned (.int .i64 cs) ∧ Below W.heap.size W w') := fun W hW => by
    have h1 := (HD.out.later hW).take z (by rw [← HN.out]; omega)
    have h := rSm_any x y XO.out YO.out (.slice (some ⟨g, off, none⟩) z c) (bs.take z) W h1 (BY.out.take z) (by rw [tl]; omega)
    rw [tl, ← hcs] at h
    exact h
  have A6 : Hid (∀ W, Below w2.heap.size w2 W → Calls Try.prog 34 #[.slice (some ⟨g, off, none⟩) n c, .int .i64 6, .int .i64 2] W fun e w' => e = .returned (.int .i64 p6) ∧ Below w2.heap.size w2 w') := fun W hW => by
    have h := AT.out 6 W (by omega) hW
    rw [← HP6.out] at h
    exact h.mono (by rintro _ W' ⟨rfl, rfl⟩; exact ⟨rfl, hW⟩)
  have TL := hide tl
  clear tl hcs t6
  go_upto_region 6 with fail
  go_cut [37] (fun v wc => v = .bool (!(decide (p6 = 0) || decide (cs = 0))) ∧ Hid (Below w2.heap.size w2 wc))
  case first =>
    by_cases e6 : p6 = 0
    · skip
      refine region_quiet_C (fun W => Below w2.heap.size w2 W) (by kernel_rfl) (by kernel_rfl) (later_drew _) ?_
      go_big_quiet_step (fail)
      go_big_quiet_want
      refine quiet_call 34 #[.slice (some ⟨g, off, none⟩) n c, .int .i64 6, .int .i64 2] (.int .i64 p6) (fun _ => by simp [Act.eval, go_sem]) (fun W hW => A6.out W hW) ?_
      go_big_quiet_on
      simp only [Act.put, List.setIfInBounds_toArray, List.set_cons_succ, List.set_cons_zero]
      go_big_quiet_want
      refine quiet_pure (.bool false) (fun W hW => exec_nei _ _ _ _ _ _ rfl rfl rfl (by simp [e6])) ?_
      go_big_quiet_on
      simp only [Act.put, List.setIfInBounds_toArray, List.set_cons_succ, List.set_cons_zero]
      go_big_quiet_step (fail)
      go_big_quiet_step (fail)
      go_big_quiet_step (fail)
      go_big_quiet_step (fail)
      go_big_quiet_step (fail)
      go_big_quiet_step (fail)
      go_big_quiet_step (fail)
      go_big_quiet_step (fail)
      go_big_quiet_want
      refine quiet_pure (.bool false) (fun W hW => exec_pick _ _ _ false _ rfl rfl rfl) ?_
      go_big_quiet_on
      simp only [Act.put, List.setIfInBounds_toArray, List.set_cons_succ, List.set_cons_zero]
      refine wpQuiet_nil ?_
      intro wq bq
      go_wp2
      go_meet
      case rel => exact ⟨by simp [e6], bq⟩
    · obtain ⟨q, hq⟩ : ∃ q, q = !(cs == 0) := ⟨_, rfl⟩
      refine region_quiet_C (fun W => Below w2.heap.size w2 W) (by kernel_rfl) (by kernel_rfl) (later_drew _) ?_
      go_big_quiet_step (fail)
      go_big_quiet_want
      refine quiet_call 34 #[.slice (some ⟨g, off, none⟩) n c, .int .i64 6, .int .i64 2] (.int .i64 p6) (fun _ => by simp [Act.eval, go_sem]) (fun W hW => A6.out W hW) ?_
      go_big_quiet_on
      simp only [Act.put, List.setIfInBounds_toArray, List.set_cons_succ, List.set_cons_zero]
      go_big_quiet_want
      refine quiet_pure (.bool true) (fun W hW => exec_nei _ _ _ _ _ _ rfl rfl rfl (by simp [e6])) ?_
      go_big_quiet_on
      simp only [Act.put, List.setIfInBounds_toArray, List.set_cons_succ, List.set_cons_zero]
      go_big_quiet_step (fail)
      go_big_quiet_want
      refine quiet_pure (.agg (x.vals).toArray) (fun W hW => exec_loadA 23 4 aggI sizI _ rfl s1 0 rfl (x.vals) rfl (C1.out.later l1 hW)) ?_
      go_big_quiet_on
      simp only [Act.put, List.setIfInBounds_toArray, List.set_cons_succ, List.set_cons_zero]
      go_big_quiet_want
      refine quiet_pure (.agg (y.vals).toArray) (fun W hW => exec_loadA 23 4 aggI sizI _ rfl s2 0 rfl (y.vals) rfl (C2.out.later l2 hW)) ?_
      go_big_quiet_on
      simp only [Act.put, List.setIfInBounds_toArray, List.set_cons_succ, List.set_cons_zero]
      go_big_quiet_step (fail)
      go_big_quiet_step (fail)
      go_big_quiet_want
      refine quiet_pure (.slice (some ⟨g, off, none⟩) z c) (fun W hW => exec_slU _ _ _ n c z rfl rfl rfl (by omega)) ?_
      go_big_quiet_on
      simp only [Act.put, List.setIfInBounds_toArray, List.set_cons_succ, List.set_cons_zero]
      go_big_quiet_want
      refine quiet_call 29 #[.agg x.vals.toArray, .agg y.vals.toArray, .slice (some ⟨g, off, none⟩) z c] (.int .i64 cs) (fun _ => by simp [Act.eval, go_sem]) (fun W hW => (CS.out W hW).mono fun e w' h => ⟨h.1, later hW h.2⟩) ?_
      go_big_quiet_on
      simp only [Act.put, List.setIfInBounds_toArray, List.set_cons_succ, List.set_cons_zero]
      go_big_quiet_want
      refine quiet_pure (.bool q) (fun W hW => exec_nei _ _ _ _ _ _ rfl rfl rfl hq.symm) ?_
      go_big_quiet_on
      simp only [Act.put, List.setIfInBounds_toArray, List.set_cons_succ, List.set_cons_zero]
      go_big_quiet_want
      refine quiet_pure (.bool q) (fun W hW => exec_pick _ _ _ true _ rfl rfl rfl) ?_
      go_big_quiet_on
      simp only [Act.put, List.setIfInBounds_toArray, List.set_cons_succ, List.set_cons_zero]
      refine wpQuiet_nil ?_
      intro wq bq
      have HQ := hide hq
      clear hq
      go_wp2
      go_meet
      case rel => exact ⟨by rw [HQ.out]; by_cases e : cs = 0 <;> simp [e, e6], bq⟩
  case rest =>
    obtain ⟨rfl, hwc⟩ := hcut
    have B6 := hide hwc.out
    have BW6 := hide (later B2.out hwc.out)
    clear hwc CS A6
    rw [SE.out] at E2
    obtain ⟨sm, hsm⟩ : ∃ sm, sm = (decide (p6 = 0) || decide (cs = 0)) := ⟨_, rfl⟩
    rw [← hsm] at E2 ⊢
    clear hsm SE
    cases sm with
    | false =>
      have e : E = 5 := by rw [E2.out, if_pos rfl]
      obtain ⟨eF, eT, eD⟩ := HBAD.out (by rw [e]; decide)
      subst e eF eT eD
      go_wp2
      refine bodyPost_ret (v := .tuple #[.int .i64 0, .int .i64 0, .slice none 0 0, .int .i64 5]) (by simp [results, go_sem]) rfl ?_
      exact ⟨_, rfl, IsB.nil _ _, BW6.out⟩
    | true =>
    rw [if_neg (by decide), PB0.out, PB2.out] at E2
    have A0 := hide (AT.out 0 wc (by omega) B6.out)
    have A2 := hide (AT.out 2 wc (by omega) B6.out)
    rw [← HP0.out] at A0
    rw [← HP2.out] at A2
    go_wp2_with fail
    refine A0.out.mono ?_
    rintro _ wx ⟨rfl, hw⟩
    rw [hw]
    clear hw wx A0
    go_wp2_with fail
    refine A2.out.mono ?_
    rintro _ wx ⟨rfl, hw⟩
    rw [hw]
    clear hw wx A2
    by_cases e0 : p0 = 0
    · have e : E = 1 := by rw [E2.out, if_pos (.inl (by simp [e0]))]
      obtain ⟨eF, eT, eD⟩ := HBAD.out (by rw [e]; decide)
      subst e eF eT eD
      have q0 : (p0 == 0) = true := by simpa using e0
      clear e0
      go_wp2
      refine bodyPost_ret (v := .tuple #[.int .i64 0, .int .i64 0, .slice none 0 0, .int .i64 1]) (by simp [results, go_sem]) rfl ?_
      exact ⟨_, rfl, IsB.nil _ _, BW6.out⟩
    by_cases e1 : p2 = 0
    · have e : E = 1 := by rw [E2.out, if_pos (.inr (by simp [e1]))]
      obtain ⟨eF, eT, eD⟩ := HBAD.out (by rw [e]; decide)
      subst e eF eT eD
      have q0 : (p0 == 0) = false := by simpa using e0
      have q1 : (p2 == 0) = true := by simpa using e1
      clear e0 e1
      go_wp2
      refine bodyPost_ret (v := .tuple #[.int .i64 0, .int .i64 0, .slice none 0 0, .int .i64 1]) (by simp [results, go_sem]) rfl ?_
      exact ⟨_, rfl, IsB.nil _ _, BW6.out⟩
    have e : E = 0 := by rw [E2.out, if_neg (by simp [e0, e1])]
    rw [if_pos e] at EF ET ED
    have q0 : (p0 == 0) = false := by simpa using e0
    have q1 : (p2 == 0) = false := by simpa using e1
    obtain ⟨ad, had⟩ : ∃ ad, ad = if c = 8 then some (⟨g, off, none⟩ : Addr) else some ⟨g, off + 8, none⟩ := ⟨_, rfl⟩
    have ID : Hid (∀ W, Below wc.heap.size wc W → IsB W.heap.size W (.slice ad (z - 8) (c - 8)) D) := fun W hW => by
      rw [ED.out]
      have h1 := ((HD.out.later (later B6.out hW)).take z (by rw [← HN.out]; omega)).drop 8 (by rw [TL.out]; omega)
      rw [drop_addr, ← had] at h1
      exact h1
    have HAD := hide had
    have EF2 := hide EF.out
    have ET2 := hide ET.out
    have E3 := hide e
    clear e0 e1 had e
    go_upto_region 12 with fail
    refine region_quiet_C (fun W => Below wc.heap.size wc W) (by kernel_rfl) (by kernel_rfl) (later_drew _) ?_
    go_big_quiet_step (fail)
    go_big_quiet_step (fail)
    go_big_quiet_step (fail)
    go_big_quiet_step (fail)
    go_big_quiet_want
    refine quiet_pure (.slice ad (z - 8) (c - 8)) (fun W hW => exec_slLH _ _ g off n c 8 z 8 rfl ad HAD.out rfl (fun _ => rfl) rfl rfl (by omega) (by omega)) ?_
    go_big_quiet_on
    simp only [Act.put, List.setIfInBounds_toArray, List.set_cons_succ, List.set_cons_zero]
    go_big_quiet_step (fail)
    go_big_quiet_step (fail)
    go_big_quiet_step (fail)
    go_big_quiet_step (fail)
    refine wpQuiet_nil ?_
    intro wq bq
    have I9 := hide (ID.out wq bq)
    have B9 := hide (later BW6.out bq)
    clear bq ID
    go_wp2
    refine bodyPost_ret (v := .tuple #[.int .i64 p0, .int .i64 p2, .slice ad (z - 8) (c - 8), .int .i64 0]) (by simp [results, go_sem]) rfl ?_
    exact ⟨_, by rw [EF2.out, ET2.out, E3.out], I9.out, B9.out⟩
end Go.Proofs.Ythjeaebpboilpaa
