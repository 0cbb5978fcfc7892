
/-
  Package udp: isSummed, Decode.
-/
import Derived.Test.YthjeaebpboilpaaU2
namespace Go.Proofs.Ythjeaebpboilpaa
open Go.RowKit Go.Shelf

theorem drop_addr {g off c k : Nat} : (if c = k then some (⟨g, off, none⟩ : Addr) else Option.map (fun x : Addr => x.add k) (some ⟨g, off, none⟩)) = (if c = k then some ⟨g, off, none⟩ else some ⟨g, off + k, none⟩) := by
  split
  · rfl
  · rw [Option.map_some, Addr.add_lit]
theorem exec_slLH {o : Oper} {w : World} {ev : Operand → Value} (x y : Operand) (g off n c k m : Nat) (kI : Int) (hk : (k : Int) = kI) (ad : Option Addr) (had : ad = if c = k then some (⟨g, off, none⟩ : Addr) else some ⟨g, off + k, none⟩) (ho : o.op = .slice 24 x (some (.const (.int .i64 kI))) (some y) none) (hcs : ∀ v, ev (.const v) = v) (hx : ev x = .slice (some ⟨g, off, none⟩) n c) (hy : ev y = .int .i64 (m : Int)) (h1 : k ≤ m) (h2 : m ≤ c) : (execOp ev o).run Try.prog w = .ok (.value (.slice ad (m - k) (c - k))) w := by
  subst hk
  have h3 : (k : Int) ≤ m := by omega
  have h4 : (m : Int) ≤ c := by omega
  rw [had]
  unfold execOp
  simp [ho, hx, hy, hcs, go_sem, h3, h4]
/-- has it a right sum, or none? -/
def uSm (x y : I4) (b : List Int) : Bool := decide (w16 b 6 = 0) || decide (csum (psB x y 17 (b.length : Int) ++ b) = 0)
set_option maxRecDepth 100000 in
set_option maxHeartbeats 8000000 in
theorem uSm_any (x y : I4) (hx : x.Ok) (hy : y.Ok) (v : Value) (bs : List Int) (w : World) (hb : IsB w.heap.size w v bs) (hB : Bytes bs) (hl : bs.length ≤ 140737488355328) (h8 : 8 ≤ bs.length) :
    Calls Try.prog 32 #[x.val, y.val, v] w fun e w' => e = .returned (.bool (uSm x y bs)) ∧ Below w.heap.size w w' := by
  obtain ⟨w1, w2, s1, s2, hs1, hw1, hs2, hw2, c1, c2, b2, l1, l2, _⟩ := twoI w x y
  obtain ⟨a, c, rfl, _⟩ := hb.shape
  have P3 := hide (Pseudo_any x y 17 (bs.length : Int))
  obtain ⟨X, hX⟩ : ∃ X, X = x.vals := ⟨_, rfl⟩
  obtain ⟨Y, hY⟩ : ∃ Y, Y = y.vals := ⟨_, rfl⟩
  have LX : Hid (X.length = 4) := by rw [hX]; exact rfl
  have LY : Hid (Y.length = 4) := by rw [hY]; exact rfl
  rw [← hX] at c1
  rw [← hY] at c2
  rw [show x.val = .agg X.toArray from by rw [hX]; rfl, show y.val = .agg Y.toArray from by rw [hY]; rfl] at P3
  have C1 := hide c1
  have C2 := hide c2
  have B2 := hide b2
  have HD := hide (hb.later b2)
  have BY := hide hB
  have PB := hide (psB_bytes hx hy 17 (bs.length : Int))
  have AT := hide ((uAt_any _ bs ((6 : Nat) : Int) w2 (hb.later b2) hB (by omega) (by omega)))
  rw [rd16_at (by omega)] at AT
  obtain ⟨k, hk⟩ : ∃ k, k = w16 bs 6 := ⟨_, rfl⟩
  obtain ⟨cs, hcs⟩ : ∃ cs, cs = csum (psB x y 17 (bs.length : Int) ++ bs) := ⟨_, rfl⟩
  obtain ⟨r, hr⟩ : ∃ r, r = uSm x y bs := ⟨_, rfl⟩
  have HR : Hid (r = (decide (k = 0) || decide (cs = 0))) := by rw [hr, hk, hcs]; exact rfl
  have HCS := hide hcs
  rw [← hk] at AT
  rw [← hr]
  obtain ⟨n, hn⟩ : ∃ n, n = bs.length := ⟨_, rfl⟩
  have HN := hide hn
  rw [← hn] at hl HD P3 PB AT HCS ⊢
  rw [show x.val = .agg #[.int .u8 x.a, .int .u8 x.b, .int .u8 x.c, .int .u8 x.d] from rfl, show y.val = .agg #[.int .u8 y.a, .int .u8 y.b, .int .u8 y.c, .int .u8 y.d] from rfl]
  have hs1' := hs1.symm
  have hs2' := hs2.symm
  have hw1' := hw1.symm
  have hw2' := hw2.symm
  clear c1 c2 b2 hs1 hs2 hw1 hw2 hX hY hb hB hn hcs hk hr hx hy h8
  go_enter Try.func32, Try.ntmps32
  go_wp2_with fail
  clear hs1' hs2' hw1' hw2'
  refine AT.out.mono ?_
  rintro _ w3 ⟨rfl, b3⟩
  have B3 := hide (later B2.out b3)
  have C13 := hide (C1.out.later l1 b3)
  have C23 := hide (C2.out.later l2 b3)
  have HD3 := hide (HD.out.later b3)
  have P4 := hide (P3.out w3)
  clear b3 AT P3
  by_cases e0 : k = 0
  · have er : r = true := by rw [HR.out]; simp [e0]
    subst e0 er
    go_wp2
    go_ret
    exact ⟨rfl, B3.out⟩
  · have z0 : (k == 0) = false := by simpa using e0
    have er : r = decide (cs = 0) := by rw [HR.out]; simp [e0]
    have HR2 := hide er
    clear er
    go_wp2_with (first | refine wpList_loadA rfl 23 4 aggI sizI _ rfl s1 0 rfl X LX.out C13.out ?_ | refine wpList_loadA rfl 23 4 aggI sizI _ rfl s2 0 rfl Y LY.out C23.out ?_)
    refine P4.out.mono ?_
    rintro _ w6 ⟨v6, rfl, i6, b6⟩
    obtain ⟨a6, c6, rfl, _⟩ := i6.shape
    have B6 := hide (later B3.out b6)
    have HD6 := hide (HD3.out.later b6)
    have SM := hide (Sum2 (.slice a6 (psB x y 17 (n : Int)).length c6) (.slice a n c) _ _ w6 i6 HD6.out PB.out BY.out (by rw [psB_len, ← HN.out]; omega))
    rw [← HCS.out] at SM
    rw [psB_len] at SM ⊢
    clear b6 i6 P4 C13 C23
    go_wp2_with fail
    refine SM.out.mono ?_
    rintro _ w7 ⟨rfl, b7⟩
    have B7 := hide (later B6.out b7)
    obtain ⟨q, hq⟩ : ∃ q, q = (cs == 0) := ⟨_, rfl⟩
    have HQ : Hid (r = q) := by rw [HR2.out, hq]; exact rfl
    have hq' := hq.symm
    clear b7 SM hq
    go_wp2
    go_ret
    exact ⟨by rw [HQ.out]; rfl, B7.out⟩
/-- what Decode answers -/
def udE (x y : I4) (bs : List Int) : Int :=
  if bs.length < 8 then 3 else
  if w16 bs 4 < 8 ∨ (bs.length : Int) < w16 bs 4 then 4 else
  if uSm x y (bs.take (w16 bs 4).toNat) = false then 5 else
  if prt (w16 bs 0) = false ∨ prt (w16 bs 2) = false then 1 else 0
def udF (x y : I4) (bs : List Int) : Int := if udE x y bs = 0 then w16 bs 0 else 0
def udT (x y : I4) (bs : List Int) : Int := if udE x y bs = 0 then w16 bs 2 else 0
def udD (x y : I4) (bs : List Int) : List Int := if udE x y bs = 0 then (bs.take (w16 bs 4).toNat).drop 8 else []
set_option maxRecDepth 100000 in
set_option maxHeartbeats 8000000 in
theorem uDec_any (x y : I4) (hx : x.Ok) (hy : y.Ok) (v : Value) (bs : List Int) (w : World) (hb : IsB w.heap.size w v bs) (hB : Bytes bs) (hl : bs.length ≤ 1125899906842624) :
    Calls Try.prog 11 #[x.val, y.val, v] w fun e w' => ∃ u, e = .returned (.tuple #[.int .i64 (udF x y bs), .int .i64 (udT x y bs), u, .int .i64 (udE x y bs)]) ∧ Gro w.heap.size w' u (udD x y bs) ∧ Below w.heap.size w w' := by
  obtain ⟨w1, w2, s1, s2, hs1, hw1, hs2, hw2, c1, c2, b2, l1, l2, _⟩ := twoI w x y
  obtain ⟨a, c, rfl, hnc⟩ := hb.shape
  have C1 := hide c1
  have C2 := hide c2
  have B2 := hide b2
  have HD := hide (hb.later b2)
  have BY := hide hB
  have XO := hide hx
  have YO := hide hy
  obtain ⟨F, hF⟩ : ∃ F, F = udF x y bs := ⟨_, rfl⟩
  obtain ⟨T, hT⟩ : ∃ T, T = udT x y bs := ⟨_, rfl⟩
  obtain ⟨E, hE⟩ : ∃ E, E = udE x y bs := ⟨_, rfl⟩
  obtain ⟨D, hD⟩ : ∃ D, D = udD x y bs := ⟨_, rfl⟩
  have EF : Hid (F = if E = 0 then w16 bs 0 else 0) := by rw [hF, hE]; exact rfl
  have ET : Hid (T = if E = 0 then w16 bs 2 else 0) := by rw [hT, hE]; exact rfl
  have ED : Hid (D = if E = 0 then (bs.take (w16 bs 4).toNat).drop 8 else []) := by rw [hD, hE]; exact rfl
  have EE := hide hE
  rw [← hF, ← hT, ← hE, ← hD]
  obtain ⟨n, hn⟩ : ∃ n, n = bs.length := ⟨_, rfl⟩
  have HN := hide hn
  rw [← hn] at hl HD hnc ⊢
  rw [show x.val = .agg #[.int .u8 x.a, .int .u8 x.b, .int .u8 x.c, .int .u8 x.d] from rfl, show y.val = .agg #[.int .u8 y.a, .int .u8 y.b, .int .u8 y.c, .int .u8 y.d] from rfl]
  have hs1' := hs1.symm
  have hs2' := hs2.symm
  have hw1' := hw1.symm
  have hw2' := hw2.symm
  clear c1 c2 b2 hs1 hs2 hw1 hw2 hb hB hn hF hT hE hD hx hy
  -- a wrong one's end
  have BAD : E ≠ 0 → F = 0 ∧ T = 0 ∧ D = [] := fun h => ⟨by rw [EF.out, if_neg h], by rw [ET.out, if_neg h], by rw [ED.out, if_neg h]⟩
  have HBAD := hide BAD
  clear BAD
  by_cases h1 : n < 8
  · have e : E = 3 := by rw [EE.out, udE, if_pos (by rw [← HN.out]; exact h1)]
    obtain ⟨eF, eT, eD⟩ := HBAD.out (by rw [e]; decide)
    subst e eF eT eD
    have z : (n : Int) < 8 := by omega
    go_enter Try.func11, Try.ntmps11
    go_upto_region 2 with fail
    clear hs1' hs2' hw1' hw2'
    go_wp2
    refine bodyPost_ret (v := .tuple #[.int .i64 0, .int .i64 0, .slice none 0 0, .int .i64 3]) (by simp [results, go_sem]) rfl ?_
    exact ⟨_, rfl, Gro.nil _ _, B2.out⟩
  have z1 : ¬ (n : Int) < 8 := by omega
  have AT : Hid (∀ (k : Nat) (W : World), k ≤ 6 → Below w2.heap.size w2 W → Calls Try.prog 31 #[.slice a n c, .int .i64 (k : Int)] W fun e w' => e = .returned (.int .i64 (w16 bs k)) ∧ Below W.heap.size W w') := fun k W hk hW => by
    have h := uAt_any (.slice a n c) bs (k : Int) W (HD.out.later hW) BY.out (by rw [← HN.out]; omega) (by omega)
    rw [rd16_at (by rw [← HN.out]; omega)] at h
    exact h
  obtain ⟨p0, hp0⟩ : ∃ p0, p0 = w16 bs 0 := ⟨_, rfl⟩
  obtain ⟨p2, hp2⟩ : ∃ p2, p2 = w16 bs 2 := ⟨_, rfl⟩
  obtain ⟨z, hz⟩ : ∃ z : Nat, w16 bs 4 = (z : Int) := ⟨(w16 bs 4).toNat, by rw [Int.toNat_of_nonneg (w16_bd BY.out 4).1]⟩
  have z6 : z ≤ 65535 := by have := (w16_bd BY.out 4).2; omega
  have A0 := hide (AT.out 0 w2 (by omega) (Below.refl _ _))
  rw [← hp0] at A0 EF
  rw [← hp2] at ET
  rw [hz, Int.toNat_natCast] at ED
  have E2 : Hid (E = if (z : Int) < 8 ∨ (n : Int) < (z : Int) then 4 else if uSm x y (bs.take z) = false then 5 else if prt p0 = false ∨ prt p2 = false then 1 else 0) := by
    unfold Hid
    rw [EE.out, udE, if_neg (by rw [← HN.out]; exact h1), hz, Int.toNat_natCast, ← HN.out, ← hp0, ← hp2]
  have HP2 := hide hp2
  have HZ := hide hz
  clear hp0 hp2 hz
  go_enter Try.func11, Try.ntmps11
  go_wp2_with fail
  clear hs1' hs2' hw1' hw2'
  refine A0.out.mono ?_
  rintro _ w3 ⟨rfl, b3⟩
  have A2 := hide (AT.out 2 w3 (by omega) b3)
  rw [← HP2.out] at A2
  have B3 := hide b3
  clear b3 A0
  go_wp2_with fail
  refine A2.out.mono ?_
  rintro _ w4 ⟨rfl, b4⟩
  have B4 := hide (later B3.out b4)
  have A4 := hide (AT.out 4 w4 (by omega) B4.out)
  rw [HZ.out] at A4
  clear b4 A2 B3
  go_wp2_with fail
  refine A4.out.mono ?_
  rintro _ w5 ⟨rfl, b5⟩
  have B5 := hide (later B4.out b5)
  have BW := hide (later B2.out B5.out)
  clear b5 A4 B4
  by_cases h2 : z < 8
  · have e : E = 4 := by rw [E2.out, if_pos (.inl (by omega))]
    obtain ⟨eF, eT, eD⟩ := HBAD.out (by rw [e]; decide)
    subst e eF eT eD
    have z2 : (z : Int) < 8 := by omega
    go_wp2
    refine bodyPost_ret (v := .tuple #[.int .i64 0, .int .i64 0, .slice none 0 0, .int .i64 4]) (by simp [results, go_sem]) rfl ?_
    exact ⟨_, rfl, Gro.nil _ _, BW.out⟩
  have z2 : ¬ (z : Int) < 8 := by omega
  by_cases h3 : n < z
  · have e : E = 4 := by rw [E2.out, if_pos (.inr (by omega))]
    obtain ⟨eF, eT, eD⟩ := HBAD.out (by rw [e]; decide)
    subst e eF eT eD
    have z3 : (n : Int) < (z : Int) := by omega
    go_wp2
    refine bodyPost_ret (v := .tuple #[.int .i64 0, .int .i64 0, .slice none 0 0, .int .i64 4]) (by simp [results, go_sem]) rfl ?_
    exact ⟨_, rfl, Gro.nil _ _, BW.out⟩
  have z3 : ¬ (n : Int) < (z : Int) := by omega
  rw [if_neg (show ¬ ((z : Int) < 8 ∨ (n : Int) < (z : Int)) by omega)] at E2
  obtain ⟨g, off, rfl⟩ : ∃ g off, a = some ⟨g, off, none⟩ := by
    obtain ⟨a', c, e, _, _, hc⟩ := HD.out
    simp only [Value.slice.injEq] at e
    obtain ⟨rfl, _, rfl⟩ := e
    obtain ⟨b', off', e, _⟩ := hc (by have := HN.out; omega)
    exact ⟨b', off', e⟩
  have tl : (bs.take z).length = z := by rw [List.length_take]; have := HN.out; omega
  obtain ⟨sm, hsm⟩ : ∃ sm, sm = uSm x y (bs.take z) := ⟨_, rfl⟩
  have CS : Hid (∀ W, Below w5.heap.size w5 W → Calls Try.prog 32 #[x.val, y.val, .slice (some ⟨g, off, none⟩) z c] W fun e w' => e = .returned (.bool sm) ∧ Below W.heap.size W w') := fun W hW => by
    have h1 := (HD.out.later (later B5.out hW)).take z (by rw [← HN.out]; omega)
    have h := uSm_any x y XO.out YO.out (.slice (some ⟨g, off, none⟩) z c) (bs.take z) W h1 (BY.out.take z) (by rw [tl]; omega) (by rw [tl]; omega)
    rw [← hsm] at h
    exact h
  rw [← hsm] at E2
  have TL := hide tl
  clear tl hsm
  go_upto_region 7 with fail
  refine region_quiet_C (fun W => Below w5.heap.size w5 W) (by kernel_rfl) (by kernel_rfl) (later_drew _) ?_
  go_big_quiet_want
  refine quiet_pure (.agg (x.vals).toArray) (fun W hW => exec_loadA 23 4 aggI sizI _ rfl s1 0 rfl (x.vals) rfl (C1.out.later l1 (later B5.out hW))) ?_
  go_big_quiet_on
  simp only [Act.put, List.setIfInBounds_toArray, List.set_cons_succ, List.set_cons_zero]
  go_big_quiet_want
  refine quiet_pure (.agg (y.vals).toArray) (fun W hW => exec_loadA 23 4 aggI sizI _ rfl s2 0 rfl (y.vals) rfl (C2.out.later l2 (later B5.out hW))) ?_
  go_big_quiet_on
  simp only [Act.put, List.setIfInBounds_toArray, List.set_cons_succ, List.set_cons_zero]
  go_big_quiet_step (fail)
  go_big_quiet_step (fail)
  go_big_quiet_want
  refine quiet_pure (.slice (some ⟨g, off, none⟩) z c) (fun W hW => exec_slU _ _ _ n c z rfl rfl rfl (by omega)) ?_
  go_big_quiet_on
  simp only [Act.put, List.setIfInBounds_toArray, List.set_cons_succ, List.set_cons_zero]
  go_big_quiet_want
  refine quiet_call 32 #[.agg x.vals.toArray, .agg y.vals.toArray, .slice (some ⟨g, off, none⟩) z c] (.bool sm) (fun _ => by simp [Act.eval, go_sem]) (fun W hW => (CS.out W hW).mono fun e w' h => ⟨h.1, later hW h.2⟩) ?_
  go_big_quiet_on
  simp only [Act.put, List.setIfInBounds_toArray, List.set_cons_succ, List.set_cons_zero]
  go_big_quiet_want
  refine quiet_pure (.bool (!sm)) (fun W hW => exec_not _ _ sm rfl rfl) ?_
  go_big_quiet_on
  simp only [Act.put, List.setIfInBounds_toArray, List.set_cons_succ, List.set_cons_zero]
  go_big_quiet_step (fail)
  refine wpQuiet_nil ?_
  intro wq bq
  have B6 := hide (later B5.out bq)
  have BW6 := hide (later B2.out B6.out)
  clear bq CS B5 BW
  cases sm with
  | false =>
    have e : E = 5 := by rw [E2.out, if_pos rfl]
    obtain ⟨eF, eT, eD⟩ := HBAD.out (by rw [e]; decide)
    subst e eF eT eD
    go_wp2
    refine bodyPost_ret (v := .tuple #[.int .i64 0, .int .i64 0, .slice none 0 0, .int .i64 5]) (by simp [results, go_sem]) rfl ?_
    exact ⟨_, rfl, Gro.nil _ _, BW6.out⟩
  | true =>
  rw [if_neg (by decide)] at E2
  have M1 := hide (isPort_any p0 wq)
  have M2 := hide (isPort_any p2 wq)
  go_wp2_with fail
  refine M1.out.mono ?_
  rintro _ wx ⟨rfl, hw⟩
  rw [hw]
  clear hw wx
  cases hf : prt p0 with
  | false =>
    have e : E = 1 := by rw [E2.out, if_pos (.inl hf)]
    obtain ⟨eF, eT, eD⟩ := HBAD.out (by rw [e]; decide)
    subst e eF eT eD
    clear hf
    go_wp2
    refine bodyPost_ret (v := .tuple #[.int .i64 0, .int .i64 0, .slice none 0 0, .int .i64 1]) (by simp [results, go_sem]) rfl ?_
    exact ⟨_, rfl, Gro.nil _ _, BW6.out⟩
  | true =>
  go_wp2_with fail
  refine M2.out.mono ?_
  rintro _ wx ⟨rfl, hw⟩
  rw [hw]
  clear hw wx
  cases ht : prt p2 with
  | false =>
    have e : E = 1 := by rw [E2.out, if_pos (.inr ht)]
    obtain ⟨eF, eT, eD⟩ := HBAD.out (by rw [e]; decide)
    subst e eF eT eD
    clear hf ht
    go_wp2
    refine bodyPost_ret (v := .tuple #[.int .i64 0, .int .i64 0, .slice none 0 0, .int .i64 1]) (by simp [results, go_sem]) rfl ?_
    exact ⟨_, rfl, Gro.nil _ _, BW6.out⟩
  | true =>
  have e : E = 0 := by rw [E2.out, if_neg (by rw [hf, ht]; decide)]
  rw [if_pos e] at EF ET ED
  have eF := EF.out
  have eT := ET.out
  subst e eF eT
  obtain ⟨ad, had⟩ : ∃ ad, ad = if c = 8 then some (⟨g, off, none⟩ : Addr) else some ⟨g, off + 8, none⟩ := ⟨_, rfl⟩
  have CL : Hid (Calls Try.prog 33 #[.slice ad (z - 8) (c - 8)] wq fun e W' => ∃ v, e = .returned v ∧ Gro wq.heap.size W' v D ∧ Below wq.heap.size wq W') := by
    rw [ED.out]
    have h1 := ((HD.out.later B6.out).take z (by rw [← HN.out]; omega)).drop 8 (by rw [TL.out]; omega)
    rw [drop_addr, ← had] at h1
    refine Clone_any _ _ wq h1 (by rw [List.length_drop, TL.out]; omega) (fun a n c e => ?_)
    simp only [Value.slice.injEq] at e
    rw [← e.1, had]
    split <;> simp
  have HAD := hide had
  clear hf ht had M1 M2
  go_wp2_with (refine wpList_val rfl (exec_slLH _ _ g off n c 8 z 8 rfl ad HAD.out rfl (fun _ => rfl) rfl rfl (by omega) (by omega)) ?_)
  refine CL.out.mono ?_
  rintro _ w8 ⟨v8, rfl, g8, b8⟩
  have G8 : Hid (Gro w.heap.size w8 v8 D) := g8.low BW6.out.size
  have B8 := hide (later BW6.out b8)
  obtain ⟨a8, c8, rfl, _⟩ := g8.isB.shape
  clear g8 b8 CL
  go_wp2
  refine bodyPost_ret (v := .tuple #[.int .i64 F, .int .i64 T, .slice a8 D.length c8, .int .i64 0]) (by simp [results, go_sem]) rfl ?_
  exact ⟨_, rfl, G8.out, B8.out⟩
end Go.Proofs.Ythjeaebpboilpaa
