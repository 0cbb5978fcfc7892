
/-
  Package tcp: Decode.
-/
import Derived.Test.YtggadchhkenipaaD11
namespace Go.Proofs.Ytggadchhkenipaa
open Go.RowKit Go.Shelf

/-- what the options say; what Decode answers -/
def tdR (bs : List Int) : Bool × Ro := rdO (hasB (w16 bs 12 % 32) 2) ((bs.take (hsN bs)).drop 20) ⟨0, false, []⟩
def tdE (x y : I4) (bs : List Int) : Int := if tfE x y bs ≠ 0 then tfE x y bs else if (tdR bs).1 = false then 140 else 0
def tdS (x y : I4) (bs : List Int) : Sg := if tdE x y bs = 0 then { (tdH bs).ro (tdR bs).2 with dat := bs.drop (hsN bs) } else zSg
theorem tfE_zero {x y : I4} {bs : List Int} (hB : Bytes bs) (h : tfE x y bs = 0) : 20 ≤ bs.length ∧ 20 ≤ hsN bs ∧ hsN bs ≤ bs.length ∧ bs.length ≤ hsN bs + 1024 ∧ csum (psB x y 6 (bs.length : Int) ++ bs) = 0 ∧ prt (w16 bs 0) = true ∧ prt (w16 bs 2) = true := by
  obtain ⟨b0, b1, b2⟩ := hs_bd hB
  unfold tfE at h
  split at h
  · cases h
  · split at h
    · cases h
    · split at h
      · cases h
      · split at h
        · cases h
        · split at h
          · cases h
          · rename_i h1 h2 h3 h4 h5
            refine ⟨by omega, by omega, by omega, by omega, Decidable.of_not_not h3, ?_, ?_⟩
            · cases e : prt (w16 bs 0) with
              | true => rfl
              | false => exact absurd (Or.inl e) h5
            · cases e : prt (w16 bs 2) with
              | true => rfl
              | false => exact absurd (Or.inr e) h5
theorem Gro.keepT {B : Nat} {K : Nat → Prop} {W W' : World} {v : Value} {bs : List Int} (h : Gro B W v bs) (hb : But K W W') (hk : ∀ g, B ≤ g → ¬ K g) : Gro B W' v bs := by
  obtain ⟨h1, ⟨e, h0⟩ | ⟨g, cap, cur, e, hg, hh, hc, hm, hs, ht⟩⟩ := h
  · exact ⟨h1, .inl ⟨e, h0⟩⟩
  · exact ⟨h1, .inr ⟨g, cap, cur, e, hg, (hb.block g (Array.getElem?_eq_some_iff.1 hh).1 (hk g hg)).trans hh, hc, hm, hs, ht⟩⟩
set_option maxRecDepth 100000 in
set_option maxHeartbeats 8000000 in
theorem tDec_any (x y : I4) (hx : x.Ok) (hy : y.Ok) (v : Value) (bs : List Int) (w : World) (hb : IsB w.heap.size w v bs) (hB : Bytes bs) (hl : bs.length ≤ 140737488355328) :
    Calls Try.prog 20 #[x.val, y.val, v] w fun e w' => ∃ gv dv, e = .returned (.tuple #[.agg ((tdS x y bs).cells gv dv).toArray, .int .i64 (tdE x y bs)]) ∧ CG (fun g => w.heap.size ≤ g) w' gv (tdS x y bs).got ∧ Gro w.heap.size w' dv (tdS x y bs).dat ∧ Below w.heap.size w w' := by
  obtain ⟨w1, w2, s1, s2, hs1, hw1, hs2, hw2, c1, c2, b2, l1, l2, _⟩ := twoI w x y
  obtain ⟨s6, hs6⟩ : ∃ s6, s6 = w2.heap.size := ⟨_, rfl⟩
  obtain ⟨w3, hw3⟩ : ∃ w3, w3 = w2.alloc (.cells (zSg.cells (.slice none 0 0) (.slice none 0 0)).toArray 26) := ⟨_, rfl⟩
  have b3 : Below w2.heap.size w2 w3 := by rw [hw3]; exact later_alloc _ _
  have c3 : CellsAt w3 s6 0 (zSg.cells (.slice none 0 0) (.slice none 0 0)) := by rw [hw3, hs6]; exact CellsAt.new w2 _ _
  have f3 : ∀ y, w3.frozen? ⟨s6, y, none⟩ = false := fun y => by rw [hw3, hs6]; exact frozen_new w2 _ _ _
  have l3 : s6 < w3.heap.size := by rw [hw3, hs6]; simp
  obtain ⟨a, c, rfl, hnc⟩ := hb.shape
  obtain ⟨X, hX⟩ : ∃ X, X = x.vals := ⟨_, rfl⟩
  obtain ⟨Y, hY⟩ : ∃ Y, Y = y.vals := ⟨_, rfl⟩
  have LX : Hid (X.length = 4) := by rw [hX]; exact rfl
  have LY : Hid (Y.length = 4) := by rw [hY]; exact rfl
  have C1 : Hid (CellsAt w3 s1 0 X) := by rw [hX]; exact c1.later l1 b3
  have C2 : Hid (CellsAt w3 s2 0 Y) := by rw [hY]; exact c2.later l2 b3
  have C6 := hide c3
  have F6 := hide f3
  have B3 := hide (later b2 b3)
  have HD := hide (hb.later B3.out)
  have S6 : Hid (w.heap.size ≤ s6) := by unfold Hid; rw [hs6]; exact b2.size
  have FT : Hid (Calls Try.prog 37 #[.agg X.toArray, .agg Y.toArray, .slice a bs.length c] w3 fun e w' => e = .returned (.int .i64 (tfE x y bs)) ∧ Below w3.heap.size w3 w') := by
    have h := faultOf_any x y hx hy _ bs w3 HD.out hB hl
    rw [show x.val = .agg X.toArray from by rw [hX]; rfl, show y.val = .agg Y.toArray from by rw [hY]; rfl] at h
    exact h
  have HT : Hid (20 ≤ bs.length → ∀ W, Below w3.heap.size w3 W → Calls Try.prog 38 #[.slice a bs.length c] W fun e w' => e = .returned (.agg ((tdH bs).cells (.slice none 0 0) (.slice none 0 0)).toArray) ∧ Below W.heap.size W w') := fun h W hW => headT_any _ bs W (HD.out.later hW) hB (by omega) h
  have HSZ : Hid (20 ≤ bs.length → ∀ W, Below w3.heap.size w3 W → Calls Try.prog 40 #[.slice a bs.length c] W fun e w' => e = .returned (.int .i64 ((hsN bs : Nat) : Int)) ∧ Below W.heap.size W w') := fun h W hW => by
    rw [(hs_bd hB).2.2]
    exact headSize_any _ bs W (HD.out.later hW) hB (by omega) (by omega)
  have TZ := hide (fun h => tfE_zero (x := x) (y := y) hB h)
  obtain ⟨S, hS⟩ : ∃ S, S = tdS x y bs := ⟨_, rfl⟩
  obtain ⟨E, hE⟩ : ∃ E, E = tdE x y bs := ⟨_, rfl⟩
  obtain ⟨f, hf⟩ : ∃ f, f = tfE x y bs := ⟨_, rfl⟩
  have ES : Hid (S = if E = 0 then { (tdH bs).ro (tdR bs).2 with dat := bs.drop (hsN bs) } else zSg) := by rw [hS, hE]; exact rfl
  have EE : Hid (E = if f ≠ 0 then f else if (tdR bs).1 = false then 140 else 0) := by rw [hE, hf]; exact rfl
  rw [← hS, ← hE]
  rw [← hf] at FT TZ
  have BY := hide hB
  obtain ⟨n, hn⟩ : ∃ n, n = bs.length := ⟨_, rfl⟩
  have HN := hide hn
  rw [← hn] at hl HD hnc FT HT HSZ TZ ⊢
  rw [show x.val = .agg #[.int .u8 x.a, .int .u8 x.b, .int .u8 x.c, .int .u8 x.d] from rfl, show y.val = .agg #[.int .u8 y.a, .int .u8 y.b, .int .u8 y.c, .int .u8 y.d] from rfl]
  have hs1' := hs1.symm
  have hs2' := hs2.symm
  have hw1' := hw1.symm
  have hw2' := hw2.symm
  have hs6' := hs6.symm
  have hw3' : w2.alloc (.cells #[.int .i64 0, .int .i64 0, .int .u32 0, .int .u32 0, .int .i64 0, .int .i64 0, .int .i64 0, .bool false, .slice none 0 0, .slice none 0 0] 26) = w3 := by rw [hw3]; rfl
  obtain ⟨ZC, hZC⟩ : ∃ ZC, ZC = zSg.cells (.slice none 0 0) (.slice none 0 0) := ⟨_, rfl⟩
  have LZC : Hid (ZC.length = 10) := by rw [hZC]; exact rfl
  have OZC : Hid (∀ u ∈ ZC, u.oneCell' = true) := by rw [hZC]; exact sg_one _ _ _ rfl rfl
  have BLZ : Hid (∀ (o : Oper) (ev : Operand → Value) (W : World), o.op = .build 26 #[] → (execOp ev o).run Try.prog W = .ok (.value (.agg ZC.toArray)) W) := fun o ev W ho => by rw [hZC]; exact exec_bldZ ho
  have HZC := hide hZC
  clear c1 c2 b2 hs1 hs2 hw1 hw2 hX hY hb hB hn hE hS hf hx hy hs6 hw3 b3 c3 f3 hZC
  -- what a zero answer leaves
  have ZERO : Hid (∀ W, Below w3.heap.size w3 W → CellsAt W s6 0 ZC ∧ (∀ y, W.frozen? ⟨s6, y, none⟩ = false) ∧ CellsAt (W.setCells s6 0 ZC) s6 0 ZC ∧ Below w.heap.size w (W.setCells s6 0 ZC)) := fun W hW => by
    have hc : CellsAt W s6 0 ZC := by rw [HZC.out]; exact C6.out.later l3 hW
    have bw := later B3.out hW
    exact ⟨hc, fun y => (hW.frozen (p := ⟨s6, y, none⟩) l3).trans (F6.out y), hc.stored rfl, bw.trans ((But.cells s6 ZC 0 W).below bw.size (fun g hg e => by have e : g = s6 := e; have := S6.out; omega))⟩
  go_enter Try.func20, Try.ntmps20
  go_upto_region 1 with fail
  clear hs1' hs2' hw1' hw2' hs6' hw3'
  go_wp2_with (first | refine wpList_loadA rfl 35 4 aggI sizI _ rfl s1 0 rfl X LX.out C1.out ?_ | refine wpList_loadA rfl 35 4 aggI sizI _ rfl s2 0 rfl Y LY.out C2.out ?_)
  refine FT.out.mono ?_
  rintro _ w4 ⟨rfl, b4⟩
  have B4 := hide b4
  clear b4 FT C1 C2
  by_cases h1 : f = 0
  case neg =>
    have e : E = f := by rw [EE.out, if_pos h1]
    have eS : S = zSg := by rw [ES.out, if_neg (by rw [e]; exact h1)]
    have q : (f != 0) = true := by simpa using h1
    obtain ⟨z1, z2, z3, z4⟩ := ZERO.out w4 B4.out
    have Z1 := hide z1
    have Z2 := hide z2
    have Z3 := hide z3
    have Z4 := hide z4
    obtain ⟨wz, hwz⟩ : ∃ wz, wz = w4.setCells s6 0 ZC := ⟨_, rfl⟩
    rw [← hwz] at Z3 Z4
    have hwz' := hwz.symm
    subst eS e
    clear z1 z2 z3 z4 h1 hwz
    go_wp2_with (first | refine wpList_val rfl (BLZ.out _ _ _ rfl) ?_ | (refine wpList_storeA rfl 26 10 sizSg _ _ rfl s6 0 rfl ZC ZC rfl LZC.out LZC.out Z1.out Z2.out OZC.out ?_; intro _; rw [hwz']))
    refine bodyPost_ret (v := .tuple #[.agg ZC.toArray, .int .i64 E]) (results_2 rfl _ _ s6 _ _ rfl rfl (run_loadVarA 26 10 aggSg sizSg s6 0 _ LZC.out Z3.out)) rfl ?_
    exact ⟨_, _, by rw [HZC.out], CG.nil _ _, Gro.nil _ _, Z4.out⟩
  have q : (f != 0) = false := by rw [h1]; rfl
  obtain ⟨t1, t2, t3, t4, _, _, _⟩ := TZ.out h1
  have EE2 : Hid (E = if (tdR bs).1 = false then 140 else 0) := by unfold Hid; rw [EE.out, if_neg (by rw [h1]; decide)]
  obtain ⟨H, hH⟩ : ∃ H, H = hsN bs := ⟨_, rfl⟩
  rw [← hH] at t2 t3 t4 HSZ ES
  have HHS := hide hH
  have HT4 := hide (HT.out t1 w4 B4.out)
  have HSZ2 := hide (HSZ.out t1)
  obtain ⟨hd, hhd⟩ : ∃ hd, hd = tdH bs := ⟨_, rfl⟩
  have HHD := hide hhd
  obtain ⟨K, hK⟩ : ∃ K, K = hd.cells (.slice none 0 0) (.slice none 0 0) := ⟨_, rfl⟩
  have LK : Hid (K.length = 10) := by rw [hK]; exact rfl
  have OK : Hid (∀ u ∈ K, u.oneCell' = true) := by rw [hK]; exact sg_one _ _ _ rfl rfl
  rw [← hhd, ← hK] at HT4
  have HK := hide hK
  clear h1 TZ EE hH HSZ HT hhd hK
  go_wp2_with fail
  refine HT4.out.mono ?_
  rintro _ w5 ⟨rfl, b5⟩
  have B5 := hide (later B4.out b5)
  obtain ⟨s9, hs9⟩ : ∃ s9, s9 = w5.heap.size := ⟨_, rfl⟩
  obtain ⟨w6, hw6⟩ : ∃ w6, w6 = w5.alloc (.cells ZC.toArray 26) := ⟨_, rfl⟩
  have b6 : Below w5.heap.size w5 w6 := by rw [hw6]; exact later_alloc _ _
  have c6 : CellsAt w6 s9 0 ZC := by rw [hw6, hs9]; exact CellsAt.new w5 _ _
  have f6 : ∀ y, w6.frozen? ⟨s9, y, none⟩ = false := fun y => by rw [hw6, hs9]; exact frozen_new w5 _ _ _
  obtain ⟨w7, hw7⟩ : ∃ w7, w7 = w6.setCells s9 0 K := ⟨_, rfl⟩
  have n7 : But (Only s9) w6 w7 := by rw [hw7]; exact But.cells s9 K 0 w6
  have C7 : Hid (CellsAt w7 s9 0 K) := by rw [hw7]; exact c6.stored (by rw [LK.out, LZC.out])
  have F7 : Hid (∀ y, w7.frozen? ⟨s9, y, none⟩ = false) := fun y => by
    rw [hw7, World.frozen?_setCells]
    exact f6 y
  have l9 : s9 < w7.heap.size := C7.out.lt (by rw [LK.out]; decide)
  have B7 : Hid (Below w3.heap.size w3 w7) := (later B5.out b6).trans (n7.below (later B5.out b6).size (fun g hg e => by have e : g = s9 := e; have := B5.out.size; omega))
  have S9 : Hid (w3.heap.size ≤ s9) := by unfold Hid; rw [hs9]; exact B5.out.size
  have C6' := hide c6
  have F6' := hide f6
  have H7 := hide (HSZ2.out w7 B7.out)
  have hs9' := hs9.symm
  have hw6' : w5.alloc (.cells #[.int .i64 0, .int .i64 0, .int .u32 0, .int .u32 0, .int .i64 0, .int .i64 0, .int .i64 0, .bool false, .slice none 0 0, .slice none 0 0] 26) = w6 := by rw [hw6, HZC.out]; rfl
  have hw7' := hw7.symm
  clear b5 hs9 hw6 b6 c6 f6 hw7 n7 HT4
  go_wp2_with (refine wpList_storeA rfl 26 10 sizSg _ _ rfl s9 0 rfl K ZC rfl LK.out LZC.out C6'.out F6'.out OK.out ?_; intro _; rw [hw7'])
  clear hs9' hw6' hw7' C6' F6'
  refine H7.out.mono ?_
  rintro _ w8 ⟨rfl, b8⟩
  have B8 := hide (later B7.out b8)
  have C8 := hide (C7.out.later l9 b8)
  have F8 : Hid (∀ y, w8.frozen? ⟨s9, y, none⟩ = false) := fun y => (b8.frozen (p := ⟨s9, y, none⟩) l9).trans (F7.out y)
  have l98 : s9 < w8.heap.size := Nat.lt_of_lt_of_le l9 b8.size
  obtain ⟨g, off, rfl⟩ : ∃ g off, a = some ⟨g, off, none⟩ := by
    obtain ⟨a', c, e, _, _, hc⟩ := HD.out
    simp only [Value.slice.injEq] at e
    obtain ⟨rfl, _, rfl⟩ := e
    obtain ⟨b', off', e, _⟩ := hc (by have := HN.out; omega)
    exact ⟨b', off', e⟩
  have hgl : g < w3.heap.size := by
    obtain ⟨a', c, e, _, _, hc⟩ := HD.out
    simp only [Value.slice.injEq] at e
    obtain ⟨rfl, _, rfl⟩ := e
    obtain ⟨b', off', e, h, _⟩ := hc (by have := HN.out; omega)
    cases e
    exact h
  obtain ⟨ad, had⟩ : ∃ ad, ad = if c = 20 then some (⟨g, off, none⟩ : Addr) else some ⟨g, off + 20, none⟩ := ⟨_, rfl⟩
  obtain ⟨ob, hob⟩ : ∃ ob, ob = (bs.take H).drop 20 := ⟨_, rfl⟩
  have RO := readOptions_any (w := w8) s9 hd (.slice none 0 0) ⟨by have h := C8.out; rw [HK.out, HHD.out] at h; rw [HHD.out]; exact h, F8.out⟩ l98 ⟨_, _, _, rfl⟩ (.slice ad (H - 20) (c - 20)) ob (by
    have h1 := ((HD.out.later B8.out).take H (by rw [← HN.out]; omega)).drop 20 (by rw [List.length_take, ← HN.out]; omega)
    rw [drop_addrT, ← had, ← hob] at h1
    exact h1) (fun g' off' n' c' e => by
      simp only [Value.slice.injEq] at e
      have e1 := e.1
      rw [had] at e1
      have := S9.out
      split at e1 <;> (cases e1; omega)) (by rw [hob]; exact (BY.out.take _).drop _) (by rw [hob, List.length_drop, List.length_take]; have := (hs_bd BY.out).2.1; have := (hs_bd BY.out).2.2; rw [← HHS.out] at this; omega)
  obtain ⟨R, hR⟩ : ∃ R, R = tdR bs := ⟨_, rfl⟩
  have ER : rdO (hasB hd.flg 2) ob ⟨0, false, []⟩ = R := by rw [hR, hob, HHD.out, HHS.out]; exact rfl
  rw [ER] at RO
  rw [← hR] at EE2 ES
  have HRO := hide RO
  have HAD := hide had
  clear b8 H7 had hob RO hR ER
  go_wp2_with (refine wpList_val rfl (exec_slLH _ _ g off n c 20 H 20 rfl ad HAD.out rfl (fun _ => rfl) rfl rfl (by omega) (by omega)) ?_)
  refine HRO.out.mono ?_
  rintro _ w9 ⟨rfl, rm9, n9⟩
  have b9 : Below w3.heap.size w3 w9 := B8.out.trans (n9.below B8.out.size (fun q hq e => by have e : q = s9 := e; have := S9.out; omega))
  have B9 := hide b9
  have RM := hide rm9
  obtain ⟨R1, hR1⟩ : ∃ R1, R1 = R.1 := ⟨_, rfl⟩
  rw [← hR1] at EE2 ⊢
  have S8 : Hid (w.heap.size ≤ w8.heap.size) := by unfold Hid; have := B3.out.size; have := B8.out.size; omega
  have l99 : s9 < w9.heap.size := Nat.lt_of_lt_of_le l98 n9.size
  clear b9 rm9 n9 hR1 HRO
  cases R1 with
  | false =>
    have e : E = 140 := by rw [EE2.out, if_pos rfl]
    have eS : S = zSg := by rw [ES.out, if_neg (by rw [e]; decide)]
    obtain ⟨z1, z2, z3, z4⟩ := ZERO.out w9 B9.out
    have Z1 := hide z1
    have Z2 := hide z2
    have Z3 := hide z3
    have Z4 := hide z4
    obtain ⟨wz, hwz⟩ : ∃ wz, wz = w9.setCells s6 0 ZC := ⟨_, rfl⟩
    rw [← hwz] at Z3 Z4
    have hwz' := hwz.symm
    subst eS e
    clear z1 z2 z3 z4 hwz
    go_wp2_with (first | refine wpList_val rfl (BLZ.out _ _ _ rfl) ?_ | (refine wpList_storeA rfl 26 10 sizSg _ _ rfl s6 0 rfl ZC ZC rfl LZC.out LZC.out Z1.out Z2.out OZC.out ?_; intro _; rw [hwz']))
    refine bodyPost_ret (v := .tuple #[.agg ZC.toArray, .int .i64 140]) (results_2 rfl _ _ s6 _ _ rfl rfl (run_loadVarA 26 10 aggSg sizSg s6 0 _ LZC.out Z3.out)) rfl ?_
    exact ⟨_, _, by rw [HZC.out], CG.nil _ _, Gro.nil _ _, Z4.out⟩
  | true =>
  have e : E = 0 := by rw [EE2.out, if_neg (by decide)]
  have eS : S = { hd.ro R.2 with dat := bs.drop H } := by rw [ES.out, if_pos e, HHD.out]
  have HES := hide eS
  subst e
  have H9 := hide (HSZ2.out w9 B9.out)
  clear eS ES EE2 ZERO
  go_wp2_with fail
  refine H9.out.mono ?_
  rintro _ wa ⟨rfl, ba⟩
  have BA := hide (later B9.out ba)
  obtain ⟨gv, hcl, hgr⟩ := RM.out.row
  have CA := hide (hcl.later l99 ba)
  have GA := hide (hgr.later ba)
  have FA : Hid (∀ y, wa.frozen? ⟨s9, y, none⟩ = false) := fun y => (ba.frozen (p := ⟨s9, y, none⟩) l99).trans (RM.out.fz y)
  have l9a : s9 < wa.heap.size := Nat.lt_of_lt_of_le l99 ba.size
  obtain ⟨ga, gc, rfl⟩ := hgr.shape
  obtain ⟨ae, hae⟩ : ∃ ae, ae = if c = H then some (⟨g, off, none⟩ : Addr) else some ⟨g, off + H, none⟩ := ⟨_, rfl⟩
  obtain ⟨D, hD⟩ : ∃ D, D = bs.drop H := ⟨_, rfl⟩
  have CL := Clone_any (.slice ae (n - H) (c - H)) D wa (by
    have h1 := (HD.out.later BA.out).drop H (by rw [← HN.out]; omega)
    rw [drop_addrT, ← hae, ← hD] at h1
    exact h1) (by rw [hD, List.length_drop]; have := HN.out; omega) (fun a' n' c' e => by
      simp only [Value.slice.injEq] at e
      rw [← e.1, hae]
      split <;> simp)
  have HCL := hide CL
  have HAE := hide hae
  have HDD := hide hD
  clear ba H9 hcl hgr CL hae hD
  go_wp2_with (refine wpList_val rfl (exec_slV _ _ g off n c H ae HAE.out rfl rfl rfl (by omega)) ?_)
  refine HCL.out.mono ?_
  rintro _ wb ⟨vb, rfl, gb, bb⟩
  obtain ⟨va, vc, rfl, _⟩ := gb.isB.shape
  have BB := hide (later BA.out bb)
  have CB' := hide (CA.out.later l9a bb)
  have FB : Hid (∀ y, wb.frozen? ⟨s9, y, none⟩ = false) := fun y => (bb.frozen (p := ⟨s9, y, none⟩) l9a).trans (FA.out y)
  have G1 := hide (GA.out.later bb)
  have k9 : wb.cell? ⟨s9, 9, none⟩ = some (.slice none 0 0) := CB'.out 9 _ rfl
  have f9 := FB.out 9
  obtain ⟨wd, hwd⟩ : ∃ wd, wd = wb.setCell ⟨s9, 9, none⟩ (.slice va D.length vc) := ⟨_, rfl⟩
  have nd : But (Only s9) wb wd := by rw [hwd]; exact (But.refl (Only s9) wb).setCell (p := ⟨s9, 9, none⟩) (.inr rfl) _
  obtain ⟨K2, hK2⟩ : ∃ K2, K2 = S.cells (.slice ga R.2.got.length gc) (.slice va D.length vc) := ⟨_, rfl⟩
  have LK2 : Hid (K2.length = 10) := by rw [hK2]; exact rfl
  have OK2 : Hid (∀ u ∈ K2, u.oneCell' = true) := by rw [hK2]; exact sg_one _ _ _ rfl rfl
  have CD : Hid (CellsAt wd s9 0 K2) := by
    rw [hK2, HES.out, hwd]
    exact CB'.out.set 9 _
  have BD : Below w3.heap.size w3 wd := BB.out.trans (nd.below BB.out.size (fun q hq e => by have e : q = s9 := e; have := S9.out; omega))
  have z6 : CellsAt wd s6 0 ZC := by rw [HZC.out]; exact C6.out.later l3 BD
  have fz6 : ∀ y, wd.frozen? ⟨s6, y, none⟩ = false := fun y => (BD.frozen (p := ⟨s6, y, none⟩) l3).trans (F6.out y)
  obtain ⟨we, hwe⟩ : ∃ we, we = wd.setCells s6 0 K2 := ⟨_, rfl⟩
  have ne : But (Only s6) wd we := by rw [hwe]; exact But.cells s6 K2 0 wd
  have CE : Hid (CellsAt we s6 0 K2) := by rw [hwe]; exact z6.stored (by rw [LK2.out, LZC.out])
  have bw3 := later B3.out BD
  have BE : Hid (Below w.heap.size w we) := bw3.trans (ne.below bw3.size (fun q hq e => by have e : q = s6 := e; have := S6.out; omega))
  have GE : Hid (CG (fun g => w.heap.size ≤ g) we (.slice ga R.2.got.length gc) R.2.got) := by
    have h2 := (G1.out.but nd (fun q e e2 => by have e2 : q = s9 := e2; have := e.1; have := l98; omega)).but ne (fun q e e2 => by have e2 : q = s6 := e2; have := e.1; have := l3; have := B8.out.size; omega)
    exact h2.own (fun q _ e => Nat.le_trans S8.out e.1)
  have GD : Hid (Gro w.heap.size we (.slice va D.length vc) D) := by
    have zb : w.heap.size ≤ wa.heap.size := (later B3.out BA.out).size
    have h1 : ∀ W q, Gro wa.heap.size W (.slice va D.length vc) D → q < wa.heap.size → ∀ W', But (Only q) W W' → Gro wa.heap.size W' (.slice va D.length vc) D := fun W q h hq W' hb => h.keepT hb (fun r hr e => by have e : r = q := e; omega)
    exact (h1 _ _ (h1 _ _ gb l9a _ nd) (by have := BA.out.size; omega) _ ne).low zb
  have NG : Hid (S.got = R.2.got ∧ S.dat = D) := by rw [HES.out, HDD.out]; exact ⟨rfl, rfl⟩
  have HK2 := hide hK2
  have Z6 := hide z6
  have FZ6 := hide fz6
  have hwe' := hwe.symm
  have hwd' := hwd.symm
  clear gb bb HCL CA FA GA hwd nd hK2 BD z6 fz6 hwe ne bw3
  go_wp2_with (first | refine wpList_loadA rfl 26 10 aggSg sizSg _ rfl s9 0 rfl K2 LK2.out CD.out ?_ | (refine wpList_storeA rfl 26 10 sizSg _ _ rfl s6 0 rfl K2 ZC rfl LK2.out LZC.out Z6.out FZ6.out OK2.out ?_; intro _; rw [hwe']))
  refine bodyPost_ret (v := .tuple #[.agg K2.toArray, .int .i64 0]) (results_2 rfl _ _ s6 _ _ rfl rfl (run_loadVarA 26 10 aggSg sizSg s6 0 _ LK2.out CE.out)) rfl ?_
  exact ⟨_, _, by rw [HK2.out], by rw [NG.out.1]; exact GE.out, by rw [NG.out.2]; exact GD.out, BE.out⟩
end Go.Proofs.Ytggadchhkenipaa
