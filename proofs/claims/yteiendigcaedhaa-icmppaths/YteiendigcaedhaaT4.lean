
/-
  Package icmp: Decode.
-/
import Derived.Test.YteiendigcaedhaaT3
namespace Go.Proofs.Yteiendigcaedhaa
open Go.RowKit Go.Shelf

theorem results_2 {fn : Func} {p a : Tmp} {T : TypeId} (h : fn.results = #[.cell p T, .tmp a]) (tmps : Array Value) (w : World) (s : Nat) (v va : Value) (hp : tmps.getD p undef = .pointer (some ⟨s, 0, none⟩)) (ha : tmps.getD a undef = va) (hL : (loadVar T ⟨s, 0, none⟩).run Try.prog w = .ok v w) : (results fn tmps).run Try.prog w = .ok (.tuple #[v, va]) w := by
  have hp' : (asAddr (tmps.getD p undef)).run Try.prog w = .ok ⟨s, 0, none⟩ w := by rw [hp]; rfl
  have hp2 : (asAddr (tmps[p]?.getD undef)).run Try.prog w = .ok ⟨s, 0, none⟩ w := by simpa using hp'
  have ha' : tmps[a]?.getD undef = va := by simpa using ha
  simp only [results, h]
  simp [Sem.run_bind, Result.andThen, hp2, hL, ha']
theorem exec_zC {o : Oper} {w : World} {ev : Operand → Value} (ho : o.op = .build 24 #[]) : (execOp ev o).run Try.prog w = .ok (.value (.agg zIm.toArray)) w := by
  unfold execOp
  rw [ho]
  kernel_rfl
/-- a message in numbers -/
structure Ms where
  t : Int
  c : Int
  i : Int
  s : Int
  u : Int
  d : List Int
def Ms.cells (m : Ms) (dv : Value) : List Value := imL m.t m.c m.i m.s m.u dv
def zMs : Ms := ⟨0, 0, 0, 0, 0, []⟩
/-- what the bytes say -/
def rdM (bs : List Int) : Ms := ⟨nb bs 0, nb bs 1, w16 bs 4, rdS bs, rdU bs, bs.drop 8⟩
def Ms.may (m : Ms) : Bool := mbI m.t m.c m.i m.s m.u
def idE (bs : List Int) : Int := if bs.length < 8 then 3 else if 1024 < bs.length then 2 else if csum bs ≠ 0 then 5 else if (rdM bs).may = false then 4 else 0
def idM (bs : List Int) : Ms := if idE bs = 0 then rdM bs else zMs
set_option maxRecDepth 100000 in
set_option maxHeartbeats 4000000 in
theorem icDec_any (v : Value) (bs : List Int) (w : World) (hb : IsB w.heap.size w v bs) (hB : Bytes bs) (hl : (bs.length : Int) ≤ 4611686018427387904) :
    Calls Try.prog 12 #[v] w fun e w' => ∃ ad on oc, e = .returned (.tuple #[.agg ((idM bs).cells (.slice ad on oc)).toArray, .int .i64 (idE bs)]) ∧ Gro w.heap.size w' (.slice ad on oc) (idM bs).d ∧ Below w.heap.size w w' := by
  obtain ⟨a, cap, rfl, _⟩ := hb.shape
  obtain ⟨n, hn⟩ : ∃ n, n = bs.length := ⟨_, rfl⟩
  obtain ⟨M, hM⟩ : ∃ M, M = idM bs := ⟨_, rfl⟩
  obtain ⟨E, hE⟩ : ∃ E, E = idE bs := ⟨_, rfl⟩
  rw [← hM, ← hE]
  have ME : E ≠ 0 → M = zMs := fun h => by rw [hM, idM, if_neg (by rw [← hE]; exact h)]
  obtain ⟨s2, hs2⟩ : ∃ s2, s2 = w.heap.size := ⟨_, rfl⟩
  obtain ⟨w1, hw1⟩ : ∃ w1, w1 = w.alloc (.cells zIm.toArray 24) := ⟨_, rfl⟩
  have b1 : Below w.heap.size w w1 := by rw [hw1]; exact later_alloc _ _
  have c1 : CellsAt w1 s2 0 zIm := by rw [hw1, hs2]; exact CellsAt.new w _ _
  have f1 : ∀ y, w1.frozen? ⟨s2, y, none⟩ = false := fun y => by rw [hw1, hs2]; exact frozen_new w _ _ _
  have l1 : s2 < w1.heap.size := by rw [hw1, hs2]; simp
  have HB1 := hide b1
  have C1 := hide c1
  have F1 := hide f1
  have HS2 := hide hs2
  have HN := hide hn
  have BY := hide hB
  have HI := hide (hb.later b1)
  have HL := hide hl
  -- a wrong one's end
  have FIN : ∀ W, Below w1.heap.size w1 W → ∃ W', W.setCells s2 0 zIm = W' ∧ CellsAt W s2 0 zIm ∧ (∀ y, W.frozen? ⟨s2, y, none⟩ = false) ∧ CellsAt W' s2 0 zIm ∧ Below w.heap.size w W' := fun W hW => by
    have bo := But.cells s2 zIm 0 W
    have h := HB1.out.trans (hW.mono HB1.out.size)
    refine ⟨_, rfl, C1.out.later l1 hW, fun y => (hW.frozen (p := ⟨s2, y, none⟩) l1).trans (F1.out y), (C1.out.later l1 hW).stored rfl, h.trans (bo.below h.size (fun g hg e => by have e : g = s2 := e; have := HS2.out; omega))⟩
  have HFIN := hide FIN
  have hw1' := hw1.symm
  simp only [zIm, imL] at hw1'
  have hs2' := hs2.symm
  rw [← hn] at HI HL ⊢
  by_cases h1 : n < 8
  · have e : E = 3 := by rw [hE, idE, if_pos (by omega)]
    subst e
    have HM : Hid (M = zMs) := ME (by decide)
    have z : (n : Int) < 8 := by omega
    clear hb hB hl hn hM hE ME b1 c1 f1 hw1 hs2 h1 FIN
    go_enter Try.func12, Try.ntmps12
    go_upto_region 2 with fail
    clear hw1' hs2'
    obtain ⟨w9, hw9, k1, k2, k3, k4⟩ := HFIN.out w1 (Below.refl _ _)
    have K1 := hide k1
    have K2 := hide k2
    have K3 := hide k3
    have K4 := hide k4
    clear k1 k2 k3 k4
    go_wp2_with (first | refine wpList_val rfl (exec_zC rfl) ?_ | (refine wpList_storeA rfl 24 6 sizC _ _ rfl s2 0 rfl zIm zIm rfl rfl rfl K1.out K2.out (im_one _ _ _ _ _ _ _ _) ?_; intro _; rw [hw9]))
    refine bodyPost_ret (v := .tuple #[.agg zIm.toArray, .int .i64 3]) (results_2 rfl _ _ s2 _ _ rfl rfl (run_loadVarA 24 6 aggC sizC s2 0 _ rfl K3.out)) rfl ?_
    exact ⟨none, 0, 0, (by rw [HM.out]; rfl), (by rw [HM.out]; exact Gro.nil _ _), K4.out⟩
  have z1 : ¬ (n : Int) < 8 := by omega
  by_cases h2 : 1024 < n
  · have e : E = 2 := by rw [hE, idE, if_neg (by omega), if_pos (by omega)]
    subst e
    have HM : Hid (M = zMs) := ME (by decide)
    have z : (1024 : Int) < (n : Int) := by omega
    clear hb hB hl hn hM hE ME b1 c1 f1 hw1 hs2 h1 h2 FIN
    go_enter Try.func12, Try.ntmps12
    go_upto_region 4 with fail
    clear hw1' hs2'
    obtain ⟨w9, hw9, k1, k2, k3, k4⟩ := HFIN.out w1 (Below.refl _ _)
    have K1 := hide k1
    have K2 := hide k2
    have K3 := hide k3
    have K4 := hide k4
    clear k1 k2 k3 k4
    go_wp2_with (first | refine wpList_val rfl (exec_zC rfl) ?_ | (refine wpList_storeA rfl 24 6 sizC _ _ rfl s2 0 rfl zIm zIm rfl rfl rfl K1.out K2.out (im_one _ _ _ _ _ _ _ _) ?_; intro _; rw [hw9]))
    refine bodyPost_ret (v := .tuple #[.agg zIm.toArray, .int .i64 2]) (results_2 rfl _ _ s2 _ _ rfl rfl (run_loadVarA 24 6 aggC sizC s2 0 _ rfl K3.out)) rfl ?_
    exact ⟨none, 0, 0, (by rw [HM.out]; rfl), (by rw [HM.out]; exact Gro.nil _ _), K4.out⟩
  have z2 : ¬ (1024 : Int) < (n : Int) := by omega
  have S1 := Sum1 (.slice a n cap) bs w1 HI.out hB (by omega)
  by_cases h3 : csum bs = 0
  · rw [h3] at S1
    have HS1 := hide S1
    obtain ⟨g, off, e, hg, _⟩ : ∃ g off, a = some ⟨g, off, none⟩ ∧ g < w1.heap.size ∧ True := by
      obtain ⟨a', cap', e, _, _, hc⟩ := HI.out
      simp only [Value.slice.injEq] at e
      obtain ⟨rfl, _, rfl⟩ := e
      obtain ⟨b', off', e, hb', _⟩ := hc (by omega)
      exact ⟨b', off', e, hb', trivial⟩
    subst e
    have RD : ∀ W, Below w1.heap.size w1 W → Calls Try.prog 38 #[.slice (some ⟨g, off, none⟩) n cap] W fun e w' => ∃ ad on oc, e = .returned (.agg ((rdM bs).cells (.slice ad on oc)).toArray) ∧ Gro W.heap.size w' (.slice ad on oc) (bs.drop 8) ∧ Below W.heap.size W w' := fun W hW => by
      have h := HI.out.later hW
      rw [HN.out] at h ⊢
      exact icRead_any g off cap bs W h BY.out (by have := HN.out; omega) (by have := HN.out; omega)
    have HRD := hide RD
    obtain ⟨R, hR⟩ : ∃ R, R = rdM bs := ⟨_, rfl⟩
    have EM : (R.may = false → E = 4) ∧ (R.may = true → E = 0 ∧ M = R) := by
      have e0 : idE bs = if R.may = false then 4 else 0 := by rw [idE, if_neg (by omega), if_neg (by omega), if_neg (by omega), hR]
      refine ⟨fun h => by rw [hE, e0, if_pos h], fun h => ?_⟩
      have e1 : idE bs = 0 := by rw [e0, if_neg (by rw [h]; decide)]
      exact ⟨by rw [hE, e1], by rw [hM, idM, if_pos e1, hR]⟩
    rw [← hR] at HRD
    have DR : Hid (R.d = bs.drop 8) := by rw [hR]; exact rfl
    obtain ⟨r, hr⟩ : ∃ r, r = R.may := ⟨_, rfl⟩
    have HR := hide hr
    clear hb hB hl hn hM hE b1 c1 f1 hw1 hs2 h1 h2 h3 S1 FIN RD hR
    go_enter Try.func12, Try.ntmps12
    go_wp2_with fail
    clear hw1' hs2'
    refine HS1.out.mono ?_
    rintro _ w2 ⟨rfl, b2⟩
    have R2 := hide (HRD.out w2 b2)
    have B2 := hide b2
    clear b2 HRD HS1
    go_wp2_with fail
    refine R2.out.mono ?_
    rintro _ w3 ⟨ad, on, oc, rfl, g3, b3⟩
    obtain ⟨X, hX⟩ : ∃ X, X = R.cells (.slice ad on oc) := ⟨_, rfl⟩
    rw [← hX]
    have LX : Hid (X.length = 6) := by rw [hX]; exact rfl
    have OX : Hid (∀ u ∈ X, u.oneCell' = true) := by rw [hX]; exact im_one _ _ _ _ _ _ _ _
    have MY : Hid (∀ W, Calls Try.prog 31 #[.agg X.toArray] W fun e w' => e = .returned (.bool r) ∧ Below W.heap.size W w') := fun W => by rw [hX, hr]; exact icMay_any R.t R.c R.i R.s R.u ad on oc W
    have HX := hide hX
    -- m
    obtain ⟨s4, hs4⟩ : ∃ s4, s4 = w3.heap.size := ⟨_, rfl⟩
    obtain ⟨u4, hu4⟩ : ∃ u4, u4 = w3.alloc (.cells zIm.toArray 24) := ⟨_, rfl⟩
    have bu4 : Below w3.heap.size w3 u4 := by rw [hu4]; exact later_alloc _ _
    have cu4 : CellsAt u4 s4 0 zIm := by rw [hu4, hs4]; exact CellsAt.new w3 _ _
    have fu4 : ∀ y, u4.frozen? ⟨s4, y, none⟩ = false := fun y => by rw [hu4, hs4]; exact frozen_new w3 _ _ _
    obtain ⟨w4, hw4⟩ : ∃ w4, w4 = u4.setCells s4 0 X := ⟨_, rfl⟩
    have bo4 := But.cells s4 X 0 u4
    rw [← hw4] at bo4
    have b34 : Below w3.heap.size w3 w4 := bu4.trans (bo4.below bu4.size (fun g hg e => by have e : g = s4 := e; omega))
    have c4 : CellsAt w4 s4 0 X := by rw [hw4]; exact cu4.stored (by rw [LX.out]; rfl)
    have l4 : s4 < w4.heap.size := c4.lt (by rw [LX.out]; decide)
    have G4 := hide (g3.later b34)
    have B4 : Hid (Below w1.heap.size w1 w4) := later B2.out (later b3 b34)
    have C4 := hide c4
    have CU4 := hide cu4
    have FU4 := hide fu4
    have L2 : Hid (w1.heap.size ≤ w2.heap.size) := B2.out.size
    have L3 : Hid (w2.heap.size ≤ w3.heap.size) := b3.size
    have ns : s2 ≠ s4 := by have := L2.out; have := L3.out; omega
    have hu4' := hu4.symm
    simp only [zIm, imL] at hu4'
    have hw4' := hw4.symm
    have hs4' := hs4.symm
    have HS4 := hide hs4
    clear hr hX hs4 hu4 hw4 bu4 cu4 fu4 bo4 b34 c4 g3 b3 R2
    go_upto_region 8 with (refine wpList_storeA rfl 24 6 sizC _ _ rfl s4 0 rfl X zIm rfl LX.out rfl CU4.out FU4.out OX.out ?_; intro _; rw [hw4'])
    clear hu4' hw4' hs4' CU4 FU4
    go_wp2_with (refine wpList_loadA rfl 24 6 aggC sizC _ rfl s4 0 rfl X LX.out C4.out ?_)
    refine (MY.out w4).mono ?_
    rintro _ w5 ⟨rfl, b5⟩
    have B5 : Hid (Below w1.heap.size w1 w5) := later B4.out b5
    have C5 := hide (C4.out.later l4 b5)
    have G5 := hide (G4.out.later b5)
    clear b5 MY
    cases r with
    | false =>
      have e : E = 4 := EM.1 HR.out.symm
      subst e
      have HM : Hid (M = zMs) := ME (by decide)
      clear ME EM
      go_upto_region 9 with fail
      obtain ⟨w9, hw9, k1, k2, k3, k4⟩ := HFIN.out w5 B5.out
      have K1 := hide k1
      have K2 := hide k2
      have K3 := hide k3
      have K4 := hide k4
      clear k1 k2 k3 k4
      go_wp2_with (first | refine wpList_val rfl (exec_zC rfl) ?_ | (refine wpList_storeA rfl 24 6 sizC _ _ rfl s2 0 rfl zIm zIm rfl rfl rfl K1.out K2.out (im_one _ _ _ _ _ _ _ _) ?_; intro _; rw [hw9]))
      refine bodyPost_ret (v := .tuple #[.agg zIm.toArray, .int .i64 4]) (results_2 rfl _ _ s2 _ _ rfl rfl (run_loadVarA 24 6 aggC sizC s2 0 _ rfl K3.out)) rfl ?_
      exact ⟨none, 0, 0, (by rw [HM.out]; rfl), (by rw [HM.out]; exact Gro.nil _ _), K4.out⟩
    | true =>
      obtain ⟨e, e2⟩ := EM.2 HR.out.symm
      subst e
      have HM := hide e2
      have k1 : Hid (CellsAt w5 s2 0 zIm) := C1.out.later l1 B5.out
      have k2 : Hid (∀ y, w5.frozen? ⟨s2, y, none⟩ = false) := fun y => (B5.out.frozen (p := ⟨s2, y, none⟩) l1).trans (F1.out y)
      obtain ⟨w6, hw6⟩ : ∃ w6, w6 = w5.setCells s2 0 X := ⟨_, rfl⟩
      have bo := But.cells s2 X 0 w5
      rw [← hw6] at bo
      have C6 : Hid (CellsAt w6 s2 0 X) := by rw [hw6]; exact k1.out.stored (by rw [LX.out]; rfl)
      have G6 : Hid (Gro w.heap.size w6 (.slice ad on oc) (bs.drop 8)) := by
        refine (G5.out.off bo (fun g' x y e e2 => ?_)).low (Nat.le_trans HB1.out.size L2.out)
        obtain ⟨_, ⟨h2, _⟩ | ⟨g'', cap', cur, e', hge, _⟩⟩ := G5.out
        · rw [e] at h2; cases h2
        · rw [e] at e'
          cases e'
          have := L2.out
          omega
      have B6 : Hid (Below w.heap.size w w6) := by
        have h := HB1.out.trans (B5.out.mono HB1.out.size)
        exact h.trans (bo.below h.size (fun g hg e => by have e : g = s2 := e; have := HS2.out; omega))
      have hw6' := hw6.symm
      clear bo hw6 ME EM e2
      go_upto_region 10 with fail
      refine wp_region_list ?_
      refine wpList_loadA rfl 24 6 aggC sizC _ rfl s4 0 rfl X LX.out C5.out ?_
      simp only [Act.put, List.setIfInBounds_toArray, List.set_cons_zero, List.set_cons_succ]
      refine wpList_storeA rfl 24 6 sizC _ _ rfl s2 0 rfl X zIm rfl LX.out rfl k1.out k2.out OX.out ?_
      intro _
      rw [hw6']
      clear hw6'
      simp only [Act.put]
      go_wp2
      refine bodyPost_ret (v := .tuple #[.agg X.toArray, .int .i64 0]) (results_2 rfl _ _ s2 _ _ rfl rfl (run_loadVarA 24 6 aggC sizC s2 0 _ LX.out C6.out)) rfl ?_
      exact ⟨ad, on, oc, (by rw [HM.out, HX.out]), (by rw [HM.out, DR.out]; exact G6.out), B6.out⟩
  · have e : E = 5 := by rw [hE, idE, if_neg (by omega), if_neg (by omega), if_pos h3]
    subst e
    have HM : Hid (M = zMs) := ME (by decide)
    obtain ⟨cs, hcs⟩ : ∃ cs, cs = csum bs := ⟨_, rfl⟩
    rw [← hcs] at S1 h3
    have z3 : (cs == 0) = false := by simpa using h3
    have HS1 := hide S1
    clear hb hB hl hn hM hE ME b1 c1 f1 hw1 hs2 h1 h2 h3 S1 FIN hcs
    go_enter Try.func12, Try.ntmps12
    go_wp2_with fail
    clear hw1' hs2'
    refine HS1.out.mono ?_
    rintro _ w2 ⟨rfl, b2⟩
    have B2 := hide b2
    clear b2 HS1
    have z4 : (cs != 0) = true := by rw [bne, z3]; rfl
    go_upto_region 6 with fail
    obtain ⟨w9, hw9, k1, k2, k3, k4⟩ := HFIN.out w2 B2.out
    have K1 := hide k1
    have K2 := hide k2
    have K3 := hide k3
    have K4 := hide k4
    clear k1 k2 k3 k4
    go_wp2_with (first | refine wpList_val rfl (exec_zC rfl) ?_ | (refine wpList_storeA rfl 24 6 sizC _ _ rfl s2 0 rfl zIm zIm rfl rfl rfl K1.out K2.out (im_one _ _ _ _ _ _ _ _) ?_; intro _; rw [hw9]))
    refine bodyPost_ret (v := .tuple #[.agg zIm.toArray, .int .i64 5]) (results_2 rfl _ _ s2 _ _ rfl rfl (run_loadVarA 24 6 aggC sizC s2 0 _ rfl K3.out)) rfl ?_
    exact ⟨none, 0, 0, (by rw [HM.out]; rfl), (by rw [HM.out]; exact Gro.nil _ _), K4.out⟩
end Go.Proofs.Yteiendigcaedhaa