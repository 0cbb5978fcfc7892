
/-
  The document's paths: Learn.
-/
import Derived.Test.YteiendigcaedhaaT29
namespace Go.Proofs.Yteiendigcaedhaa
open Go.RowKit Go.Shelf

theorem info_path : (Try.prog.info? 91).map (fun i => (i.zero, i.size, i.bytes)) = some (some (.agg (pth ⟨zI, 0, 0⟩).toArray), 5, 16) := by kernel_rfl
theorem exec_bldPh {o : Oper} {w : World} {ev : Operand → Value} (x y : Operand) (n : I4) (m : Int) (ho : o.op = .build 91 #[(0, x), (1, y)]) (hx : ev x = .agg n.vals.toArray) (hy : ev y = .int .i64 m) : (execOp ev o).run Try.prog w = .ok (.value (.agg (pth ⟨n, m, 0⟩).toArray)) w := by
  obtain ⟨a1, a2, a3, a4⟩ := n
  unfold execOp
  rw [ho]
  simp only [List.map_toArray, List.map_cons, List.map_nil, hx, hy]
  kernel_rfl
theorem exec_bsPh {o : Oper} {w : World} {ev : Operand → Value} (x : Operand) (n : I4) (m : Int) (ho : o.op = .buildSlice 58 1 #[(0, x)]) (hx : ev x = .agg (pth ⟨n, m, 0⟩).toArray) : (execOp ev o).run Try.prog w = .ok (.value (.slice (some ⟨w.heap.size, 0, none⟩) 1 1)) (w.alloc (.cells (pth ⟨n, m, 0⟩).toArray 91)) := by
  obtain ⟨a1, a2, a3, a4⟩ := n
  unfold execOp
  simp [ho, hx, go_sem, I4.vals, pth]
theorem dpc_app (L : List Pt) (r : Pt) (q : Nat) (hq : q < L.length + 1) : dpc (L ++ [r]) q = if q < L.length then dpc L q else pth r := by
  unfold dpc
  by_cases e : q < L.length
  · rw [if_pos e, List.getElem?_append_left e]
  · rw [if_neg e, show q = L.length by omega]
    simp
theorem dpc_drop (L : List Pt) (j : Nat) : dpc (L.drop 1) j = dpc L (j + 1) := by
  unfold dpc
  rw [List.getElem?_drop, Nat.add_comm]
theorem dpc_set {n : I4} {m : Int} {L : List Pt} {i : Nat} {r : Pt} (h : L[i]? = some r) (he : r.ip = n) (q : Nat) : dpc (L.set i ⟨n, m, r.bn⟩) q = if q = i then (dpc L q).set 4 (.int .i64 m) else dpc L q := by
  unfold dpc
  rw [List.getElem?_set]
  by_cases e : i = q
  · subst e
    have := (List.getElem?_eq_some_iff.1 h).1
    rw [if_pos rfl, if_pos this, if_pos rfl, h, ← he]
    rfl
  · rw [if_neg e, if_neg (fun h => e h.symm)]
set_option maxRecDepth 100000 in
set_option maxHeartbeats 8000000 in
theorem rLearnP_any {w : World} {q : Nat} {O : Nat → Prop} {L : List Pt} (h : DPs w q O L) (hO : ∀ g, O g → g < w.heap.size) (n : I4) (m : Int) (ck : Nat) : Calls Try.prog 27 #[.pointer (some ⟨q, 0, none⟩), .agg n.vals.toArray, .int .i64 m] w fun e w' => e = .returned (.bool (plB n m L)) ∧ DPs w' q (fun g => O g ∨ (w.heap.size ≤ g ∧ g < w'.heap.size)) (if plB n m L = true then plL n m L ck else L) ∧ But (fun g => g = q ∨ O g) w w' := by
  obtain ⟨s, hs⟩ : ∃ s, s = w.heap.size := ⟨_, rfl⟩
  obtain ⟨V, hV⟩ : ∃ V, V = n.vals := ⟨_, rfl⟩
  obtain ⟨w1, hw1⟩ : ∃ w1, w1 = w.alloc (.cells V.toArray 35) := ⟨_, rfl⟩
  have b1 : Below w.heap.size w w1 := by rw [hw1]; exact (Below.refl _ w).alloc (Nat.le_refl _) _
  have c1 : CellsAt w1 s 0 V := by rw [hw1, hs]; exact CellsAt.new w V 35
  have LV : Hid (V.length = 4) := by rw [hV]; exact (rfl : n.vals.length = 4)
  have l1 : s < w1.heap.size := c1.lt (by rw [LV.out]; decide)
  have H1 := hide (h.later b1)
  have B1 := hide b1
  have C1 := hide c1
  have HS := hide hs
  have HV := hide hV
  have lq0 : q < s := by rw [hs]; exact h.lt
  obtain ⟨tk, htk⟩ : ∃ tk, tk = plB n m L := ⟨_, rfl⟩
  have HO := hide hO
  have FIN : ∀ (W : World) (M : List Pt), DPs W q O M → DPs W q (fun g => O g ∨ (w.heap.size ≤ g ∧ g < W.heap.size)) M := fun W M hW =>
    hW.own (fun g _ e => .inl e) (fun e => by rcases e with e | e; exact hW.nq e; omega)
  have HFIN := hide FIN
  rw [← htk, ← hV]
  have hw1' := hw1.symm
  have hs' := hs.symm
  have HQ := hide htk
  clear hw1 hs b1 c1 FIN hO hV htk h
  by_cases h68 : m < 68
  · have e : tk = false := by rw [HQ.out, plB, decide_eq_false (by omega), Bool.false_and]
    subst e
    have P := hide (HFIN.out w1 L H1.out)
    have BB : Hid (But (fun g => g = q ∨ O g) w w1) := (But.of_below B1.out).mono (K := fun _ => False) (fun g e => False.elim e)
    go_enter Try.func27, Try.ntmps27
    go_wp2
    go_ret
    exact ⟨rfl, by have h := P.out; rw [← HS.out] at h; simpa using h, BB.out⟩
  have FD : Hid (Calls Try.prog 28 #[.pointer (some ⟨q, 0, none⟩), .agg #[.int .u8 n.a, .int .u8 n.b, .int .u8 n.c, .int .u8 n.d]] w1 fun e w' => e = .returned (.int .i64 (pfE n L)) ∧ Below w1.heap.size w1 w') := rFindP_any H1.out n
  obtain ⟨F, hF⟩ : ∃ F, F = pfE n L := ⟨_, rfl⟩
  rw [← hF] at FD
  have HF := hide hF
  have c1' := C1.out
  rw [HV.out] at c1'
  have k0 : w1.cell? ⟨s, 0, none⟩ = some (.int .u8 n.a) := c1' 0 _ rfl
  have k1 : w1.cell? ⟨s, 1, none⟩ = some (.int .u8 n.b) := c1' 1 _ rfl
  have k2 : w1.cell? ⟨s, 2, none⟩ = some (.int .u8 n.c) := c1' 2 _ rfl
  have k3 : w1.cell? ⟨s, 3, none⟩ = some (.int .u8 n.d) := c1' 3 _ rfl
  clear hF c1'
  go_enter Try.func27, Try.ntmps27
  go_wp2_with fail
  clear hw1' hs' k0 k1 k2 k3
  refine FD.out.mono ?_
  rintro _ w2 ⟨rfl, b2⟩
  have H2 := hide (H1.out.later b2)
  have B2 := hide (later B1.out b2)
  have C2 := hide (C1.out.later l1 b2)
  have l2 : s < w2.heap.size := Nat.lt_of_lt_of_le l1 b2.size
  clear b2 FD
  by_cases hge : F ≤ m
  · have e : tk = false := by rw [HQ.out, plB, ← HF.out, decide_eq_false (show ¬ m < F by omega), Bool.and_false]
    subst e
    have P := hide (HFIN.out w2 L H2.out)
    have BB : Hid (But (fun g => g = q ∨ O g) w w2) := (But.of_below B2.out).mono (K := fun _ => False) (fun g e => False.elim e)
    go_wp2
    go_ret
    exact ⟨rfl, by have h := P.out; simpa using h, BB.out⟩
  have e : tk = true := by rw [HQ.out, plB, ← HF.out, decide_eq_true (show m < F by omega), decide_eq_true (show 68 ≤ m by omega)]; rfl
  subst e
  obtain ⟨v, cv, rv⟩ := H2.out.row
  obtain ⟨va, vc, rfl⟩ := rv.shape
  obtain ⟨k, hk⟩ : ∃ k, k = L.length := ⟨_, rfl⟩
  have k8 : k ≤ 8 := by rw [hk]; exact H2.out.len
  rw [← hk] at cv rv
  obtain ⟨ga, off, hga⟩ : ∃ ga off, 0 < k → va = some ⟨ga, off, none⟩ ∧ ga < w2.heap.size ∧ O ga ∧ (∀ j, w2.frozen? ⟨ga, j, none⟩ = false) ∧ ∀ j, j < k → CellsAt w2 ga (off + j * 5) (dpc L j) := by
    by_cases e : 0 < k
    · obtain ⟨g, off, h1, h2, h3, h4, h5⟩ := rv.at e
      exact ⟨g, off, fun _ => ⟨h1, h2, h3, h4, h5⟩⟩
    · exact ⟨0, 0, fun e' => absurd e' e⟩
  have CV := hide cv
  have RV := hide rv
  have GA := hide hga
  have HK := hide hk
  have lq : q < w2.heap.size := H2.out.lt
  clear cv rv hga hk
  go_wp2
  go_loopw [7] (fun vi wr => ∃ i : Nat, vi = .int .i64 (i : Int) ∧ i ≤ k ∧ Hid (∀ j y, j < i → L[j]? = some y → y.ip ≠ n) ∧ Hid (Below w2.heap.size w2 wr)) (fun vi _ => k - (intOf vi).toNat)
  case atStart => exact ⟨0, rfl, Nat.zero_le _, (fun j y hj => by omega), Below.refl _ _⟩
  case round =>
    obtain ⟨i, rfl, hi, HI, BI⟩ := hrel
    have cvr : wr.cell? ⟨q, 0, none⟩ = some (.slice va k vc) := (BI.out.cell (p := ⟨q, 0, none⟩) lq).trans CV.out
    by_cases hlt : i < k
    · obtain ⟨ea, hg2, hgo, hgf, hgc⟩ := GA.out (by omega)
      subst ea
      obtain ⟨x, hx⟩ : ∃ x, L[i]? = some x := ⟨_, List.getElem?_eq_getElem (by rw [← HK.out]; exact hlt)⟩
      have cx : CellsAt w2 ga (off + i * 5) (pth x) := by rw [← dpc_at hx]; exact hgc i hlt
      have iz : (i : Int) < (k : Int) := by omega
      have mz : (k : Int) ≤ 8 := by omega
      have PX : ∀ W, Below wr.heap.size wr W → CellsAt W ga (off + i * 5) x.ip.vals ∧ W.cell? ⟨ga, off + i * 5 + 4, none⟩ = some (.int .i64 x.mtu) := fun W hW => pth_parts (cx.later hg2 (later BI.out hW))
      have QX : ∀ W, Below wr.heap.size wr W → W.cell? ⟨q, 0, none⟩ = some (.slice (some ⟨ga, off, none⟩) k vc) := fun W hW => (hW.cell (p := ⟨q, 0, none⟩) (Nat.lt_of_lt_of_le lq BI.out.size)).trans cvr
      have NX : ∀ W, Below wr.heap.size wr W → CellsAt W s 0 n.vals := fun W hW => by rw [← HV.out]; exact C2.out.later l2 (later BI.out hW)
      obtain ⟨c, hc⟩ : ∃ c, c = eqI x.ip n := ⟨_, rfl⟩
      have HC := hide hc
      go_upto_region 6 with fail
      refine region_quiet_C (fun W => Below wr.heap.size wr W) (by kernel_rfl) (by kernel_rfl) (later_drew _) ?_
      go_big_quiet_step (fail)
      go_big_quiet_want
      refine quiet_pure (.pointer (some ⟨q, 0, none⟩)) (fun W hW => exec_nil _ _ rfl rfl) ?_
      go_big_quiet_on
      simp only [Act.put, List.setIfInBounds_toArray, List.set_cons_succ, List.set_cons_zero]
      go_big_quiet_want
      refine quiet_pure (.pointer (some ⟨q, 0, none⟩)) (fun W hW => exec_fieldO 60 _ 0 q 0 0 rfl rfl (fun w => by kernel_rfl)) ?_
      go_big_quiet_on
      simp only [Act.put, List.setIfInBounds_toArray, List.set_cons_succ, List.set_cons_zero]
      go_big_quiet_want
      refine quiet_pure (.slice (some ⟨ga, off, none⟩) k vc) (fun W hW => exec_load1 58 onePh _ rfl q 0 rfl (.slice (some ⟨ga, off, none⟩) k vc) (QX W hW)) ?_
      go_big_quiet_on
      simp only [Act.put, List.setIfInBounds_toArray, List.set_cons_succ, List.set_cons_zero]
      go_big_quiet_step (fail)
      go_big_quiet_want
      refine quiet_pure (.pointer (some ⟨ga, off + i * 5, none⟩)) (fun W hW => exec_ixPh _ _ ga off k vc i rfl rfl rfl hlt) ?_
      go_big_quiet_on
      simp only [Act.put, List.setIfInBounds_toArray, List.set_cons_succ, List.set_cons_zero]
      go_big_quiet_want
      refine quiet_pure (.pointer (some ⟨ga, off + i * 5, none⟩)) (fun W hW => exec_fieldO 91 _ 0 ga (off + i * 5) (off + i * 5) rfl rfl (fun w => by kernel_rfl)) ?_
      go_big_quiet_on
      simp only [Act.put, List.setIfInBounds_toArray, List.set_cons_succ, List.set_cons_zero]
      go_big_quiet_want
      refine quiet_pure (.agg (x.ip.vals).toArray) (fun W hW => exec_loadA 35 4 aggI sizI _ rfl ga (off + i * 5) rfl (x.ip.vals) rfl ((PX W hW).1)) ?_
      go_big_quiet_on
      simp only [Act.put, List.setIfInBounds_toArray, List.set_cons_succ, List.set_cons_zero]
      go_big_quiet_want
      refine quiet_pure (.agg (n.vals).toArray) (fun W hW => exec_loadA 35 4 aggI sizI _ rfl s 0 rfl (n.vals) rfl (NX W hW)) ?_
      go_big_quiet_on
      simp only [Act.put, List.setIfInBounds_toArray, List.set_cons_succ, List.set_cons_zero]
      go_big_quiet_want
      refine quiet_pure (.bool c) (fun W hW => exec_eqI _ _ _ _ _ _ rfl rfl rfl hc.symm) ?_
      go_big_quiet_on
      simp only [Act.put, List.setIfInBounds_toArray, List.set_cons_succ, List.set_cons_zero]
      refine wpQuiet_nil ?_
      intro wq bq
      have BC := hide (later BI.out bq)
      have qx := QX wq bq
      have px := (PX wq bq).2
      clear PX QX NX cvr bq hc
      cases c with
      | true =>
        have hk := eqI_iff.1 HC.out.symm
        have FE : Hid (plL n m L ck = L.set i ⟨n, m, x.bn⟩) := by
          unfold Hid plL
          rw [pfnd_at hx hk HI.out]
        have fx : wq.frozen? ⟨ga, off + i * 5 + 4, none⟩ = false := (BC.out.frozen (p := ⟨ga, _, none⟩) hg2).trans (hgf _)
        obtain ⟨w5, hw5⟩ : ∃ w5, w5 = wq.setCell ⟨ga, off + i * 5 + 4, none⟩ (.int .i64 m) := ⟨_, rfl⟩
        have b5 : But (Only ga) wq w5 := by rw [hw5]; exact (But.refl (Only ga) wq).cellb (b := ga) rfl _ _
        have nqa : ¬ Only ga q := fun e => H2.out.nq (by have e : q = ga := e; rw [e]; exact hgo)
        have lqq : q < wq.heap.size := Nat.lt_of_lt_of_le lq BC.out.size
        have r5 := (RV.out.later BC.out).cell (fun j _ => dpc_len L j) hlt (show 4 < 5 by decide) (.int .i64 m) rfl
        rw [← hw5] at r5
        have P5 : DPs w5 q O (L.set i ⟨n, m, x.bn⟩) := by
          refine ⟨⟨_, (b5.cell (p := ⟨q, 0, none⟩) lqq nqa).trans qx, ?_⟩, (b5.frozen (p := ⟨q, 0, none⟩) lqq nqa).trans (H2.out.later BC.out).fz, H2.out.nq, by rw [List.length_set]; exact H2.out.len⟩
          rw [List.length_set, ← HK.out]
          exact r5.cong (fun j hj => dpc_set hx hk j)
        have PF := hide (HFIN.out w5 _ P5)
        have BF : Hid (But (fun g => g = q ∨ O g) w w5) := ((But.of_below (K := fun g => g = q ∨ O g) (later B2.out BC.out))).trans (b5.mono (fun g e => .inr (by have e : g = ga := e; rw [e]; exact hgo)))
        have hw5' := hw5.symm
        clear hk hx hw5 b5 nqa r5 P5 hgf hgc cx
        go_wp2
        go_ret
        exact ⟨rfl, by have h := PF.out; rw [← FE.out] at h; simpa using h, BF.out⟩
      | false =>
        have hk : x.ip ≠ n := fun e => by have h := HC.out; rw [eqI_iff.2 e] at h; cases h
        have HI2 : Hid (∀ j y, j < i + 1 → L[j]? = some y → y.ip ≠ n) := fun j y hj hy => by
          by_cases ej : j = i
          · subst ej; rw [hx] at hy; cases hy; exact hk
          · exact HI.out j y (by omega) hy
        clear hk hx qx px hgf hgc cx
        go_wp2
        go_roundw
        case rel => exact ⟨i + 1, by go_num, by omega, HI2.out, BC.out⟩
        case measure => simp [intOf]; omega
    · have ei : k = i := by omega
      subst ei
      have FE : Hid (plL n m L ck = pmk L ++ [⟨n, m, ck⟩]) := by
        unfold Hid plL
        rw [pfnd_not (fun x hx => by
          obtain ⟨j, hj⟩ := List.getElem?_of_mem hx
          exact HI.out j x (by have := (List.getElem?_eq_some_iff.1 hj).1; rw [HK.out]; exact this) hj)]
      obtain ⟨w4, hw4⟩ : ∃ w4, w4 = wr := ⟨_, rfl⟩
      rw [← hw4] at cvr BI ⊢
      clear hw4
      go_upto_region 9 with fail
      obtain ⟨X, hX⟩ : ∃ X, X = pth ⟨n, m, 0⟩ := ⟨_, rfl⟩
      have LX : Hid (X.length = 5) := by rw [hX]; exact rfl
      have lq4 : q < w4.heap.size := Nat.lt_of_lt_of_le lq BI.out.size
      have l4 : s < w4.heap.size := Nat.lt_of_lt_of_le l2 BI.out.size
      have C4 := hide (C2.out.later l2 BI.out)
      have H4 := hide (H2.out.later BI.out)
      obtain ⟨p2, hp2⟩ : ∃ p2, p2 = w4.drew.heap.size := ⟨_, rfl⟩
      obtain ⟨wE, hwE⟩ : ∃ z, z = w4.drew.alloc (.cells X.toArray 91) := ⟨_, rfl⟩
      have bE : Below w4.heap.size w4 wE := by rw [hwE]; exact (Below.refl _ w4).drew.alloc (Nat.le_refl _) _
      have cE : CellsAt wE p2 0 X := by rw [hwE, hp2]; exact CellsAt.new w4.drew X 91
      obtain ⟨i0, hi0, hz0, hz1, hz2⟩ := info_parts info_path
      obtain ⟨a', c', wF, hrun, rF, hbF⟩ := ((RV.out.later BI.out).later bE).push 58 91 i0 _ Try.underlying58 hi0 hz0 hz1 (by omega) rfl (fun j hj => dpc_len L j) (fun j hj => pth_one _) X LX.out (by rw [hX]; exact pth_one _) p2 cE (by omega)
      have nq : ¬ O q := H2.out.nq
      have nos : ¬ O s := fun e => by have := HO.out s e; have := HS.out; omega
      have cvE := (bE.cell (p := ⟨q, 0, none⟩) lq4).trans cvr
      have fvE : wE.frozen? ⟨q, 0, none⟩ = false := (H4.out.later bE).fz
      have lqE : q < wE.heap.size := Nat.lt_of_lt_of_le lq4 bE.size
      have cvF := (hbF.cell (p := ⟨q, 0, none⟩) lqE nq).trans cvE
      have fvF := (hbF.frozen (p := ⟨q, 0, none⟩) lqE nq).trans fvE
      have csE := C4.out.later l4 bE
      have csF := csE.but (Nat.lt_of_lt_of_le l4 bE.size) hbF nos
      obtain ⟨wG, hwG⟩ : ∃ z, z = wF.setCell ⟨q, 0, none⟩ (.slice a' (k + 1) c') := ⟨_, rfl⟩
      have bG : But (Only q) wF wG := by rw [hwG]; exact (But.refl (Only q) wF).cellb (b := q) rfl 0 _
      have Sd : w4.drew.cell? ⟨q, 0, none⟩ = some (.slice va k vc) ∧ CellsAt w4.drew s 0 V := ⟨cvr, C4.out⟩
      have SE : wE.cell? ⟨q, 0, none⟩ = some (.slice va k vc) ∧ CellsAt wE s 0 V := ⟨cvE, csE⟩
      have SF : wF.cell? ⟨q, 0, none⟩ = some (.slice va k vc) ∧ CellsAt wF s 0 V := ⟨cvF, csF⟩
      refine regionJ (fun i => i != 12) (fun W => W.cell? ⟨q, 0, none⟩ = some (.slice va k vc) ∧ CellsAt W s 0 V) (by kernel_rfl) ?_
      refine takeJ (i := 0) (v := .pointer (some ⟨q, 0, none⟩)) 44 rfl rfl (by kernel_rfl) (by kernel_rfl) (by kernel_rfl) (by kernel_rfl) (fun _ _ _ h => h) (.inl ⟨by rfl, fun W hW => exec_move _ _ rfl rfl⟩) (Sd) ?_
      try simp only [Act.put, List.setIfInBounds_toArray, List.set_cons_zero, List.set_cons_succ]
      refine takeJ (i := 1) (v := .pointer (some ⟨q, 0, none⟩)) 45 rfl rfl (by kernel_rfl) (by kernel_rfl) (by kernel_rfl) (by kernel_rfl) (fun _ _ _ h => h) (.inl ⟨by rfl, fun W hW => exec_move _ _ rfl rfl⟩) (Sd) ?_
      try simp only [Act.put, List.setIfInBounds_toArray, List.set_cons_zero, List.set_cons_succ]
      refine takeJ (i := 2) (v := .pointer (some ⟨q, 0, none⟩)) 46 rfl rfl (by kernel_rfl) (by kernel_rfl) (by kernel_rfl) (by kernel_rfl) (fun _ _ _ h => h) (.inl ⟨by rfl, fun W hW => exec_nil _ _ rfl rfl⟩) (Sd) ?_
      try simp only [Act.put, List.setIfInBounds_toArray, List.set_cons_zero, List.set_cons_succ]
      refine takeJ (i := 3) (v := .pointer (some ⟨q, 0, none⟩)) 47 rfl rfl (by kernel_rfl) (by kernel_rfl) (by kernel_rfl) (by kernel_rfl) (fun _ _ _ h => h) (.inl ⟨by rfl, fun W hW => exec_fieldO 60 _ 0 q 0 0 rfl rfl (fun w => by kernel_rfl)⟩) (Sd) ?_
      try simp only [Act.put, List.setIfInBounds_toArray, List.set_cons_zero, List.set_cons_succ]
      refine takeJ (i := 4) (v := .slice va k vc) 48 rfl rfl (by kernel_rfl) (by kernel_rfl) (by kernel_rfl) (by kernel_rfl) (fun _ _ _ h => h) (.inl ⟨by rfl, fun W hW => exec_load1 58 onePh _ rfl q 0 rfl (.slice va k vc) (hW.1)⟩) (Sd) ?_
      try simp only [Act.put, List.setIfInBounds_toArray, List.set_cons_zero, List.set_cons_succ]
      refine takeJ (i := 5) (v := .agg V.toArray) 49 rfl rfl (by kernel_rfl) (by kernel_rfl) (by kernel_rfl) (by kernel_rfl) (fun _ _ _ h => h) (.inl ⟨by rfl, fun W hW => exec_loadA 35 4 aggI sizI _ rfl s 0 rfl V LV.out hW.2⟩) (Sd) ?_
      try simp only [Act.put, List.setIfInBounds_toArray, List.set_cons_zero, List.set_cons_succ]
      refine takeJ (i := 6) (v := .int .i64 m) 50 rfl rfl (by kernel_rfl) (by kernel_rfl) (by kernel_rfl) (by kernel_rfl) (fun _ _ _ h => h) (.inl ⟨by rfl, fun W hW => exec_move _ _ rfl rfl⟩) (Sd) ?_
      try simp only [Act.put, List.setIfInBounds_toArray, List.set_cons_zero, List.set_cons_succ]
      refine takeJ (i := 7) (v := .agg X.toArray) 51 rfl rfl (by kernel_rfl) (by kernel_rfl) (by kernel_rfl) (by kernel_rfl) (fun _ _ _ h => h) (.inl ⟨by rfl, fun W hW => by rw [hX]; exact exec_bldPh _ _ n m rfl (by rw [← HV.out]; rfl) rfl⟩) (Sd) ?_
      try simp only [Act.put, List.setIfInBounds_toArray, List.set_cons_zero, List.set_cons_succ]
      refine nextJ (w' := wE) 8 52 (.slice (some ⟨p2, 0, none⟩) 1 1) (by kernel_rfl) rfl rfl (by rfl) (by rw [hwE, hp2, hX]; exact exec_bsPh _ n m rfl (by rw [← hX]; rfl)) (SE) ?_
      try simp only [Act.put, List.setIfInBounds_toArray, List.set_cons_zero, List.set_cons_succ]
      refine nextJ (w' := wF) 9 53 (.slice a' (k + 1) c') (by kernel_rfl) rfl rfl (by rfl) (exec_app _ _ 58 58 rfl (.slice va k vc) (.slice (some ⟨p2, 0, none⟩) 1 1) rfl rfl 58 rfl hrun) (SF) ?_
      try simp only [Act.put, List.setIfInBounds_toArray, List.set_cons_zero, List.set_cons_succ]
      refine nextJ (w' := wF) 10 54 (.pointer (some ⟨q, 0, none⟩)) (by kernel_rfl) rfl rfl (by rfl) (exec_nil _ _ rfl rfl) (SF) ?_
      try simp only [Act.put, List.setIfInBounds_toArray, List.set_cons_zero, List.set_cons_succ]
      refine nextJ (w' := wF) 11 55 (.pointer (some ⟨q, 0, none⟩)) (by kernel_rfl) rfl rfl (by rfl) (exec_fieldO 60 _ 0 q 0 0 rfl rfl (fun w => by kernel_rfl)) (SF) ?_
      try simp only [Act.put, List.setIfInBounds_toArray, List.set_cons_zero, List.set_cons_succ]
      refine storeJ (w' := wG) 12 (by kernel_rfl) rfl rfl (by rfl) (by rw [hwG]; exact exec_store1 58 s1Ph _ _ rfl q 0 rfl _ _ rfl cvF fvF rfl) ((fun e => by simp at e)) ?_
      try simp only [Act.put, List.setIfInBounds_toArray, List.set_cons_zero, List.set_cons_succ]
      refine doneJ (by kernel_rfl) ?_ _
      have p2w : w.heap.size ≤ p2 := by rw [hp2]; exact (later B2.out BI.out).size
      have lqw : q < w.heap.size := by have := HS.out; omega
      have szE : wE.heap.size = p2 + 1 := by rw [hwE, hp2]; simp
      have lqF : q < wF.heap.size := Nat.lt_of_lt_of_le lqE hbF.size
      have lqG : q < wG.heap.size := Nat.lt_of_lt_of_le lqF bG.size
      have zz : wE.heap.size ≤ wG.heap.size := Nat.le_trans hbF.size bG.size
      have cG : wG.cell? ⟨q, 0, none⟩ = some (.slice a' (k + 1) c') := by rw [hwG]; exact World.cell?_setCell_same _ _ _ cvF
      have fG : wG.frozen? ⟨q, 0, none⟩ = false := by rw [hwG, World.frozen?_setCell]; exact fvF
      have rG : Hid (RowG 5 (fun g => O g ∨ (w.heap.size ≤ g ∧ g < wG.heap.size)) wG (.slice a' (k + 1) c') (k + 1) (dpc (L ++ [⟨n, m, ck⟩]))) := by
        refine ((rF.but bG (fun g e e2 => by
          have e2 : g = q := e2
          rcases e with e | e
          · exact nq (e2 ▸ e)
          · omega)).own (fun g hg e => ?_)).cong (fun j hj => ?_)
        · rcases e with e | e
          · exact .inl e
          · exact .inr ⟨by have := bE.size; have := (later B2.out BI.out).size; omega, hg⟩
        · rw [dpc_app L _ j (by rw [← HK.out]; omega), ← HK.out, hX]; rfl
      have BG : Hid (But (fun g => g = q ∨ O g) w wG) := ((((But.of_below (later B2.out BI.out)).trans (But.of_below bE)).trans (hbF.mono (fun g e => .inr e))).trans (bG.mono (fun g e => .inl e)))
      clear hwE hwG hrun rF hbF bG Sd SE SF cvE fvE cvF fvF csE csF cE bE hX cvr
      by_cases k7 : k < 8
      · have PF : Hid (DPs wG q (fun g => O g ∨ (w.heap.size ≤ g ∧ g < wG.heap.size)) (plL n m L ck)) := by
          rw [FE.out]
          have e : pmk L = L := by unfold pmk; rw [if_pos (by rw [← HK.out]; exact k7)]
          rw [e]
          refine ⟨⟨_, cG, ?_⟩, fG, ?_, ?_⟩
          · rw [List.length_append, ← HK.out]; exact rG.out
          · rintro (e | e)
            · exact nq e
            · omega
          · rw [List.length_append, ← HK.out]; simp; omega
        have kz : ((k + 1 : Nat) : Int) ≤ 8 := by omega
        clear fG
        go_wp2
        go_ret
        exact ⟨rfl, by have h := PF.out; simpa using h, BG.out⟩
      · have e8 : k = 8 := by omega
        subst e8
        obtain ⟨gb, ob, ea, e1, e2, e3, e4⟩ := rG.out.at (by omega)
        subst ea
        have c9 : 9 ≤ c' := by
          obtain ⟨a0, cp0, hh, h2, _⟩ := rG.out
          simp only [Value.slice.injEq] at hh
          omega
        have c1 : ¬ c' = 1 := by omega
        obtain ⟨w8, hw8⟩ : ∃ w8, w8 = wG.setCell ⟨q, 0, none⟩ (.slice (some ⟨gb, ob + 5, none⟩) 8 (c' - 1)) := ⟨_, rfl⟩
        have b8 : But (Only q) wG w8 := by rw [hw8]; exact (But.refl (Only q) wG).cellb (b := q) rfl 0 _
        have PF : Hid (DPs w8 q (fun g => O g ∨ (w.heap.size ≤ g ∧ g < w8.heap.size)) (plL n m L ck)) := by
          rw [FE.out]
          have e : pmk L ++ [(⟨n, m, ck⟩ : Pt)] = (L ++ [(⟨n, m, ck⟩ : Pt)]).drop 1 := by
            unfold pmk
            rw [if_neg (by rw [← HK.out]; omega), List.drop_append_of_le_length (by rw [← HK.out]; omega)]
          have el : ((L ++ [(⟨n, m, ck⟩ : Pt)]).drop 1).length = 8 := by rw [List.length_drop, List.length_append, ← HK.out]; rfl
          rw [e]
          refine ⟨⟨_, by rw [hw8]; exact World.cell?_setCell_same _ _ _ cG, ?_⟩, by rw [hw8, World.frozen?_setCell]; exact fG, ?_, by rw [el]; omega⟩
          · rw [el]
            have r := rG.out.rest.cong (c' := dpc ((L ++ [(⟨n, m, ck⟩ : Pt)]).drop 1)) (fun j _ => dpc_drop _ j)
            refine (r.but b8 (fun g e e2 => ?_)).own (fun g hg e => ?_)
            · have e2 : g = q := e2
              rcases e with e | e
              · exact nq (e2 ▸ e)
              · omega
            · rcases e with e | e
              · exact .inl e
              · exact .inr ⟨e.1, hg⟩
          · rintro (e | e)
            · exact nq e
            · omega
        have B8 : Hid (But (fun g => g = q ∨ O g) w w8) := BG.out.trans (b8.mono (fun g e => .inl e))
        have hw8' := hw8.symm
        clear hw8 b8 e4 e3
        go_wp2
        go_ret
        exact ⟨rfl, by have h := PF.out; simpa using h, B8.out⟩
end Go.Proofs.Yteiendigcaedhaa
