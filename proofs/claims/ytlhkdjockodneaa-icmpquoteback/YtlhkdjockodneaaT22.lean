
/-
  Package icmp: Quoted.
-/
import Derived.Test.YtlhkdjockodneaaT21
namespace Go.Proofs.Ytlhkdjockodneaa
open Go.RowKit Go.Shelf

def quE (bs : List Int) : Int := if bs.length < 20 then 3 else if nb bs 0 / 16 ≠ 4 ∨ hsI bs < 20 then 4 else if (bs.length : Int) < hsI bs + 8 then 3 else 0
def quQ (bs : List Int) : Qu := { pt (nb bs 9) (bs.drop (hsI bs).toNat) with src := ipA bs 12, dst := ipA bs 16 }
def quV (bs : List Int) : Qu := if quE bs = 0 then quQ bs else zQ
theorem boxQ_made {n0 : Nat} {ev : Operand → Value} {o : Oper} {W : World} (ho : o.op = .alloc 38) (hn : n0 ≤ W.heap.size) : ∃ v W', (execOp ev o).run Try.prog W = .ok (.value v) W' ∧ Below W.heap.size W W' ∧ BoxT 38 n0 W' v zQ.cells := by
  refine ⟨.pointer (some ⟨W.heap.size, 0, none⟩), W.alloc (.cells zQ.cells.toArray 38), ?_, later_alloc _ _, W.heap.size, rfl, hn, by simp, CellsAt.new W _ _, fun y => frozen_new W _ _ _, heap_alloc_new W _⟩
  unfold execOp
  rw [ho]
  kernel_rfl
set_option maxRecDepth 100000 in
set_option maxHeartbeats 8000000 in
theorem icQuoted_any (v : Value) (bs : List Int) (w : World) (hb : IsB w.heap.size w v bs) (hB : Bytes bs) (hl : (bs.length : Int) ≤ 4611686018427387900) :
    Calls Try.prog 17 #[v] w fun e w' => e = .returned (.tuple #[.agg (quV bs).cells.toArray, .int .i64 (quE bs)]) ∧ Below w.heap.size w w' := by
  obtain ⟨a, cap, rfl, _⟩ := hb.shape
  obtain ⟨n, hn⟩ : ∃ n, n = bs.length := ⟨_, rfl⟩
  obtain ⟨V, hV⟩ : ∃ V, V = quV bs := ⟨_, rfl⟩
  obtain ⟨E, hE⟩ : ∃ E, E = quE bs := ⟨_, rfl⟩
  rw [← hV, ← hE]
  have VE : E ≠ 0 → V = zQ := fun h => by rw [hV, quV, if_neg (by rw [← hE]; exact h)]
  obtain ⟨s2, hs2⟩ : ∃ s2, s2 = w.heap.size := ⟨_, rfl⟩
  obtain ⟨w1, hw1⟩ : ∃ w1, w1 = w.alloc (.cells zQ.cells.toArray 38) := ⟨_, rfl⟩
  have b1 : Below w.heap.size w w1 := by rw [hw1]; exact later_alloc _ _
  have c1 : CellsAt w1 s2 0 zQ.cells := by rw [hw1, hs2]; exact CellsAt.new w _ _
  have f1 : ∀ y, w1.frozen? ⟨s2, y, none⟩ = false := fun y => by rw [hw1, hs2]; exact frozen_new w _ _ _
  have l1 : s2 < w1.heap.size := by rw [hw1, hs2]; simp
  have HB1 := hide b1
  have C1 := hide c1
  have F1 := hide f1
  have HS2 := hide hs2
  have HN := hide hn
  have BY := hide hB
  have HI := hide (hb.later b1)
  have HI0 := hide hb
  have FIN : ∀ W, Below w1.heap.size w1 W → ∃ W', W.setCells s2 0 zQ.cells = W' ∧ CellsAt W s2 0 zQ.cells ∧ (∀ y, W.frozen? ⟨s2, y, none⟩ = false) ∧ CellsAt W' s2 0 zQ.cells ∧ Below w.heap.size w W' := fun W hW => by
    have bo := But.cells s2 zQ.cells 0 W
    have h := HB1.out.trans (hW.mono HB1.out.size)
    refine ⟨_, rfl, C1.out.later l1 hW, fun y => (hW.frozen (p := ⟨s2, y, none⟩) l1).trans (F1.out y), (C1.out.later l1 hW).stored rfl, h.trans (bo.below h.size (fun g hg e => by have e : g = s2 := e; have := HS2.out; omega))⟩
  have HFIN := hide FIN
  have hw1' := hw1.symm
  simp only [zQ, Qu.cells, zI, I4.vals, List.cons_append, List.nil_append] at hw1'
  have hs2' := hs2.symm
  rw [← hn] at HI HI0 ⊢
  by_cases h1 : n < 20
  · have e : E = 3 := by rw [hE, quE, if_pos (by omega)]
    subst e
    have HV : Hid (V = zQ) := VE (by decide)
    have z : (n : Int) < 20 := by omega
    clear hb hB hl hn hV hE VE b1 c1 f1 hw1 hs2 h1 FIN
    go_enter Try.func17, Try.ntmps17
    go_upto_region 2 with fail
    clear hw1' hs2'
    obtain ⟨w9, hw9, k1, k2, k3, k4⟩ := HFIN.out w1 (Below.refl _ _)
    have K1 := hide k1
    have K2 := hide k2
    have K3 := hide k3
    have K4 := hide k4
    clear k1 k2 k3 k4
    go_wp2_with (first | refine wpList_val rfl (exec_zQ rfl) ?_ | (refine wpList_storeA rfl 38 12 sizQ _ _ rfl s2 0 rfl zQ.cells zQ.cells rfl rfl rfl K1.out K2.out (qu_one _) ?_; intro _; rw [hw9]))
    refine bodyPost_ret (v := .tuple #[.agg zQ.cells.toArray, .int .i64 3]) (results_2 rfl _ _ s2 _ _ rfl rfl (run_loadVarA 38 12 aggQ sizQ s2 0 _ rfl K3.out)) rfl ?_
    exact ⟨by rw [HV.out], K4.out⟩
  have z20 : ¬ (n : Int) < 20 := by omega
  obtain ⟨g, off, cap', e, hcap, hg⟩ := some_of HI0.out (by rw [← hn]; omega)
  simp only [Value.slice.injEq] at e
  obtain ⟨rfl, e0, rfl⟩ := e
  clear e0
  rw [← hn] at hcap
  have CW : Hid (∀ W, Below w.heap.size w W → ∀ j, j < n → W.cell? ⟨g, off + j, none⟩ = some (.int .u8 (nb bs j))) := fun W hW j hj => cell_nb (HI0.out.later hW) (by rw [← HN.out]; exact hj)
  have x0c : w1.cell? ⟨g, off, none⟩ = some (.int .u8 (nb bs 0)) := by have := CW.out w1 b1 0 (by omega); simpa using this
  obtain ⟨p1, p2⟩ := hsI_bd hB
  obtain ⟨q1, q2⟩ := nb_bd hB 0
  obtain ⟨x, hx⟩ : ∃ x, x = nb bs 0 := ⟨_, rfl⟩
  obtain ⟨k, hk⟩ : ∃ k : Nat, hsI bs = (k : Int) := ⟨(hsI bs).toNat, by omega⟩
  have bnn := fun j => nb_bd hB j
  have EQ : quE bs = (if x / 16 ≠ 4 ∨ k < 20 then 4 else if n < k + 8 then 3 else 0) := by
    unfold quE
    rw [if_neg (by omega), hk, ← hx, ← hn]
    by_cases e : x / 16 ≠ 4 ∨ k < 20
    · rw [if_pos e, if_pos (by omega)]
    · rw [if_neg e, if_neg (by omega)]
      by_cases e2 : n < k + 8
      · rw [if_pos e2, if_pos (by omega)]
      · rw [if_neg e2, if_neg (by omega)]
  rw [← hx] at x0c q1 q2
  have k60 : k ≤ 60 := by omega
  have HK := hide hk
  have HXX := hide hx
  have HD : Hid (∀ W, Below w.heap.size w W → Calls Try.prog 40 #[.slice (some ⟨g, off, none⟩) n cap] W fun e w' => e = .returned (.int .i64 (k : Int)) ∧ w' = W) := fun W hW => by
    have h := HI0.out.later hW
    rw [HN.out] at h ⊢
    have c := icHead_any g off cap bs W h BY.out (by have := HN.out; omega)
    rw [hk] at c
    exact c
  have H1 := hide (HD.out w1 b1)
  have HV0 := hide hV
  have HE0 := hide hE
  have HL := hide hl
  have HEQ := hide EQ
  clear hb hB hl hn hV hE b1 c1 f1 hw1 hs2 h1 FIN hk hx EQ p1 p2
  go_enter Try.func17, Try.ntmps17
  go_wp2_with fail
  refine H1.out.mono ?_
  rintro _ wz ⟨rfl, hz⟩
  rw [hz]
  clear hz
  clear hw1' hs2'
  by_cases ht : x / 16 = 4
  case neg =>
    have zt : (x / 16 != 4) = true := by simpa using ht
    have e : E = 4 := by rw [HE0.out, HEQ.out, if_pos (.inl ht)]
    subst e
    have HV : Hid (V = zQ) := VE (by decide)
    clear VE ht
    go_upto_region 6 with fail
    obtain ⟨w9, hw9, k1, k2, k3, k4⟩ := HFIN.out w1 (Below.refl _ _)
    have K1 := hide k1
    have K2 := hide k2
    have K3 := hide k3
    have K4 := hide k4
    clear k1 k2 k3 k4
    go_wp2_with (first | refine wpList_val rfl (exec_zQ rfl) ?_ | (refine wpList_storeA rfl 38 12 sizQ _ _ rfl s2 0 rfl zQ.cells zQ.cells rfl rfl rfl K1.out K2.out (qu_one _) ?_; intro _; rw [hw9]))
    refine bodyPost_ret (v := .tuple #[.agg zQ.cells.toArray, .int .i64 4]) (results_2 rfl _ _ s2 _ _ rfl rfl (run_loadVarA 38 12 aggQ sizQ s2 0 _ rfl K3.out)) rfl ?_
    exact ⟨by rw [HV.out], K4.out⟩
  have zt : (x / 16 != 4) = false := by simpa using ht
  by_cases hk20 : k < 20
  · have e : E = 4 := by rw [HE0.out, HEQ.out, if_pos (.inr hk20)]
    subst e
    have HV : Hid (V = zQ) := VE (by decide)
    have zk : (k : Int) < 20 := by omega
    clear VE ht
    go_upto_region 6 with fail
    obtain ⟨w9, hw9, k1, k2, k3, k4⟩ := HFIN.out w1 (Below.refl _ _)
    have K1 := hide k1
    have K2 := hide k2
    have K3 := hide k3
    have K4 := hide k4
    clear k1 k2 k3 k4
    go_wp2_with (first | refine wpList_val rfl (exec_zQ rfl) ?_ | (refine wpList_storeA rfl 38 12 sizQ _ _ rfl s2 0 rfl zQ.cells zQ.cells rfl rfl rfl K1.out K2.out (qu_one _) ?_; intro _; rw [hw9]))
    refine bodyPost_ret (v := .tuple #[.agg zQ.cells.toArray, .int .i64 4]) (results_2 rfl _ _ s2 _ _ rfl rfl (run_loadVarA 38 12 aggQ sizQ s2 0 _ rfl K3.out)) rfl ?_
    exact ⟨by rw [HV.out], K4.out⟩
  have zk : ¬ (k : Int) < 20 := by omega
  by_cases hk8 : n < k + 8
  · have e : E = 3 := by rw [HE0.out, HEQ.out, if_neg (by omega), if_pos hk8]
    subst e
    have HV : Hid (V = zQ) := VE (by decide)
    have zn : (n : Int) < (k : Int) + 8 := by omega
    clear VE ht
    go_upto_region 8 with fail
    obtain ⟨w9, hw9, k1, k2, k3, k4⟩ := HFIN.out w1 (Below.refl _ _)
    have K1 := hide k1
    have K2 := hide k2
    have K3 := hide k3
    have K4 := hide k4
    clear k1 k2 k3 k4
    go_wp2_with (first | refine wpList_val rfl (exec_zQ rfl) ?_ | (refine wpList_storeA rfl 38 12 sizQ _ _ rfl s2 0 rfl zQ.cells zQ.cells rfl rfl rfl K1.out K2.out (qu_one _) ?_; intro _; rw [hw9]))
    refine bodyPost_ret (v := .tuple #[.agg zQ.cells.toArray, .int .i64 3]) (results_2 rfl _ _ s2 _ _ rfl rfl (run_loadVarA 38 12 aggQ sizQ s2 0 _ rfl K3.out)) rfl ?_
    exact ⟨by rw [HV.out], K4.out⟩
  have zn : ¬ (n : Int) < (k : Int) + 8 := by omega
  have z0 : quE bs = 0 := by rw [HEQ.out, if_neg (by omega), if_neg hk8]
  have e : E = 0 := by rw [HE0.out, z0]
  subst e
  have HV : Hid (V = quQ bs) := by rw [HV0.out, quV, if_pos z0]; exact rfl
  obtain ⟨P, hP⟩ : ∃ P : Qu, P = pt (nb bs 9) (bs.drop k) := ⟨_, rfl⟩
  have PQ : Hid (quQ bs = { P with src := ipA bs 12, dst := ipA bs 16 }) := by unfold Hid quQ; rw [hP, HK.out]; rfl
  have PZ : Hid (P.src = zI ∧ P.dst = zI) := by rw [hP]; exact ⟨rfl, rfl⟩
  have kn : k < n := by omega
  have PT : Hid (∀ W, Below w.heap.size w W → Calls Try.prog 42 #[.int .i64 (nb bs 9), .slice (some ⟨g, off + k, none⟩) (n - k) (cap - k)] W fun e W' => ∃ v, e = .returned v ∧ v = .agg P.cells.toArray ∧ Below W.heap.size W W') := fun W hW => by
    have hd := (HI0.out.later hW).drop k (by have := HN.out; omega)
    rw [if_neg (by omega), Option.map_some, Addr.add_lit] at hd
    rw [hP]
    exact (icPorts_any (nb bs 9) _ (bs.drop k) W hd (BY.out.drop k) (by rw [List.length_drop]; have := HL.out; omega) (by rw [List.length_drop]; have := HN.out; omega)).mono (by rintro _ W' ⟨rfl, h⟩; exact ⟨_, rfl, rfl, h⟩)
  clear VE ht z0 hP
  go_upto_region 9 with fail
  clear x0c
  go_cut [5] from 28 to 35 (fun v5 wx => ∃ s5 : Nat, v5 = .pointer (some ⟨s5, 0, none⟩) ∧ Hid (CellsAt wx s5 0 P.cells) ∧ Hid (∀ y, wx.frozen? ⟨s5, y, none⟩ = false) ∧ s5 < wx.heap.size ∧ w1.heap.size ≤ s5 ∧ Hid (Below w1.heap.size w1 wx))
  case first =>
    refine region_grow_store (w := w1) (fun i v W => match i with | 0 => v = .slice (some ⟨g, off, none⟩) n cap | 1 => v = .pointer (some ⟨g, off + 9, none⟩) | 2 => v = .int .u8 (nb bs 9) | 3 => v = .int .i64 (nb bs 9) | 4 => v = .slice (some ⟨g, off, none⟩) n cap | 5 => v = .int .i64 (k : Int) | 6 => v = .slice (some ⟨g, off + k, none⟩) (n - k) (cap - k) | 7 => v = .agg P.cells.toArray | 8 => BoxT 38 w1.heap.size W v zQ.cells | _ => True) (by kernel_rfl) (by kernel_rfl) (by kernel_rfl) 9 rfl _ rfl rfl (no_guard (by kernel_rfl)) (fun i v W W' h hb => match i, h with | 0, h => h | 1, h => h | 2, h => h | 3, h => h | 4, h => h | 5, h => h | 6, h => h | 7, h => h | 8, h => BoxT.later h hb | _ + 9, h => h) ?_ ?_
    · intro listed a W hM hn i o ho hlt hr
      have B := hM.bel
      match i, ho, hlt, hr with
      | 0, ho, _, hr =>
        have u0 : a.eval (.tmp 0) = .slice (some ⟨g, off, none⟩) n cap := hM.keep (t := 0) (by kernel_rfl)
        exact Step.of rfl (.inl ⟨.slice (some ⟨g, off, none⟩) n cap, W, exec_move _ _ rfl u0, Below.refl _ _, rfl⟩) ho
      | 1, ho, _, hr =>
        have u28 := hM.use hr rfl (j := 0) (by kernel_rfl) rfl rfl
        have u28 : a.eval (.tmp 28) = .slice (some ⟨g, off, none⟩) n cap := u28
        exact Step.of rfl (.inl ⟨.pointer (some ⟨g, off + 9, none⟩), W, exec_ixC _ 9 g off n cap 9 rfl rfl (fun _ => rfl) u28 (by omega), Below.refl _ _, rfl⟩) ho
      | 2, ho, _, hr =>
        have u29 := hM.use hr rfl (j := 1) (by kernel_rfl) rfl rfl
        have u29 : a.eval (.tmp 29) = .pointer (some ⟨g, off + 9, none⟩) := u29
        exact Step.of rfl (.inl ⟨.int .u8 (nb bs 9), W, exec_load1 5 oneU _ rfl g (off + 9) u29 (.int .u8 (nb bs 9)) (CW.out W (HB1.out.trans ((((Below.refl _ w1).drew).trans B).mono HB1.out.size)) 9 (by omega)), Below.refl _ _, rfl⟩) ho
      | 3, ho, _, hr =>
        have u30 := hM.use hr rfl (j := 2) (by kernel_rfl) rfl rfl
        have u30 : a.eval (.tmp 30) = .int .u8 (nb bs 9) := u30
        exact Step.of rfl (.inl ⟨.int .i64 (nb bs 9), W, exec_cvti _ _ rfl u30 (bnn 9).1 (bnn 9).2, Below.refl _ _, rfl⟩) ho
      | 4, ho, _, hr =>
        have u0 : a.eval (.tmp 0) = .slice (some ⟨g, off, none⟩) n cap := hM.keep (t := 0) (by kernel_rfl)
        exact Step.of rfl (.inl ⟨.slice (some ⟨g, off, none⟩) n cap, W, exec_move _ _ rfl u0, Below.refl _ _, rfl⟩) ho
      | 5, ho, _, hr =>
        have u4 : a.eval (.tmp 4) = .int .i64 (k : Int) := hM.keep (t := 4) (by kernel_rfl)
        exact Step.of rfl (.inl ⟨.int .i64 (k : Int), W, exec_move _ _ rfl u4, Below.refl _ _, rfl⟩) ho
      | 6, ho, _, hr =>
        have u32 := hM.use hr rfl (j := 4) (by kernel_rfl) rfl rfl
        have u32 : a.eval (.tmp 32) = .slice (some ⟨g, off, none⟩) n cap := u32
        have u33 := hM.use hr rfl (j := 5) (by kernel_rfl) rfl rfl
        have u33 : a.eval (.tmp 33) = .int .i64 (k : Int) := u33
        exact Step.of rfl (.inl ⟨.slice (some ⟨g, off + k, none⟩) (n - k) (cap - k), W, exec_slB _ _ g off n cap k rfl u32 u33 kn hcap, Below.refl _ _, rfl⟩) ho
      | 7, ho, _, hr =>
        have u31 := hM.use hr rfl (j := 3) (by kernel_rfl) rfl rfl
        have u31 : a.eval (.tmp 31) = .int .i64 (nb bs 9) := u31
        have u34 := hM.use hr rfl (j := 6) (by kernel_rfl) rfl rfl
        have u34 : a.eval (.tmp 34) = .slice (some ⟨g, off + k, none⟩) (n - k) (cap - k) := u34
        refine Step.of rfl (.inr ⟨42, #[.int .i64 (nb bs 9), .slice (some ⟨g, off + k, none⟩) (n - k) (cap - k)], exec_callF _ _ _ _ rfl (map2 u31 u34) (enters_of Try.func42 (by kernel_rfl) rfl), ?_⟩) ho
        exact PT.out W (HB1.out.trans ((((Below.refl _ w1).drew).trans B).mono HB1.out.size))
      | 8, ho, _, hr =>
        refine Step.of rfl (.inl ?_) ho
        exact boxQ_made rfl hn
      | n + 9, _, hlt, _ => exact absurd hlt (by omega)
    intro listed a W hM hl
    have B := hM.bel
    have p28 : a.tmps.getD 28 undef = .slice (some ⟨g, off, none⟩) n cap := hM.got 0 _ _ rfl (hl 0 (by decide)) rfl
    have p29 : a.tmps.getD 29 undef = .pointer (some ⟨g, off + 9, none⟩) := hM.got 1 _ _ rfl (hl 1 (by decide)) rfl
    have p30 : a.tmps.getD 30 undef = .int .u8 (nb bs 9) := hM.got 2 _ _ rfl (hl 2 (by decide)) rfl
    have p31 : a.tmps.getD 31 undef = .int .i64 (nb bs 9) := hM.got 3 _ _ rfl (hl 3 (by decide)) rfl
    have p32 : a.tmps.getD 32 undef = .slice (some ⟨g, off, none⟩) n cap := hM.got 4 _ _ rfl (hl 4 (by decide)) rfl
    have p33 : a.tmps.getD 33 undef = .int .i64 (k : Int) := hM.got 5 _ _ rfl (hl 5 (by decide)) rfl
    have p34 : a.tmps.getD 34 undef = .slice (some ⟨g, off + k, none⟩) (n - k) (cap - k) := hM.got 6 _ _ rfl (hl 6 (by decide)) rfl
    have p35 : (fun v W => v = .agg P.cells.toArray) (a.tmps.getD 35 undef) W := hM.got 7 _ _ rfl (hl 7 (by decide)) rfl
    have p5 : (fun v W => BoxT 38 w1.heap.size W v zQ.cells) (a.tmps.getD 5 undef) W := hM.got 8 _ _ rfl (hl 8 (by decide)) rfl
    obtain ⟨s5, e5, h51, h52, h53, h54, h55⟩ := p5
    refine ⟨W.setCells s5 0 P.cells, exec_storeA 38 12 sizQ (.tmp 5) (.tmp 35) rfl s5 0 e5 _ zQ.cells p35 rfl rfl h53 h54 (qu_one _), ?_⟩
    rw [hM.lit [28, 29, 30, 31, 32, 33, 34, 35, 5] (by kernel_rfl)]
    clear hM hl
    simp only [fill, List.foldl_cons, List.foldl_nil, Act.put, List.setIfInBounds_toArray, List.set_cons_zero, List.set_cons_succ]
    clear p28
    generalize a.tmps.getD 28 undef = x28 at *
    clear p29
    generalize a.tmps.getD 29 undef = x29 at *
    clear p30
    generalize a.tmps.getD 30 undef = x30 at *
    clear p31
    generalize a.tmps.getD 31 undef = x31 at *
    clear p32
    generalize a.tmps.getD 32 undef = x32 at *
    clear p33
    generalize a.tmps.getD 33 undef = x33 at *
    clear p34
    generalize a.tmps.getD 34 undef = x34 at *
    generalize a.tmps.getD 35 undef = x35 at *
    generalize a.tmps.getD 5 undef = x5 at *
    have B2 : Below w1.heap.size w1 W := ((Below.refl _ w1).drew).trans B
    have bo := But.cells s5 P.cells 0 W
    have C5 : Hid (CellsAt (W.setCells s5 0 P.cells) s5 0 P.cells) := h53.stored rfl
    have F5 : Hid (∀ y, (W.setCells s5 0 P.cells).frozen? ⟨s5, y, none⟩ = false) := fun y => by rw [World.frozen?_setCells]; exact h54 y
    have L5 : s5 < (W.setCells s5 0 P.cells).heap.size := by rw [size_setCells]; exact h52
    have B5 : Hid (Below w1.heap.size w1 (W.setCells s5 0 P.cells)) := B2.trans (bo.below B2.size (fun g hg e => by have e : g = s5 := e; omega))
    subst e5
    clear h53 h54 h55 B B2 bo p35
    obtain ⟨wf, hwf⟩ : ∃ wf, wf = W.setCells s5 0 P.cells := ⟨_, rfl⟩
    rw [← hwf] at C5 F5 L5 B5 ⊢
    clear hwf
    go_wp2
    go_meet
    exact ⟨s5, rfl, C5, F5, L5, h51, B5⟩
  case rest =>
    obtain ⟨s5, rfl, C5, F5, L5, h51, B5⟩ := hcut
    obtain ⟨w5, hw5⟩ : ∃ w5, w5 = wc := ⟨_, rfl⟩
    rw [← hw5] at C5 F5 L5 B5 ⊢
    clear hw5 CW PT
    have B5w : Hid (Below w.heap.size w w5) := HB1.out.trans (B5.out.mono HB1.out.size)
    have H20 : Hid (20 ≤ bs.length) := by unfold Hid; rw [← HN.out]; omega
    -- the source
    obtain ⟨x0, hx0⟩ : ∃ x0, x0 = w5.drew := ⟨_, rfl⟩
    have c5d : CellsAt x0 s5 0 P.cells := by rw [hx0]; exact C5.out
    have f5d : ∀ y, x0.frozen? ⟨s5, y, none⟩ = false := by rw [hx0]; exact F5.out
    have bx0 : Below w5.heap.size w5 x0 := by rw [hx0]; exact (Below.refl _ w5).drew
    have src12 := ((HI0.out.later B5w.out).later bx0).drop 12 (by have := H20.out; omega)
    have cS0 : CellsAt x0 s5 0 zI.vals := by have h := (CellsAt.append.1 c5d).1; rw [PZ.out.1] at h; exact h
    obtain ⟨x1, hx1⟩ : ∃ x1, x1 = x0.setCells s5 0 (ipA bs 12).vals := ⟨_, rfl⟩
    have CP1 := copy_cellsB src12 (s := s5) (o := 0) (k := 4) (by omega) (by rw [List.length_drop]; have := H20.out; omega) (take4B (bs := bs) (k := 12) (by have := H20.out; omega)) cS0 rfl f5d
    rw [← hx1, if_neg (show ¬ cap = 12 by omega), Option.map_some, Addr.add_lit] at CP1
    have bo1 := But.cells s5 (ipA bs 12).vals 0 x0
    rw [← hx1] at bo1
    have c6 : CellsAt x1 s5 0 (Qu.cells { P with src := ipA bs 12 }) := by
      have h2 := CellsAt.append.1 c5d
      rw [hx1]
      refine CellsAt.append.2 ⟨cS0.stored rfl, h2.2.other (.inr ?_)⟩
      show 0 + 4 ≤ 0 + 4
      omega
    have f6 : ∀ y, x1.frozen? ⟨s5, y, none⟩ = false := fun y => by rw [hx1, World.frozen?_setCells]; exact f5d y
    -- the destination
    obtain ⟨y0, hy0⟩ : ∃ y0, y0 = x1.drew := ⟨_, rfl⟩
    have c6d : CellsAt y0 s5 0 (Qu.cells { P with src := ipA bs 12 }) := by rw [hy0]; exact c6
    have f6d : ∀ y, y0.frozen? ⟨s5, y, none⟩ = false := by rw [hy0]; exact f6
    have bo1d : But (Only s5) x0 y0 := by rw [hy0]; exact bo1.drew
    have Bx0 := later B5.out bx0
    have By0 : Below w1.heap.size w1 y0 := Bx0.trans (bo1d.below Bx0.size (fun g hg e => by have e : g = s5 := e; omega))
    have src16 := (HI0.out.later (HB1.out.trans (By0.mono HB1.out.size))).drop 16 (by have := H20.out; omega)
    have cD0 : CellsAt y0 s5 4 zI.vals := by
      have h := (CellsAt.append.1 (CellsAt.append.1 c6d).2).1
      have h : CellsAt y0 s5 (0 + 4) P.dst.vals := h
      rw [PZ.out.2, Nat.zero_add] at h
      exact h
    obtain ⟨y1, hy1⟩ : ∃ y1, y1 = y0.setCells s5 4 (ipA bs 16).vals := ⟨_, rfl⟩
    have CP2 := copy_cellsB src16 (s := s5) (o := 4) (k := 4) (by omega) (by rw [List.length_drop]; have := H20.out; omega) (take4B (bs := bs) (k := 16) (by have := H20.out; omega)) cD0 rfl f6d
    rw [← hy1, if_neg (show ¬ cap = 16 by omega), Option.map_some, Addr.add_lit] at CP2
    have bo2 := But.cells s5 (ipA bs 16).vals 4 y0
    rw [← hy1] at bo2
    obtain ⟨Z, hZ⟩ : ∃ Z, Z = (quQ bs).cells := ⟨_, rfl⟩
    have C7 : Hid (CellsAt y1 s5 0 Z) := by
      rw [hZ, PQ.out, hy1]
      have h2 := CellsAt.append.1 c6d
      have h3 := CellsAt.append.1 h2.2
      refine CellsAt.append.2 ⟨h2.1.other (.inl ?_), CellsAt.append.2 ⟨?_, h3.2.other (.inr ?_)⟩⟩
      · show 0 + 4 ≤ 4
        omega
      · have k := cD0.stored (vs := (ipA bs 16).vals) rfl
        show CellsAt _ s5 (0 + 4) (ipA bs 16).vals
        rw [Nat.zero_add]
        exact k
      · show 4 + 4 ≤ 0 + 4 + 4
        omega
    have By1 : Below w1.heap.size w1 y1 := By0.trans (bo2.below By0.size (fun g hg e => by have e : g = s5 := e; omega))
    have K1 : Hid (CellsAt y1 s2 0 zQ.cells) := C1.out.later l1 By1
    have K2 : Hid (∀ y, y1.frozen? ⟨s2, y, none⟩ = false) := fun y => (By1.frozen (p := ⟨s2, y, none⟩) l1).trans (F1.out y)
    have LZ : Hid (Z.length = 12) := by rw [hZ]; exact rfl
    have OZ : Hid (∀ u ∈ Z, u.oneCell' = true) := by rw [hZ]; exact qu_one _
    obtain ⟨w9, hw9⟩ : ∃ w9, w9 = y1.setCells s2 0 Z := ⟨_, rfl⟩
    have bo9 := But.cells s2 Z 0 y1
    rw [← hw9] at bo9
    have C9 : Hid (CellsAt w9 s2 0 Z) := by rw [hw9]; exact K1.out.stored (by rw [LZ.out]; rfl)
    have B9 : Hid (Below w.heap.size w w9) := by
      have h := HB1.out.trans (By1.mono HB1.out.size)
      exact h.trans (bo9.below h.size (fun g hg e => by have e : g = s2 := e; have := HS2.out; omega))
    have HCP1 := hide CP1
    have HCP2 := hide CP2
    have HZ := hide hZ
    have hw9' := hw9.symm
    clear CP1 CP2 src12 src16 cS0 cD0 bo1 bo2 bo9 c6 f6 c5d f5d c6d f6d bo1d By0 By1 Bx0 bx0 hZ hw9
    go_upto_region 10 with fail
    refine region_out (fun _ => True) (by kernel_rfl) ?_
    rw [← hx0]
    refine takeD (i := 0) (v := .pointer (some ⟨s5, 0, none⟩)) 36 rfl rfl (by kernel_rfl) (by kernel_rfl) (by kernel_rfl) (fun _ _ _ h => h) (.inl ⟨by rfl, fun W hW => exec_fieldO 38 _ 0 s5 0 0 rfl rfl (fun w => by kernel_rfl)⟩) (trivial) ?_
    try simp only [Act.put, List.setIfInBounds_toArray, List.set_cons_zero, List.set_cons_succ]
    refine takeD (i := 1) (v := .slice (some ⟨s5, 0, none⟩) 4 4) 37 rfl rfl (by kernel_rfl) (by kernel_rfl) (by kernel_rfl) (fun _ _ _ h => h) (.inl ⟨by rfl, fun W hW => exec_slI _ s5 0 rfl rfl⟩) (trivial) ?_
    try simp only [Act.put, List.setIfInBounds_toArray, List.set_cons_zero, List.set_cons_succ]
    refine takeD (i := 2) (v := .slice (some ⟨g, off, none⟩) n cap) 38 rfl rfl (by kernel_rfl) (by kernel_rfl) (by kernel_rfl) (fun _ _ _ h => h) (.inl ⟨by rfl, fun W hW => exec_move _ _ rfl rfl⟩) (trivial) ?_
    try simp only [Act.put, List.setIfInBounds_toArray, List.set_cons_zero, List.set_cons_succ]
    refine takeD (i := 3) (v := .slice (some ⟨g, off + 12, none⟩) (n - 12) (cap - 12)) 39 rfl rfl (by kernel_rfl) (by kernel_rfl) (by kernel_rfl) (fun _ _ _ h => h) (.inl ⟨by rfl, fun W hW => exec_slB _ _ g off n cap 12 rfl rfl rfl (by omega) hcap⟩) (trivial) ?_
    try simp only [Act.put, List.setIfInBounds_toArray, List.set_cons_zero, List.set_cons_succ]
    refine nextD (w' := x1) 4 40 (.int .i64 ((4 : Nat) : Int)) (by kernel_rfl) rfl rfl (by rfl) (exec_copy _ _ _ _ rfl _ _ rfl rfl _ rfl HCP1.out) (trivial) ?_
    try simp only [Act.put, List.setIfInBounds_toArray, List.set_cons_zero, List.set_cons_succ]
    refine wpAnyH_done (by kernel_rfl) ?_ _
    clear hx0 hx1
    go_upto_region 11 with fail
    refine region_out (fun _ => True) (by kernel_rfl) ?_
    rw [← hy0]
    refine takeD (i := 0) (v := .pointer (some ⟨s5, 4, none⟩)) 41 rfl rfl (by kernel_rfl) (by kernel_rfl) (by kernel_rfl) (fun _ _ _ h => h) (.inl ⟨by rfl, fun W hW => exec_fieldO 38 _ 1 s5 0 4 rfl rfl (fun w => by kernel_rfl)⟩) (trivial) ?_
    try simp only [Act.put, List.setIfInBounds_toArray, List.set_cons_zero, List.set_cons_succ]
    refine takeD (i := 1) (v := .slice (some ⟨s5, 4, none⟩) 4 4) 42 rfl rfl (by kernel_rfl) (by kernel_rfl) (by kernel_rfl) (fun _ _ _ h => h) (.inl ⟨by rfl, fun W hW => exec_slI _ s5 4 rfl rfl⟩) (trivial) ?_
    try simp only [Act.put, List.setIfInBounds_toArray, List.set_cons_zero, List.set_cons_succ]
    refine takeD (i := 2) (v := .slice (some ⟨g, off, none⟩) n cap) 43 rfl rfl (by kernel_rfl) (by kernel_rfl) (by kernel_rfl) (fun _ _ _ h => h) (.inl ⟨by rfl, fun W hW => exec_move _ _ rfl rfl⟩) (trivial) ?_
    try simp only [Act.put, List.setIfInBounds_toArray, List.set_cons_zero, List.set_cons_succ]
    refine takeD (i := 3) (v := .slice (some ⟨g, off + 16, none⟩) (n - 16) (cap - 16)) 44 rfl rfl (by kernel_rfl) (by kernel_rfl) (by kernel_rfl) (fun _ _ _ h => h) (.inl ⟨by rfl, fun W hW => exec_slB _ _ g off n cap 16 rfl rfl rfl (by omega) hcap⟩) (trivial) ?_
    try simp only [Act.put, List.setIfInBounds_toArray, List.set_cons_zero, List.set_cons_succ]
    refine nextD (w' := y1) 4 45 (.int .i64 ((4 : Nat) : Int)) (by kernel_rfl) rfl rfl (by rfl) (exec_copy _ _ _ _ rfl _ _ rfl rfl _ rfl HCP2.out) (trivial) ?_
    try simp only [Act.put, List.setIfInBounds_toArray, List.set_cons_zero, List.set_cons_succ]
    refine wpAnyH_done (by kernel_rfl) ?_ _
    clear hy0 hy1
    go_upto_region 12 with fail
    refine wp_region_list ?_
    refine wpList_loadA rfl 38 12 aggQ sizQ _ rfl s5 0 rfl Z LZ.out C7.out ?_
    simp only [Act.put, List.setIfInBounds_toArray, List.set_cons_zero, List.set_cons_succ]
    refine wpList_storeA rfl 38 12 sizQ _ _ rfl s2 0 rfl Z zQ.cells rfl LZ.out rfl K1.out K2.out OZ.out ?_
    intro _
    rw [hw9']
    clear hw9'
    simp only [Act.put]
    go_wp2
    refine bodyPost_ret (v := .tuple #[.agg Z.toArray, .int .i64 0]) (results_2 rfl _ _ s2 _ _ rfl rfl (run_loadVarA 38 12 aggQ sizQ s2 0 Z LZ.out C9.out)) rfl ?_
    exact ⟨by rw [HV.out, HZ.out], B9.out⟩
end Go.Proofs.Ytlhkdjockodneaa
