
/-
  Package core: Passive.
-/
import Derived.Test.YtgdcdgofahhfdaaO9
namespace Go.Proofs.Ytgdcdgofahhfdaa
open Go.RowKit Go.Shelf

def pasB (s : Sg) : Bool := hasB s.flg 2 && (!hasB s.flg 16 && (!hasB s.flg 4 && !hasB s.flg 1))
def pasE (s : Sg) : Int := if pasB s = true then 0 else 1
def pasC (s : Sg) (now : Int) : Ct := if pasB s = true then { synC (begC 2 (fst32 now)) s with wl2 := fst32 now } else zCt
def BoxCt (n0 : Nat) (W : World) (v : Value) : Prop := ∃ s, v = .pointer (some ⟨s, 0, none⟩) ∧ n0 ≤ s ∧ OwnC W s zCt
theorem BoxCt.later {n0 : Nat} {W W' : World} {v : Value} (h : BoxCt n0 W v) (hb : Below W.heap.size W W') : BoxCt n0 W' v := by
  obtain ⟨s, e, h1, h2⟩ := h
  exact ⟨s, e, h1, h2.later hb⟩
theorem exec_allocCt {o : Oper} {w : World} {ev : Operand → Value} (ho : o.op = .alloc 24) : (execOp ev o).run Try.prog w = .ok (.value (.pointer (some ⟨w.heap.size, 0, none⟩))) (w.alloc (.cells zCt.cells.toArray 24)) := by
  unfold execOp
  rw [ho]
  rfl
theorem boxCt_made {n0 : Nat} {ev : Operand → Value} {o : Oper} {W : World} (ho : o.op = .alloc 24) (hn : n0 ≤ W.heap.size) : ∃ v W', (execOp ev o).run Try.prog W = .ok (.value v) W' ∧ Below W.heap.size W W' ∧ BoxCt n0 W' v :=
  ⟨_, _, exec_allocCt ho, later_alloc _ _, W.heap.size, rfl, hn, CellsAt.new W _ _, fun y => frozen_new W _ _ _, by simp⟩
set_option maxHeartbeats 8000000 in
theorem Passive_any (s : Sg) (gv dv : Value) (now : Int) (w : World) : Calls Try.prog 12 #[.agg (s.cells gv dv).toArray, .int .i64 now] w fun e w' => e = .returned (.tuple #[.agg (pasC s now).cells.toArray, .int .i64 (pasE s)]) ∧ Below w.heap.size w w' := by
  obtain ⟨w1, s1, hs1, hw1, c1, f1, b1, l1⟩ := boxS w s gv dv
  obtain ⟨w2, s2, hs2, hw2, c2, f2, b2, l2⟩ := boxC w1 zCt
  obtain ⟨Z, hZ⟩ : ∃ Z, Z = s.cells gv dv := ⟨_, rfl⟩
  have LZ : Hid (Z.length = 10) := by rw [hZ]; exact rfl
  have CS : Hid (CellsAt w2 s1 0 Z) := by rw [hZ]; exact c1.later l1 b2
  have ZV := hide hZ
  have O2 : Hid (OwnC w2 s2 zCt) := ⟨c2, f2, l2⟩
  have L12 : Hid (s1 < w2.heap.size) := Nat.lt_of_lt_of_le l1 b2.size
  have Z2 : Hid (w.heap.size ≤ s2) := by have := b1.size; unfold Hid; omega
  have B2 := hide (later b1 b2)
  obtain ⟨C, hC⟩ : ∃ C, C = pasC s now := ⟨_, rfl⟩
  obtain ⟨E, hE⟩ : ∃ E, E = pasE s := ⟨_, rfl⟩
  rw [← hC, ← hE]
  have HC := hide hC
  have HE := hide hE
  obtain ⟨h2, e2⟩ : ∃ h, h = hasB s.flg 2 := ⟨_, rfl⟩
  have E2 := hide e2
  have H2 : Hid (∀ W, Calls Try.prog 30 #[.agg Z.toArray, .int .i64 2] W fun e w' => e = .returned (.bool h2) ∧ Below W.heap.size W w') := fun W => by rw [e2]; exact hasZ hZ 1 (by decide) (by decide) W
  obtain ⟨h16, e16⟩ : ∃ h, h = hasB s.flg 16 := ⟨_, rfl⟩
  have E16 := hide e16
  have H16 : Hid (∀ W, Calls Try.prog 30 #[.agg Z.toArray, .int .i64 16] W fun e w' => e = .returned (.bool h16) ∧ Below W.heap.size W w') := fun W => by rw [e16]; exact hasZ hZ 4 (by decide) (by decide) W
  obtain ⟨h4, e4⟩ : ∃ h, h = hasB s.flg 4 := ⟨_, rfl⟩
  have E4 := hide e4
  have H4 : Hid (∀ W, Calls Try.prog 30 #[.agg Z.toArray, .int .i64 4] W fun e w' => e = .returned (.bool h4) ∧ Below W.heap.size W w') := fun W => by rw [e4]; exact hasZ hZ 2 (by decide) (by decide) W
  obtain ⟨h1, e1⟩ : ∃ h, h = hasB s.flg 1 := ⟨_, rfl⟩
  have E1 := hide e1
  have H1 : Hid (∀ W, Calls Try.prog 30 #[.agg Z.toArray, .int .i64 1] W fun e w' => e = .returned (.bool h1) ∧ Below W.heap.size W w') := fun W => by rw [e1]; exact hasZ hZ 0 (by decide) (by decide) W
  have PB : Hid (pasB s = (h2 && (!h16 && (!h4 && !h1)))) := by rw [e2, e16, e4, e1]; exact rfl
  rw [show (Value.agg (s.cells gv dv).toArray) = .agg #[.int .i64 s.src, .int .i64 s.dst, .int .u32 s.seq, .int .u32 s.ack, .int .i64 s.flg, .int .i64 s.wnd, .int .i64 s.mss, .bool s.sak, gv, dv] from rfl]
  have hs1' := hs1.symm
  have hw1' := hw1.symm
  have hs2' := hs2.symm
  have hw2' := hw2.symm
  simp only [zCt] at hw2'
  clear hs1 hw1 hs2 hw2 c1 f1 b1 l1 c2 f2 b2 l2 hZ hC hE e2 e16 e4 e1
  go_enter Try.func12, Try.ntmps12
  go_upto_region 1 with fail
  clear hs1' hw1' hs2' hw2'
  go_wp2_with (refine wpList_loadA rfl 28 10 aggSg sizSg _ rfl s1 0 rfl Z LZ.out CS.out ?_)
  refine (H2.out w2).mono ?_
  rintro _ w3 ⟨rfl, bz⟩
  have CS1 := hide (CS.out.later L12.out bz)
  have O1 := hide (O2.out.later bz)
  have B1 := hide (later B2.out bz)
  have L1 : Hid (s1 < w3.heap.size) := Nat.lt_of_lt_of_le L12.out bz.size
  clear bz H2 CS O2 B2 L12
  have CS := CS1
  have O2 := O1
  have B2 := B1
  have L12 := L1
  clear CS1 O1 B1 L1
  cases h2 with
  | false =>
    have EE : E = 1 := by rw [HE.out]; unfold pasE; rw [if_neg (by rw [PB.out]; simp)]
    have ER : C = zCt := by rw [HC.out]; unfold pasC; rw [if_neg (by rw [PB.out]; simp)]
    subst EE
    have HER := hide ER
    clear ER
    obtain ⟨K, hK⟩ : ∃ K, K = zCt.cells := ⟨_, rfl⟩
    have LK : Hid (K.length = 11) := by rw [hK]; exact rfl
    have OK : Hid (∀ u ∈ K, u.oneCell' = true) := by rw [hK]; exact ct_one _
    have CB := hide O2.out.1
    have FB := hide O2.out.2.1
    obtain ⟨w9, hw9⟩ : ∃ w9, w9 = w3.setCells s2 0 K := ⟨_, rfl⟩
    have C9 : Hid (CellsAt w9 s2 0 K) := by rw [hw9]; exact CB.out.stored (by rw [LK.out]; rfl)
    have B9 : Hid (Below w.heap.size w w9) := by rw [hw9]; exact B2.out.trans ((But.cells s2 K 0 w3).below B2.out.size (fun g hg e => by have e : g = s2 := e; have := Z2.out; omega))
    have EK : Hid (Value.agg #[.int .i64 0, .int .u32 0, .int .u32 0, .int .u32 0, .bool false, .int .i64 0, .int .u32 0, .int .u32 0, .int .u32 0, .int .u32 0, .int .u32 0] = .agg K.toArray) := by rw [hK]; exact rfl
    have hw9' := hw9.symm
    have HK := hide hK
    clear hw9 hK
    go_wp2_with (refine wpList_storeA rfl 24 11 sizCt _ _ rfl s2 0 rfl K zCt.cells EK.out LK.out rfl CB.out FB.out OK.out ?_; intro _; rw [hw9'])
    refine bodyPost_ret (v := .tuple #[.agg K.toArray, .int .i64 1]) (results_2 rfl _ _ s2 _ _ rfl rfl (run_loadVarA 24 11 aggCt sizCt s2 0 _ LK.out C9.out)) rfl ?_
    exact ⟨by rw [HK.out, HER.out], B9.out⟩
  | true =>
    go_wp2_with (refine wpList_loadAg 28 10 aggSg sizSg _ rfl s1 0 rfl Z LZ.out CS.out (by kernel_rfl) ?_)
    refine (H16.out w3).mono ?_
    rintro _ w4 ⟨rfl, bz⟩
    have CS1 := hide (CS.out.later L12.out bz)
    have O1 := hide (O2.out.later bz)
    have B1 := hide (later B2.out bz)
    have L1 : Hid (s1 < w4.heap.size) := Nat.lt_of_lt_of_le L12.out bz.size
    clear bz H16 CS O2 B2 L12
    have CS := CS1
    have O2 := O1
    have B2 := B1
    have L12 := L1
    clear CS1 O1 B1 L1
    cases h16 with
    | true =>
      have EE : E = 1 := by rw [HE.out]; unfold pasE; rw [if_neg (by rw [PB.out]; simp)]
      have ER : C = zCt := by rw [HC.out]; unfold pasC; rw [if_neg (by rw [PB.out]; simp)]
      subst EE
      have HER := hide ER
      clear ER
      obtain ⟨K, hK⟩ : ∃ K, K = zCt.cells := ⟨_, rfl⟩
      have LK : Hid (K.length = 11) := by rw [hK]; exact rfl
      have OK : Hid (∀ u ∈ K, u.oneCell' = true) := by rw [hK]; exact ct_one _
      have CB := hide O2.out.1
      have FB := hide O2.out.2.1
      obtain ⟨w9, hw9⟩ : ∃ w9, w9 = w4.setCells s2 0 K := ⟨_, rfl⟩
      have C9 : Hid (CellsAt w9 s2 0 K) := by rw [hw9]; exact CB.out.stored (by rw [LK.out]; rfl)
      have B9 : Hid (Below w.heap.size w w9) := by rw [hw9]; exact B2.out.trans ((But.cells s2 K 0 w4).below B2.out.size (fun g hg e => by have e : g = s2 := e; have := Z2.out; omega))
      have EK : Hid (Value.agg #[.int .i64 0, .int .u32 0, .int .u32 0, .int .u32 0, .bool false, .int .i64 0, .int .u32 0, .int .u32 0, .int .u32 0, .int .u32 0, .int .u32 0] = .agg K.toArray) := by rw [hK]; exact rfl
      have hw9' := hw9.symm
      have HK := hide hK
      clear hw9 hK
      go_wp2_with (refine wpList_storeA rfl 24 11 sizCt _ _ rfl s2 0 rfl K zCt.cells EK.out LK.out rfl CB.out FB.out OK.out ?_; intro _; rw [hw9'])
      refine bodyPost_ret (v := .tuple #[.agg K.toArray, .int .i64 1]) (results_2 rfl _ _ s2 _ _ rfl rfl (run_loadVarA 24 11 aggCt sizCt s2 0 _ LK.out C9.out)) rfl ?_
      exact ⟨by rw [HK.out, HER.out], B9.out⟩
    | false =>
      go_wp2_with (refine wpList_loadAg 28 10 aggSg sizSg _ rfl s1 0 rfl Z LZ.out CS.out (by kernel_rfl) ?_)
      refine (H4.out w4).mono ?_
      rintro _ w5 ⟨rfl, bz⟩
      have CS1 := hide (CS.out.later L12.out bz)
      have O1 := hide (O2.out.later bz)
      have B1 := hide (later B2.out bz)
      have L1 : Hid (s1 < w5.heap.size) := Nat.lt_of_lt_of_le L12.out bz.size
      clear bz H4 CS O2 B2 L12
      have CS := CS1
      have O2 := O1
      have B2 := B1
      have L12 := L1
      clear CS1 O1 B1 L1
      cases h4 with
      | true =>
        have EE : E = 1 := by rw [HE.out]; unfold pasE; rw [if_neg (by rw [PB.out]; simp)]
        have ER : C = zCt := by rw [HC.out]; unfold pasC; rw [if_neg (by rw [PB.out]; simp)]
        subst EE
        have HER := hide ER
        clear ER
        obtain ⟨K, hK⟩ : ∃ K, K = zCt.cells := ⟨_, rfl⟩
        have LK : Hid (K.length = 11) := by rw [hK]; exact rfl
        have OK : Hid (∀ u ∈ K, u.oneCell' = true) := by rw [hK]; exact ct_one _
        have CB := hide O2.out.1
        have FB := hide O2.out.2.1
        obtain ⟨w9, hw9⟩ : ∃ w9, w9 = w5.setCells s2 0 K := ⟨_, rfl⟩
        have C9 : Hid (CellsAt w9 s2 0 K) := by rw [hw9]; exact CB.out.stored (by rw [LK.out]; rfl)
        have B9 : Hid (Below w.heap.size w w9) := by rw [hw9]; exact B2.out.trans ((But.cells s2 K 0 w5).below B2.out.size (fun g hg e => by have e : g = s2 := e; have := Z2.out; omega))
        have EK : Hid (Value.agg #[.int .i64 0, .int .u32 0, .int .u32 0, .int .u32 0, .bool false, .int .i64 0, .int .u32 0, .int .u32 0, .int .u32 0, .int .u32 0, .int .u32 0] = .agg K.toArray) := by rw [hK]; exact rfl
        have hw9' := hw9.symm
        have HK := hide hK
        clear hw9 hK
        go_wp2_with (refine wpList_storeA rfl 24 11 sizCt _ _ rfl s2 0 rfl K zCt.cells EK.out LK.out rfl CB.out FB.out OK.out ?_; intro _; rw [hw9'])
        refine bodyPost_ret (v := .tuple #[.agg K.toArray, .int .i64 1]) (results_2 rfl _ _ s2 _ _ rfl rfl (run_loadVarA 24 11 aggCt sizCt s2 0 _ LK.out C9.out)) rfl ?_
        exact ⟨by rw [HK.out, HER.out], B9.out⟩
      | false =>
        go_wp2_with (refine wpList_loadAg 28 10 aggSg sizSg _ rfl s1 0 rfl Z LZ.out CS.out (by kernel_rfl) ?_)
        refine (H1.out w5).mono ?_
        rintro _ w6 ⟨rfl, bz⟩
        have CS1 := hide (CS.out.later L12.out bz)
        have O1 := hide (O2.out.later bz)
        have B1 := hide (later B2.out bz)
        have L1 : Hid (s1 < w6.heap.size) := Nat.lt_of_lt_of_le L12.out bz.size
        clear bz H1 CS O2 B2 L12
        have CS := CS1
        have O2 := O1
        have B2 := B1
        have L12 := L1
        clear CS1 O1 B1 L1
        cases h1 with
        | true =>
          have EE : E = 1 := by rw [HE.out]; unfold pasE; rw [if_neg (by rw [PB.out]; simp)]
          have ER : C = zCt := by rw [HC.out]; unfold pasC; rw [if_neg (by rw [PB.out]; simp)]
          subst EE
          have HER := hide ER
          clear ER
          obtain ⟨K, hK⟩ : ∃ K, K = zCt.cells := ⟨_, rfl⟩
          have LK : Hid (K.length = 11) := by rw [hK]; exact rfl
          have OK : Hid (∀ u ∈ K, u.oneCell' = true) := by rw [hK]; exact ct_one _
          have CB := hide O2.out.1
          have FB := hide O2.out.2.1
          obtain ⟨w9, hw9⟩ : ∃ w9, w9 = w6.setCells s2 0 K := ⟨_, rfl⟩
          have C9 : Hid (CellsAt w9 s2 0 K) := by rw [hw9]; exact CB.out.stored (by rw [LK.out]; rfl)
          have B9 : Hid (Below w.heap.size w w9) := by rw [hw9]; exact B2.out.trans ((But.cells s2 K 0 w6).below B2.out.size (fun g hg e => by have e : g = s2 := e; have := Z2.out; omega))
          have EK : Hid (Value.agg #[.int .i64 0, .int .u32 0, .int .u32 0, .int .u32 0, .bool false, .int .i64 0, .int .u32 0, .int .u32 0, .int .u32 0, .int .u32 0, .int .u32 0] = .agg K.toArray) := by rw [hK]; exact rfl
          have hw9' := hw9.symm
          have HK := hide hK
          clear hw9 hK
          go_wp2_with (refine wpList_storeA rfl 24 11 sizCt _ _ rfl s2 0 rfl K zCt.cells EK.out LK.out rfl CB.out FB.out OK.out ?_; intro _; rw [hw9'])
          refine bodyPost_ret (v := .tuple #[.agg K.toArray, .int .i64 1]) (results_2 rfl _ _ s2 _ _ rfl rfl (run_loadVarA 24 11 aggCt sizCt s2 0 _ LK.out C9.out)) rfl ?_
          exact ⟨by rw [HK.out, HER.out], B9.out⟩
        | false =>
          have EE : E = 0 := by rw [HE.out]; unfold pasE; rw [if_pos (by rw [PB.out]; rfl)]
          have ER : C = { synC (begC 2 (fst32 now)) s with wl2 := fst32 now } := by rw [HC.out]; unfold pasC; rw [if_pos (by rw [PB.out]; rfl)]
          subst EE
          have HER := hide ER
          clear ER
          have BW : ∀ W, Below w6.heap.size w6.drew W → Below w6.heap.size w6 W := fun W hb => later (later_drew _) hb
          have CSZ : CellsAt w6 s1 0 (s.cells gv dv) := by rw [← ZV.out]; exact CS.out
          have l12 := L12.out
          go_upto_region 3 with fail
          refine region_grow_store (w := w6) (fun i v W => match i with | 0 => v = .int .i64 now | 1 => v = .agg (begC 2 (fst32 now)).cells.toArray | 2 => v = .agg (s.cells gv dv).toArray | 3 => v = .agg (synC (begC 2 (fst32 now)) s).cells.toArray | 4 => BoxCt w6.heap.size W v | _ => True) (by kernel_rfl) (by kernel_rfl) (by kernel_rfl) 5 rfl _ rfl rfl (no_guard (by kernel_rfl)) (fun i v W W' h hb => match i, h with | 0, h => h | 1, h => h | 2, h => h | 3, h => h | 4, h => BoxCt.later h hb | _ + 5, h => h) ?_ ?_
          · intro listed a W hM hn i o ho hlt hr
            have B := hM.bel
            match i, ho, hlt, hr with
            | 0, ho, _, hr =>
              have u1 : a.eval (.tmp 1) = .int .i64 now := hM.keep (t := 1) (by kernel_rfl)
              exact Step.of rfl (.inl ⟨.int .i64 now, W, exec_move _ _ rfl u1, Below.refl _ _, rfl⟩) ho
            | 1, ho, _, hr =>
              have u23 := hM.use hr rfl (j := 0) (by kernel_rfl) rfl rfl
              have u23 : a.eval (.tmp 23) = .int .i64 now := u23
              refine Step.of rfl (.inr ⟨32, #[.int .i64 2, .int .i64 now], exec_callF _ _ _ _ rfl (map2 rfl u23) (enters_of Try.func32 (by kernel_rfl) rfl), ?_⟩) ho
              exact (begun_any 2 now W).mono fun e w' h => ⟨_, h.1, rfl, h.2⟩
            | 2, ho, _, hr =>
              have u2 : a.eval (.tmp 2) = .pointer (some ⟨s1, 0, none⟩) := hM.keep (t := 2) (by kernel_rfl)
              exact Step.of rfl (.inl ⟨.agg (s.cells gv dv).toArray, W, exec_loadA 28 10 aggSg sizSg _ rfl s1 0 u2 (s.cells gv dv) rfl (CSZ.later l12 (BW W B)), Below.refl _ _, rfl⟩) ho
            | 3, ho, _, hr =>
              have u24 := hM.use hr rfl (j := 1) (by kernel_rfl) rfl rfl
              have u24 : (fun v W => v = .agg (begC 2 (fst32 now)).cells.toArray) (a.eval (.tmp 24)) W := u24
              have u25 := hM.use hr rfl (j := 2) (by kernel_rfl) rfl rfl
              have u25 : a.eval (.tmp 25) = .agg (s.cells gv dv).toArray := u25
              refine Step.of rfl (.inr ⟨31, #[.agg (begC 2 (fst32 now)).cells.toArray, .agg (s.cells gv dv).toArray], exec_callF _ _ _ _ rfl (map2 u24 u25) (enters_of Try.func31 (by kernel_rfl) rfl), ?_⟩) ho
              exact (withSyn_any (begC 2 (fst32 now)) s gv dv W).mono fun e w' h => ⟨_, h.1, rfl, h.2⟩
            | 4, ho, _, hr =>
              refine Step.of rfl (.inl ?_) ho
              exact boxCt_made rfl hn
            | n + 5, _, hlt, _ => exact absurd hlt (by omega)
          intro listed a W hM hl
          have B := hM.bel
          have p23 : a.tmps.getD 23 undef = .int .i64 now := hM.got 0 _ _ rfl (hl 0 (by decide)) rfl
          have p24 : (fun v W => v = .agg (begC 2 (fst32 now)).cells.toArray) (a.tmps.getD 24 undef) W := hM.got 1 _ _ rfl (hl 1 (by decide)) rfl
          have p25 : a.tmps.getD 25 undef = .agg (s.cells gv dv).toArray := hM.got 2 _ _ rfl (hl 2 (by decide)) rfl
          have p26 : (fun v W => v = .agg (synC (begC 2 (fst32 now)) s).cells.toArray) (a.tmps.getD 26 undef) W := hM.got 3 _ _ rfl (hl 3 (by decide)) rfl
          have p6 : (fun v W => BoxCt w6.heap.size W v) (a.tmps.getD 6 undef) W := hM.got 4 _ _ rfl (hl 4 (by decide)) rfl
          obtain ⟨s9, e9, h91, h92⟩ := p6
          refine ⟨W.setCells s9 0 (synC (begC 2 (fst32 now)) s).cells, exec_storeA 24 11 sizCt (.tmp 6) (.tmp 26) rfl s9 0 e9 _ zCt.cells p26 rfl rfl h92.1 h92.2.1 (ct_one _), ?_⟩
          rw [hM.lit [23, 24, 25, 26, 6] (by kernel_rfl)]
          clear hM hl
          simp only [fill, List.foldl_cons, List.foldl_nil, Act.put, List.setIfInBounds_toArray, List.set_cons_zero, List.set_cons_succ]
          clear p23
          generalize a.tmps.getD 23 undef = x23 at *
          generalize a.tmps.getD 24 undef = x24 at *
          clear p25
          generalize a.tmps.getD 25 undef = x25 at *
          generalize a.tmps.getD 26 undef = x26 at *
          generalize a.tmps.getD 6 undef = x6 at *
          obtain ⟨f, hf⟩ : ∃ f, f = fst32 now := ⟨_, rfl⟩
          rw [← hf] at HER ⊢
          obtain ⟨Y, hY⟩ : ∃ Y, Y = synC (begC 2 f) s := ⟨_, rfl⟩
          have YI : Y.iss = f := by rw [hY]; rfl
          rw [← hY] at HER ⊢
          obtain ⟨w7, hw7⟩ : ∃ w7, w7 = W.setCells s9 0 Y.cells := ⟨_, rfl⟩
          rw [← hw7]
          have BQ := BW W B
          have o7 : OwnC w7 s9 Y := by rw [hw7]; exact h92.all Y
          have s69 : w6.heap.size ≤ s9 := h91
          have n29 : s9 ≠ s2 := by have := O2.out.2.2; omega
          have b67 : Below w6.heap.size w6 w7 := by rw [hw7]; exact BQ.trans ((But.cells s9 Y.cells 0 W).below BQ.size (fun g hg e => by have e : g = s9 := e; omega))
          have x1 : w7.cell? ⟨s9, 1, none⟩ = some (.int .u32 f) := by have h := o7.1 1 _ rfl; rw [YI] at h; exact h
          have x7 : w7.cell? ⟨s9, 7, none⟩ = some (.int .u32 Y.wl2) := o7.1 7 _ rfl
          have f7 := o7.2.1 7
          obtain ⟨w8, hw8⟩ : ∃ w8, w8 = w7.setCell ⟨s9, 7, none⟩ (.int .u32 f) := ⟨_, rfl⟩
          obtain ⟨K, hK⟩ : ∃ K, K = ({ Y with wl2 := f } : Ct).cells := ⟨_, rfl⟩
          have LK : Hid (K.length = 11) := by rw [hK]; exact rfl
          have OK : Hid (∀ u ∈ K, u.oneCell' = true) := by rw [hK]; exact ct_one _
          have O8 : Hid (CellsAt w8 s9 0 K) := by rw [hw8, hK]; exact (o7.one (k := 7) (c' := { Y with wl2 := f }) (by decide) (.int .u32 f) rfl).1
          have bo8 : But (Only s9) w7 w8 := by rw [hw8]; exact (But.refl (Only s9) w7).setOf (b := s9) rfl 7 _
          have OB : Hid (OwnC w8 s2 zCt) := (O2.out.later b67).but bo8 (fun e => n29 (Eq.symm e))
          have b68 : Below w6.heap.size w6 w8 := b67.trans (bo8.below b67.size (fun g hg e => by have e : g = s9 := e; omega))
          have B8 := hide (later B2.out b68)
          have CB := hide OB.out.1
          have FB := hide OB.out.2.1
          obtain ⟨w9, hw9⟩ : ∃ w9, w9 = w8.setCells s2 0 K := ⟨_, rfl⟩
          have C9 : Hid (CellsAt w9 s2 0 K) := by rw [hw9]; exact CB.out.stored (by rw [LK.out]; rfl)
          have B9 : Hid (Below w.heap.size w w9) := by rw [hw9]; exact B8.out.trans ((But.cells s2 K 0 w8).below B8.out.size (fun g hg e => by have e : g = s2 := e; have := Z2.out; omega))
          have hw8' := hw8.symm
          have hw9' := hw9.symm
          have HK := hide hK
          subst e9
          clear hw7 hw8 hw9 hK hf hY BQ o7 s69 n29 b67 bo8 b68 h91 h92 B BW OB
          go_upto_region 5 with fail
          clear x1 x7 f7 hw8'
          go_wp2_with (first | refine wpList_loadA rfl 24 11 aggCt sizCt _ rfl s9 0 rfl K LK.out O8.out ?_ | (refine wpList_storeA rfl 24 11 sizCt _ _ rfl s2 0 rfl K zCt.cells rfl LK.out rfl CB.out FB.out OK.out ?_; intro _; rw [hw9']))
          refine bodyPost_ret (v := .tuple #[.agg K.toArray, .int .i64 0]) (results_2 rfl _ _ s2 _ _ rfl rfl (run_loadVarA 24 11 aggCt sizCt s2 0 _ LK.out C9.out)) rfl ?_
          exact ⟨by rw [HK.out, HER.out], B9.out⟩
end Go.Proofs.Ytgdcdgofahhfdaa
