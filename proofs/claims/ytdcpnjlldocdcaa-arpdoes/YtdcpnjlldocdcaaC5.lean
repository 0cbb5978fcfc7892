
/-
  The document's cache: Tick.
-/
import Derived.Test.YtdcpnjlldocdcaaC4
namespace Go.Proofs.Ytdcpnjlldocdcaa
open Go.RowKit Go.Shelf

/-- the round's memory: what is gathered, and that nothing older has turned -/
structure RkI (ρ : Nat → Role) (k : Nat) (m : M6) (i : I4) (now : Int) (w : World) (Lt : List (Nat × Nb)) (q : Nat) (av gv lv : Value) (W : World) : Prop where
  r : ∃ σ V, RkR ρ k m i w.heap.size (tkA now ((Lt.take q).map Prod.snd)) (tkG now ((Lt.take q).map Prod.snd)) (tkT now (Lt.take q)) σ av gv lv V W
  b : Below w.heap.size w W
set_option maxRecDepth 100000 in
set_option maxHeartbeats 8000000 in
theorem rtick_any {ρ : Nat → Role} {k : Nat} {w : World} {b : Nat} {m : M6} {i : I4} {lv0 : Value} {Lt : List (Nat × Nb)} (h : CAt ρ k w b m i lv0 Lt) (hF : Fit ρ w) (now : Int) (hok : LOk now (Lt.map Prod.snd)) (hn1 : now ≤ 4611686018427387904) :
    Calls Try.prog 31 #[.pointer (some ⟨b, 0, none⟩), .int .i64 now] w (TkEnd ρ k w b m i now (Lt.map Prod.snd)) := by
  have hlen : Lt.length ≤ 8 := by have := hok.len; simpa using this
  obtain ⟨V0, hR0, hP0⟩ := h.row.parts
  obtain ⟨a0, c0, rfl⟩ := hR0.shape
  obtain ⟨n, hn⟩ : ∃ n, n = Lt.length := ⟨_, rfl⟩
  rw [← hn] at h
  have HN := hide hn
  have zn : (n : Int) ≤ 8 := by omega
  have H := hide h
  have HF := hide hF
  have HOK := hide hok
  have HR0 := hide hR0
  have HP0 := hide hP0
  have KL : Hid (∀ g t, ρ g = (k, 2, t) → g < w.heap.size) := fun g t e => Classical.byContradiction fun hg => by
    rw [hF g (by omega)] at e
    simp only [Prod.mk.injEq] at e
    have := h.pos
    omega
  clear hn h hF hok hR0 hP0 hlen
  go_enter Try.func31, Try.ntmps31
  go_wp2
  go_loopw [6, 7, 8, 9] (fun v6 v7 v8 v9 wr => ∃ (q : Nat) (aa : Option Addr) (al ac : Nat) (ga : Option Addr) (gl gc : Nat) (la : Option Addr) (ll lc : Nat), v9 = .int .i64 (q : Int) ∧ v6 = .slice aa al ac ∧ v7 = .slice ga gl gc ∧ v8 = .slice la ll lc ∧ q ≤ n ∧ Hid (RkI ρ k m i now w Lt q (.slice aa al ac) (.slice ga gl gc) (.slice la ll lc) wr)) (fun _ _ _ v9 _ => n - (intOf v9).toNat)
  case atStart => exact ⟨0, none, 0, 0, none, 0, 0, none, 0, 0, rfl, rfl, rfl, rfl, by omega, ⟨⟨_, fun _ => undef, RkR.nil _ _ _ _ _ _ _⟩, Below.refl _ _⟩⟩
  case round =>
    obtain ⟨q, aa, al, ac, ga, gl, gc, la, ll, lc, rfl, rfl, rfl, rfl, hq, HI⟩ := hrel
    have HW := hide (H.out.later HI.out.b)
    have xl : wr.cell? ⟨b, 10, none⟩ = some (.slice a0 n c0) := HW.out.lst
    by_cases hlt : q < n
    · have hN := HN.out
      obtain ⟨⟨t, x⟩, hx⟩ : ∃ p, Lt[q]? = some p := ⟨_, List.getElem?_eq_getElem (by omega)⟩
      obtain ⟨g, eg, hg0, hro, -, hc0⟩ := HR0.out.at (by omega)
      subst eg
      have cx0 := hc0 q (by omega)
      rw [nbc_at hx] at cx0
      obtain ⟨hrow0, hnil0⟩ := HP0.out q t x hx
      obtain ⟨va, vc, hV0⟩ := hrow0.shape
      have hX := HOK.out.all x (List.mem_of_getElem? (i := q) (by rw [List.getElem?_map, hx]; rfl))
      rw [hV0] at cx0 hrow0 hnil0
      obtain ⟨pn, hpn⟩ : ∃ pn, pn = x.pd.length := ⟨_, rfl⟩
      rw [← hpn] at cx0 hrow0 hnil0
      have CX : Hid (CellsAt wr g (q * 15) (x.cells (.slice va pn vc))) := cx0.later hg0 HI.out.b
      have RX : Hid (∀ W, Below w.heap.size w W → RowN (fun g => ρ g = (k, 2, t)) W (.slice va pn vc) x.pd) := fun W hb => hrow0.later hb
      have NX : Hid (x.pd = [] → Value.slice va pn vc = .slice none 0 0) := hnil0
      have bX : Hid (0 ≤ x.asked ∧ x.asked ≤ now ∧ 0 ≤ x.tries ∧ x.tries ≤ 3 ∧ x.pd.length ≤ 2) := ⟨hX.asked0, hX.asked1, hX.tries0, hX.tries1, hX.pd2⟩
      obtain ⟨s, hs⟩ : ∃ s, s = wr.heap.size := ⟨_, rfl⟩
      obtain ⟨wA, hwA⟩ : ∃ wA, wA = wr.alloc (.cells zN.toArray 66) := ⟨_, rfl⟩
      have CA : Hid (CellsAt wA s 0 zN) := by rw [hwA, hs]; exact CellsAt.new wr _ _
      have FA : Hid (∀ y, wA.frozen? ⟨s, y, none⟩ = false) := fun y => by rw [hwA, hs]; exact frozen_new wr _ _ _
      have bA : Below wr.heap.size wr wA := by rw [hwA]; exact (Below.refl _ _).alloc (Nat.le_refl _) _
      obtain ⟨w2, hw2⟩ : ∃ w2, w2 = wA.setCells s 0 (x.cells (.slice va pn vc)) := ⟨_, rfl⟩
      have b2 : Below wr.heap.size wr w2 := by rw [hw2]; exact bA.trans ((But.cells s (x.cells (.slice va pn vc)) 0 wA).below bA.size (fun g hg e => by have e : g = s := e; omega))
      have c2 : CellsAt w2 s 0 (x.cells (.slice va pn vc)) := by rw [hw2]; exact CA.out.stored rfl
      have f2 : ∀ y, w2.frozen? ⟨s, y, none⟩ = false := fun y => by rw [hw2, World.frozen?_setCells]; exact FA.out y
      have s2 : s < w2.heap.size := by rw [hw2, size_setCells, hwA, hs]; simp
      have B2 : Hid (Below wr.heap.size wr w2) := b2
      have C2 := hide c2
      have F2 := hide f2
      have S2 := hide s2
      have HSW : Hid (w.heap.size ≤ s) := by have := HI.out.b.size; unfold Hid; omega
      have HWS := hide hs
      have HPN := hide hpn
      have HX := hide hx
      have x4 := c2 4 _ rfl
      have x12 := c2 12 _ rfl
      simp only [Nat.zero_add] at x4 x12
      have zq : (q : Int) < (n : Int) := by omega
      have hwA' := hwA.symm
      simp only [zN] at hwA'
      have hw2' := hw2.symm
      have hs' := hs.symm
      clear hN hx cx0 hrow0 hnil0 hV0 hX hpn hs hwA hw2 b2 c2 f2 s2 hc0 hg0 hro bA
      go_upto_region 8 with (first | refine wpList_loadA rfl 66 15 aggN sizN _ rfl g (q * 15) rfl (x.cells (.slice va pn vc)) rfl CX.out ?_ | refine wpList_storeA rfl 66 15 sizN _ _ rfl s 0 rfl (x.cells (.slice va pn vc)) zN rfl rfl rfl CA.out FA.out (nb_one _ _ rfl) (fun _ => ?_))
      try simp only [Act.put]
      try rw [hw2']
      clear hwA' hw2' hs' CA FA xl
      have bq := bX.out
      go_cut [36] from 27 to 35 (fun v36 wx => v36 = .bool (tkQ now x) ∧ w2 = wx)
      case first =>
        by_cases e2 : x.st = 2
        · have q0 : (x.st == 2) = true := by rw [e2]; rfl
          have e : tkQ now x = true := by unfold tkQ; rw [decide_eq_true e2]; rfl
          have HE := hide e
          clear e e2
          go_wp2
          go_meet
          exact ⟨by rw [HE.out], rfl⟩
        · have q0 : (x.st == 2) = false := by rw [beq_dec]; exact decide_eq_false e2
          have w1 : wrap64 (now - x.asked) = now - x.asked := by unfold wrap64; omega
          have e : decide (now - x.asked < 2) = tkQ now x := by
            unfold tkQ
            rw [decide_eq_false e2, Bool.false_or, ← decide_not]
            exact decide_eq_decide.2 (by omega)
          clear e2 bq
          go_wp2
          go_meet
          exact ⟨rfl, rfl⟩
      case rest =>
        obtain ⟨rfl, hw⟩ := hcut
        subst hw
        clear x4 x12
        have x13 := C2.out 13 _ rfl
        have x14 := C2.out 14 _ rfl
        simp only [Nat.zero_add] at x13 x14
        have hsW := HWS.out
        have hSW := HSW.out
        have hS2 := S2.out
        have Bw2 : Hid (Below w.heap.size w w2) := HI.out.b.trans (B2.out.mono HI.out.b.size)
        obtain ⟨σ, V, hR⟩ := HI.out.r
        have NSS : Hid (σ s = 0) := Classical.byContradiction fun e => by
          have := (hR.new s e).2
          omega
        have R2 := hR.later B2.out
        have lens : (tkT now (Lt.take q)).length ≤ 8 ∧ (tkA now ((Lt.take q).map Prod.snd)).length ≤ 8 ∧ (tkG now ((Lt.take q).map Prod.snd)).length ≤ 16 := by
          have h8 := HOK.out.len
          rw [List.length_map] at h8
          have t8 : (Lt.take q).length ≤ 8 := by rw [List.length_take]; omega
          refine ⟨Nat.le_trans (List.length_filterMap_le _ _) t8, Nat.le_trans (List.length_filterMap_le _ _) (by rw [List.length_map]; exact t8), ?_⟩
          have := tkG_len (now := now) (L := (Lt.take q).map Prod.snd) (fun y hy => (HOK.out.all y (by rw [List.map_take] at hy; exact List.mem_of_mem_take hy)).pd2)
          rw [List.length_map] at this
          omega
        have ea : al = (tkA now ((Lt.take q).map Prod.snd)).length := by obtain ⟨a9, c9, e9, _⟩ := hR.ra; simp only [Value.slice.injEq] at e9; exact e9.2.1
        have eg2 : gl = (tkG now ((Lt.take q).map Prod.snd)).length := by obtain ⟨a9, c9, e9, _⟩ := hR.rg; simp only [Value.slice.injEq] at e9; exact e9.2.1
        have el : ll = (tkT now (Lt.take q)).length := by obtain ⟨a9, c9, e9, _⟩ := hR.rl; simp only [Value.slice.injEq] at e9; exact e9.2.1
        have EA := hide ea
        have EG := hide eg2
        have EL := hide el
        have LEN := hide lens
        have HR2 := hide R2
        clear hR R2 lens ea eg2 el
        cases hQ : tkQ now x with
        | true =>
          have hk1 : tk1 now x = some x := by unfold tk1; rw [if_pos hQ]
          have hkA : tkA1 now x = none := by unfold tkA1; rw [if_pos hQ]
          have hkG : tkG1 now x = [] := by unfold tkG1; rw [if_pos hQ]
          obtain ⟨p, hp⟩ : ∃ p, p = w2.heap.size := ⟨_, rfl⟩
          obtain ⟨w3, hw3⟩ : ∃ w3, w3 = w2.alloc (.cells (x.cells (.slice va pn vc)).toArray 66) := ⟨_, rfl⟩
          have b3 : Below w2.heap.size w2 w3 := by rw [hw3]; exact (Below.refl _ _).alloc (Nat.le_refl _) _
          have c3 : CellsAt w3 p 0 (x.cells (.slice va pn vc)) := by rw [hw3, hp]; exact CellsAt.new w2 _ _
          have B3 : Below w.heap.size w w3 := Bw2.out.trans (b3.mono Bw2.out.size)
          obtain ⟨a', c', w4, hrun, hb4, σ', V', R4⟩ := (HR2.out.later b3).left B3.size KL.out (by have := LEN.out.1; omega) t x (.slice va pn vc) (RX.out w3 B3) NX.out p c3
          have HRUN := hide hrun
          rw [← EL.out] at HRUN
          have FI : Hid (RkI ρ k m i now w Lt (q + 1) (.slice aa al ac) (.slice ga gl gc) (.slice a' (ll + 1) c') w4) := by
            refine ⟨⟨σ', V', ?_⟩, B3.trans (hb4.below B3.size (fun g hg e => by have e : σ g = 1 := e; have := (HR2.out.new g (by rw [e]; omega)).1; omega))⟩
            rw [tkA_take HX.out, tkG_take HX.out, tkT_take HX.out, hk1, hkA, hkG, EL.out]
            simpa using R4
          have hw3' := hw3.symm
          have hp' := hp.symm
          clear hk1 hkA hkG b3 c3 B3 hrun hb4 R4 hw3 hp hsW hSW hS2 hQ bq
          go_wp2_with (first | refine wpList_loadA rfl 66 15 aggN sizN _ rfl s 0 rfl (x.cells (.slice va pn vc)) rfl C2.out ?_ | (refine wpList_val rfl (exec_bsN (.tmp 38) x va pn vc rfl rfl) ?_; rw [hw3', hp']) | (at_builtin; refine wpList_appT rfl 41 _ _ rfl rfl _ _ rfl rfl HRUN.out ?_))
          go_roundw
          case rel => exact ⟨q + 1, aa, al, ac, ga, gl, gc, a', ll + 1, c', val_int (by omega), rfl, rfl, rfl, by omega, FI.out⟩
          case measure => simp [intOf]; omega
        | false =>
          by_cases h3 : x.tries = 3
          · have q3 : (x.tries == 3) = true := by rw [h3]; rfl
            have hk1 : tk1 now x = none := by unfold tk1; rw [if_neg (by rw [hQ]; simp), if_pos h3]
            have hkA : tkA1 now x = none := by unfold tkA1; rw [if_neg (by rw [hQ]; simp), if_pos h3]
            have hkG : tkG1 now x = x.pd := by unfold tkG1; rw [if_neg (by rw [hQ]; simp), if_pos h3]
            obtain ⟨a', c', w4, hrun, hb4, σ', R4⟩ := HR2.out.gone Bw2.out.size KL.out x.pd (.slice va pn vc) (RX.out w2 Bw2.out) (by have := LEN.out; omega)
            obtain ⟨gl2, hgl2⟩ : ∃ gl2, gl2 = (tkG now ((Lt.take q).map Prod.snd) ++ x.pd).length := ⟨_, rfl⟩
            rw [← hgl2] at hrun R4
            have HRUN := hide hrun
            have FI : Hid (RkI ρ k m i now w Lt (q + 1) (.slice aa al ac) (.slice a' gl2 c') (.slice la ll lc) w4) := by
              refine ⟨⟨σ', V, ?_⟩, Bw2.out.trans (hb4.below Bw2.out.size (fun g hg e => by have e : σ g = 3 := e; have := (HR2.out.new g (by rw [e]; omega)).1; omega))⟩
              rw [tkA_take HX.out, tkG_take HX.out, tkT_take HX.out, hk1, hkA, hkG]
              simpa using R4
            clear hk1 hkA hkG hrun hb4 R4 hsW hSW hS2 hQ h3 bq hgl2
            go_wp2_with (at_builtin; refine wpList_appI rfl _ _ rfl rfl _ _ rfl rfl HRUN.out ?_)
            go_roundw
            case rel => exact ⟨q + 1, aa, al, ac, a', gl2, c', la, ll, lc, val_int (by omega), rfl, rfl, rfl, by omega, FI.out⟩
            case measure => simp [intOf]; omega
          · have q3 : (x.tries == 3) = false := by rw [beq_dec]; exact decide_eq_false h3
            have hk1 : tk1 now x = some { x with tries := x.tries + 1, asked := now } := by unfold tk1; rw [if_neg (by rw [hQ]; simp), if_neg h3]
            have hkA : tkA1 now x = some x.ip := by unfold tkA1; rw [if_neg (by rw [hQ]; simp), if_neg h3]
            have hkG : tkG1 now x = [] := by unfold tkG1; rw [if_neg (by rw [hQ]; simp), if_neg h3]
            obtain ⟨w3, hw3⟩ : ∃ w3, w3 = w2.setCell ⟨s, 13, none⟩ (.int .i64 (x.tries + 1)) := ⟨_, rfl⟩
            obtain ⟨w4, hw4⟩ : ∃ w4, w4 = w3.setCell ⟨s, 12, none⟩ (.int .i64 now) := ⟨_, rfl⟩
            have p3 := C2.out.put 13 (.int .i64 (x.tries + 1)) (by rw [Nb.cells_len]; omega)
            rw [Nat.zero_add, ← hw3] at p3
            have p4 := p3.put 12 (.int .i64 now) (by rw [List.length_set, Nb.cells_len]; omega)
            rw [Nat.zero_add, ← hw4] at p4
            obtain ⟨y, hy⟩ : ∃ y : Nb, y = { x with tries := x.tries + 1, asked := now } := ⟨_, rfl⟩
            have c4 : CellsAt w4 s 0 (y.cells (.slice va pn vc)) := by rw [hy]; exact p4
            have bo : But (Only s) w2 w4 := by rw [hw4, hw3]; exact But.cellb (K := Only s) (b := s) (But.cellb (K := Only s) (b := s) (But.refl _ _) rfl 13 _) rfl 12 _
            have f3 : w3.frozen? ⟨s, 12, none⟩ = false := by rw [hw3, World.frozen?_setCell]; exact F2.out 12
            have f2 := F2.out 13
            have x3 : w3.cell? ⟨s, 12, none⟩ = some (.int .i64 x.asked) := by
              have := p3 12 (.int .i64 x.asked) rfl
              rw [Nat.zero_add] at this
              exact this
            have R4 := HR2.out.but bo (fun g e => by
              have e : g = s := e
              subst e
              exact ⟨NSS.out, fun t' e2 => by have := KL.out g t' e2; omega⟩)
            have Bw4 : Below w.heap.size w w4 := Bw2.out.trans (bo.below Bw2.out.size (fun g hg e => by have e : g = s := e; omega))
            have s4 : s < w4.heap.size := Nat.lt_of_lt_of_le hS2 bo.size
            have RQ := hide (rrequest_any b m i y.ip (H.out.later Bw4).host)
            rw [show y.ip.val = .agg y.ip.vals.toArray from rfl] at RQ
            have CI : Hid (CellsAt w4 s 0 y.ip.vals) := (CellsAt.append.1 c4).1
            have C4 := hide c4
            have HR4 := hide R4
            have HB4 := hide Bw4
            have HS4 := hide s4
            have HY := hide hy
            have hw3' := hw3.symm
            have hw4' := hw4.symm
            have tr := bq.2.2.2.1
            have tr0 := bq.2.2.1
            clear hw3 hw4 p3 p4 c4 bo R4 Bw4 s4 hy bq hsW
            go_wp2_with (refine wpList_loadA rfl 25 4 aggI sizI _ rfl s 0 rfl y.ip.vals rfl CI.out ?_)
            clear hw3' hw4' x13 x14 f2 f3 x3 q3
            refine RQ.out.mono ?_
            rintro _ w5 ⟨rfl, b5⟩
            have hS4 := HS4.out
            have Bw5 : Below w.heap.size w w5 := HB4.out.trans (b5.mono HB4.out.size)
            have R5 := HR4.out.later b5
            have c5 := C4.out.later hS4 b5
            obtain ⟨r, hr⟩ : ∃ r : Ar, r = ⟨false, m, i, zM, y.ip⟩ := ⟨_, rfl⟩
            rw [← hr]
            obtain ⟨p6, hp6⟩ : ∃ p6, p6 = w5.heap.size := ⟨_, rfl⟩
            obtain ⟨w6, hw6⟩ : ∃ w6, w6 = w5.alloc (.cells r.vals.toArray 27) := ⟨_, rfl⟩
            have b6 : Below w5.heap.size w5 w6 := by rw [hw6]; exact (Below.refl _ _).alloc (Nat.le_refl _) _
            have cr : CellsAt w6 p6 0 (Ar.vals ⟨false, m, i, zM, y.ip⟩) := by rw [hw6, hp6, ← hr]; exact CellsAt.new w5 _ _
            have Bw6 : Below w.heap.size w w6 := Bw5.trans (b6.mono Bw5.size)
            have s5 := b5.size
            have s6 := b6.size
            have c6 := c5.later (by omega) b6
            obtain ⟨a7, ac7, w7, hrun7, hb7, σ7, R7⟩ := (R5.later b6).ask Bw6.size KL.out (by have := LEN.out; omega) y.ip p6 cr
            have s7 := hb7.size
            have Bw7 : Below w.heap.size w w7 := Bw6.trans (hb7.below Bw6.size (fun g hg e => by have e : σ g = 2 := e; have := (HR2.out.new g (by rw [e]; omega)).1; omega))
            have c7 : CellsAt w7 s 0 (y.cells (.slice va pn vc)) := c6.but (by omega) hb7 (fun e => by have e : σ s = 2 := e; rw [NSS.out] at e; omega)
            obtain ⟨p8, hp8⟩ : ∃ p8, p8 = w7.heap.size := ⟨_, rfl⟩
            obtain ⟨w8, hw8⟩ : ∃ w8, w8 = w7.alloc (.cells (y.cells (.slice va pn vc)).toArray 66) := ⟨_, rfl⟩
            have b8 : Below w7.heap.size w7 w8 := by rw [hw8]; exact (Below.refl _ _).alloc (Nat.le_refl _) _
            have c8 : CellsAt w8 p8 0 (y.cells (.slice va pn vc)) := by rw [hw8, hp8]; exact CellsAt.new w7 _ _
            have Bw8 : Below w.heap.size w w8 := Bw7.trans (b8.mono Bw7.size)
            have ypd : y.pd = x.pd := by rw [HY.out]
            obtain ⟨a9, ac9, w9, hrun9, hb9, σ9, V9, R9⟩ := (R7.later b8).left Bw8.size KL.out (by have := LEN.out; omega) t y (.slice va pn vc) (by rw [ypd]; exact RX.out w8 Bw8) (by rw [ypd]; exact NX.out) p8 c8
            have HRUN7 := hide hrun7
            have HRUN9 := hide hrun9
            rw [← EA.out] at HRUN7
            rw [← EL.out] at HRUN9
            have C7 := hide c7
            have FI : Hid (RkI ρ k m i now w Lt (q + 1) (.slice a7 (al + 1) ac7) (.slice ga gl gc) (.slice a9 (ll + 1) ac9) w9) := by
              refine ⟨⟨σ9, V9, ?_⟩, Bw8.trans (hb9.below Bw8.size (fun g hg e => by have e : σ7 g = 1 := e; have := (R7.new g (by rw [e]; omega)).1; omega))⟩
              have yip : y.ip = x.ip := by rw [HY.out]
              rw [tkA_take HX.out, tkG_take HX.out, tkT_take HX.out, hk1, hkA, hkG, EL.out, EA.out]
              rw [yip, HY.out] at R9
              simpa using R9
            have hw6' := hw6.symm
            have hp6' := hp6.symm
            have hw8' := hw8.symm
            have hp8' := hp8.symm
            clear hk1 hkA hkG b5 R5 c5 hr hp6 hw6 b6 cr Bw5 Bw6 c6 hrun7 hb7 R7 Bw7 c7 hp8 hw8 b8 c8 Bw8 ypd hrun9 hb9 R9 hSW hS2 hS4 hQ h3 s5 s6 s7
            rw [show r.val = .agg r.vals.toArray from rfl]
            go_wp2_with (first | (refine wpList_val rfl (exec_bsA (.tmp 58) r rfl rfl) ?_; rw [hw6', hp6']) | (at_builtin; refine wpList_appT rfl 53 _ _ rfl rfl _ _ rfl rfl HRUN7.out ?_) | refine wpList_loadA rfl 66 15 aggN sizN _ rfl s 0 rfl (y.cells (.slice va pn vc)) rfl C7.out ?_ | (refine wpList_val rfl (exec_bsN (.tmp 62) y va pn vc rfl rfl) ?_; rw [hw8', hp8']) | (at_builtin; refine wpList_appT rfl 41 _ _ rfl rfl _ _ rfl rfl HRUN9.out ?_))
            go_roundw
            case rel => exact ⟨q + 1, a7, al + 1, ac7, ga, gl, gc, a9, ll + 1, ac9, val_int (by omega), rfl, rfl, rfl, by omega, FI.out⟩
            case measure => simp [intOf]; omega
    · have eq : q = n := by omega
      subst eq
      obtain ⟨σ, V, hT⟩ := HI.out.r
      rw [List.take_of_length_le (by have := HN.out; omega)] at hT
      have bW := HI.out.b
      have fL := HW.out.fz 10
      obtain ⟨ρ', hρ'⟩ : ∃ ρ' : Nat → Role, ∀ h, (σ h = 1 → ρ' h = (k, 1, 0)) ∧ (¬ σ h = 1 → ρ h = (k, 1, 0) → ρ' h = (0, 0, 0)) ∧ (¬ σ h = 1 → ρ h ≠ (k, 1, 0) → ρ' h = ρ h) := by
        refine ⟨fun h => if σ h = 1 then (k, 1, 0) else if ρ h = (k, 1, 0) then (0, 0, 0) else ρ h, fun h => ⟨fun e => if_pos e, fun e e2 => ?_, fun e e2 => ?_⟩⟩
        · show (if σ h = 1 then _ else _) = _
          rw [if_neg e, if_pos e2]
        · show (if σ h = 1 then _ else _) = _
          rw [if_neg e, if_neg e2]
      have sl : ∀ h, σ h = 1 → w.heap.size ≤ h := fun h e => (hT.new h (by rw [e]; omega)).1
      have kp : ∀ h, h < w.heap.size → ρ h ≠ (k, 1, 0) → ρ' h = ρ h := fun h h1 h2 => (hρ' h).2.2 (fun e => by have := sl h e; omega) h2
      have rbb := H.out.rb
      have hbl := H.out.lt
      have hrow : NbRow ρ' k wr (.slice la ll lc) (tkT now Lt) := NbRow.of hT.rl (fun h _ e => (hρ' h).1 e) (hT.pd.but (But.refl (fun _ => False) wr) (fun _ _ _ _ => id) (fun g t _ e _ => (kp g (KL.out g t e) (by rw [e]; simp)).trans e))
      have hcat := H.out.relist (K := fun _ => False) (But.of_below bW) id hrow ((kp b hbl (by rw [rbb]; simp)).trans rbb) (H.out.tags.sublist (tkT_fst now Lt))
      have FIN : Hid (TkEnd ρ k w b m i now (Lt.map Prod.snd) (.returned (.tuple #[.slice aa al ac, .slice ga gl gc])) (wr.setCell ⟨b, 10, none⟩ (.slice la ll lc))) := by
        have b9 : But (Only b) wr (wr.setCell ⟨b, 10, none⟩ (.slice la ll lc)) := (But.refl (Only b) wr).setCell (p := ⟨b, 10, none⟩) (.inr rfl) _
        have no : ∀ x g, x ≠ 0 → σ g = x → ¬ Only b g := fun x g hx e e2 => by
          have := (hT.new g (by rw [e]; exact hx)).1
          have e2 : g = b := e2
          omega
        have fr : ∀ x g, x ≠ 0 → x ≠ 1 → σ g = x → Free ρ ρ' k w g := fun x g hx hx1 e => by
          have h1 := (hT.new g (by rw [e]; exact hx)).1
          have h2 := HF.out g h1
          exact ⟨((hρ' g).2.2 (fun e2 => hx1 (e.symm.trans e2)) (by rw [h2]; simp)).trans h2, .inl h1⟩
        refine ⟨ρ', _, _, rfl, ⟨_, _, tkT_snd now Lt, hcat⟩, fun g hg => ?_, ⟨fun g hg hk => kp g hg (fun e => hk (by rw [e])), ?_⟩, (hT.rg.but b9 (fun g => no 3 g (by omega))).own (fun g _ => fr 3 g (by omega) (by omega)), (hT.ra.but b9 (fun g => no 2 g (by omega))).own (fun g _ => fr 2 g (by omega) (by omega))⟩
        · have hg : wr.heap.size ≤ g := by simpa using hg
          have hz := HF.out g (by have := bW.size; omega)
          rw [(hρ' g).2.2 (fun e => by have := (hT.new g (by rw [e]; omega)).2; omega) (by rw [hz]; simp)]
          exact hz
        · exact (But.of_below bW).trans' b9 (fun g _ e => by have e : g = b := e; rw [e, rbb])
      clear hT hρ' sl kp rbb hbl hrow hcat bW hlt hq
      go_wp2
      go_ret2
      exact FIN.out
theorem rTick_any {ρ : Nat → Role} {k : Nat} {w : World} {b : Nat} {m : M6} {i : I4} {L : List Nb} (h : Ca ρ k w b m i L) (hF : Fit ρ w) (now : Int) (hok : LOk now L) (hn1 : now ≤ 4611686018427387904) :
    Calls Try.prog 31 #[.pointer (some ⟨b, 0, none⟩), .int .i64 now] w (TkEnd ρ k w b m i now L) := by
  obtain ⟨lv, Lt, rfl, h⟩ := h
  exact rtick_any h hF now hok hn1
end Go.Proofs.Ytdcpnjlldocdcaa
