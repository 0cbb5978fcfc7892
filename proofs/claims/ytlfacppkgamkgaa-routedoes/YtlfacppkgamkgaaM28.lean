
/-
  The document's table: in memory; at.
-/
import Derived.Test.YtlfacppkgamkgaaM27
import Derived.Test.YtlfacppkgamkgaaM21
namespace Go.Proofs.Ytlfacppkgamkgaa
open Go.RowKit Go.Shelf

/-- the document's table at q: its row lies behind it -/
structure RfR (W : World) (q : Nat) (ws : List Wy) : Prop where
  row : ∃ v, W.cell? ⟨q, 0, none⟩ = some v ∧ RowF 10 (fun g => q < g) W v ws.length (wyc ws)
  fz : W.frozen? ⟨q, 0, none⟩ = false
  len : ws.length ≤ 8
  ok : ∀ x ∈ ws, x.Ok
theorem RfR.lt {W : World} {q : Nat} {ws : List Wy} (h : RfR W q ws) : q < W.heap.size := by
  obtain ⟨v, h1, _⟩ := h.row
  exact World.block_lt_of_cell? W _ h1
theorem RfR.but {K : Nat → Prop} {W W' : World} {q : Nat} {ws : List Wy} (h : RfR W q ws) (hb : But K W W') (hk : ∀ g, q ≤ g → g < W.heap.size → ¬ K g) : RfR W' q ws := by
  have hl := h.lt
  obtain ⟨v, h1, h2⟩ := h.row
  refine ⟨⟨v, (hb.cell (p := ⟨q, 0, none⟩) hl (hk q (Nat.le_refl _) hl)).trans h1, ?_⟩, (hb.frozen (p := ⟨q, 0, none⟩) hl (hk q (Nat.le_refl _) hl)).trans h.fz, h.len, h.ok⟩
  exact ((h2.own (O' := fun g => q < g ∧ g < W.heap.size) (fun g hg e => ⟨e, hg⟩)).but hb (fun g e => hk g (Nat.le_of_lt e.1) e.2)).own (fun g _ e => e.1)
theorem RfR.later {W W' : World} {q : Nat} {ws : List Wy} (h : RfR W q ws) (hb : Below W.heap.size W W') : RfR W' q ws := h.but (K := fun _ => False) (But.of_below hb) (fun _ _ _ => id)
theorem oneWs (w : World) : (isAgg 27).run Try.prog w = .ok false w := by kernel_rfl
theorem s1Ws (w : World) : (Go.sizeOf 27).run Try.prog w = .ok 1 w := by kernel_rfl
def ixI (n : I4) (k : Int) (ws : List Wy) : Int := match ix n k ws with | some i => (i : Int) | none => -1
theorem ix_none_iff {n : I4} {k : Int} : ∀ {ws : List Wy}, (∀ x ∈ ws, ¬ (x.net = n ∧ x.bits = k)) → ix n k ws = none
  | [], _ => rfl
  | x :: ws, h => by
    unfold ix
    rw [if_neg (h x (by simp)), ix_none_iff (fun y hy => h y (by simp [hy]))]
    rfl
theorem ix_at {n : I4} {k : Int} : ∀ {ws : List Wy} {i : Nat} {x : Wy}, ws[i]? = some x → x.net = n → x.bits = k → (∀ j y, j < i → ws[j]? = some y → ¬ (y.net = n ∧ y.bits = k)) → ix n k ws = some i
  | [], _, _, h, _, _, _ => by cases h
  | y :: ws, 0, x, h, h1, h2, _ => by
    cases h
    unfold ix
    rw [if_pos ⟨h1, h2⟩]
  | y :: ws, i + 1, x, h, h1, h2, h3 => by
    unfold ix
    rw [if_neg (h3 0 y (by omega) rfl), ix_at (ws := ws) (i := i) (x := x) (by simpa using h) h1 h2 (fun j z hj hz => h3 (j + 1) z (by omega) (by simpa using hz))]
    rfl
set_option maxRecDepth 100000 in
set_option maxHeartbeats 4000000 in
theorem at_any (n : I4) (k : Int) {w : World} {q : Nat} {ws : List Wy} (h : RfR w q ws) : Calls Try.prog 19 #[.pointer (some ⟨q, 0, none⟩), n.val, .int .i64 k] w fun e w' => e = .returned (.int .i64 (ixI n k ws)) ∧ Below w.heap.size w w' := by
  obtain ⟨s, hs⟩ : ∃ s, s = w.heap.size := ⟨_, rfl⟩
  obtain ⟨V, hV⟩ : ∃ V, V = n.vals := ⟨_, rfl⟩
  obtain ⟨w1, hw1⟩ : ∃ w1, w1 = w.alloc (.cells V.toArray 31) := ⟨_, rfl⟩
  have b1 : Below w.heap.size w w1 := by rw [hw1]; exact (Below.refl _ w).alloc (Nat.le_refl _) _
  have c1 : CellsAt w1 s 0 n.vals := by rw [hw1, hs, ← hV]; exact CellsAt.new w V 31
  have EV : Hid (n.val = .agg V.toArray) := by rw [hV]; exact rfl
  rw [EV.out]
  have l1 : s < w1.heap.size := c1.lt (by simp [I4.vals])
  have R1 := h.later b1
  obtain ⟨v, cv, rv⟩ := R1.row
  obtain ⟨va, vc, rfl⟩ := rv.shape
  obtain ⟨m, hm⟩ : ∃ m, m = ws.length := ⟨_, rfl⟩
  have m8 : m ≤ 8 := by rw [hm]; exact h.len
  rw [← hm] at cv rv
  obtain ⟨ga, hga⟩ : ∃ ga, 0 < m → va = some ⟨ga, 0, none⟩ ∧ ga < w1.heap.size ∧ ∀ j, j < m → CellsAt w1 ga (j * 10) (wyc ws j) := by
    by_cases e : 0 < m
    · obtain ⟨g, h1, h2, h3, h4, h5⟩ := rv.at e
      exact ⟨g, fun _ => ⟨h1, h2, h5⟩⟩
    · exact ⟨0, fun e' => absurd e' e⟩
  have HB1 := hide b1
  have C1 := hide c1
  have CV := hide cv
  have GA := hide hga
  have HM := hide hm
  have lq : q < w1.heap.size := R1.lt
  have hw1' := hw1.symm
  have hs' := hs.symm
  clear b1 c1 hV hw1 hs R1 rv hga hm h cv
  go_enter Try.func19, Try.ntmps19
  go_wp2
  clear hw1' hs'
  go_loopw [7] (fun vi wr => ∃ i : Nat, vi = .int .i64 (i : Int) ∧ i ≤ m ∧ Hid (∀ j y, j < i → ws[j]? = some y → ¬ (y.net = n ∧ y.bits = k)) ∧ Hid (Below w1.heap.size w1 wr)) (fun vi _ => m - (intOf vi).toNat)
  case atStart => exact ⟨0, rfl, Nat.zero_le _, (fun j y hj => by omega), Below.refl _ _⟩
  case round =>
    obtain ⟨i, rfl, hi, HI, BI⟩ := hrel
    have cvr : wr.cell? ⟨q, 0, none⟩ = some (.slice va m vc) := (BI.out.cell (p := ⟨q, 0, none⟩) lq).trans CV.out
    by_cases hlt : i < m
    · obtain ⟨ea, hg2, hgc⟩ := GA.out (by omega)
      subst ea
      obtain ⟨x, hx⟩ : ∃ x, ws[i]? = some x := ⟨_, List.getElem?_eq_getElem (by rw [← HM.out]; exact hlt)⟩
      have cx : CellsAt w1 ga (i * 10) x.cells := by
        have h := hgc i hlt
        unfold wyc at h
        rw [hx] at h
        exact h
      have iz : (i : Int) < (m : Int) := by omega
      have mz : (m : Int) ≤ 8 := by omega
      have PX : ∀ W, Below wr.heap.size wr W → CellsAt W ga (i * 10) x.net.vals ∧ W.cell? ⟨ga, i * 10 + 4, none⟩ = some (.int .i64 x.bits) := fun W hW => by
        have h := Wy.parts (cx.later hg2 (later BI.out hW))
        exact ⟨h.1, h.2.1⟩
      have QX : ∀ W, Below wr.heap.size wr W → W.cell? ⟨q, 0, none⟩ = some (.slice (some ⟨ga, 0, none⟩) m vc) := fun W hW => (hW.cell (p := ⟨q, 0, none⟩) (Nat.lt_of_lt_of_le lq BI.out.size)).trans cvr
      have NX : ∀ W, Below wr.heap.size wr W → CellsAt W s 0 n.vals := fun W hW => C1.out.later l1 (later BI.out hW)
      obtain ⟨c, hc⟩ : ∃ c, c = decide (x.net = n ∧ x.bits = k) := ⟨_, rfl⟩
      have HC := hide hc
      go_upto_region 4 with fail
      go_cut [38] (fun v wc => v = .bool c ∧ Hid (Below wr.heap.size wr wc))
      case first =>
        cases e1 : eqI x.net n with
        | false =>
          refine region_quiet_C (fun W => Below wr.heap.size wr W) (by kernel_rfl) (by kernel_rfl) (later_drew _) ?_
          go_big_quiet_step (fail)
          go_big_quiet_want
          refine quiet_pure (.pointer (some ⟨q, 0, none⟩)) (fun W hW => exec_nil _ _ rfl rfl) ?_
          go_big_quiet_on
          simp only [Act.put, List.setIfInBounds_toArray, List.set_cons_succ, List.set_cons_zero]
          go_big_quiet_want
          refine quiet_pure (.pointer (some ⟨q, 0, none⟩)) (fun W hW => exec_fieldO 29 _ 0 q 0 0 rfl rfl (fun w => by kernel_rfl)) ?_
          go_big_quiet_on
          simp only [Act.put, List.setIfInBounds_toArray, List.set_cons_succ, List.set_cons_zero]
          go_big_quiet_want
          refine quiet_pure (.slice (some ⟨ga, 0, none⟩) m vc) (fun W hW => exec_load1 27 oneWs _ rfl q 0 rfl (.slice (some ⟨ga, 0, none⟩) m vc) (QX W hW)) ?_
          go_big_quiet_on
          simp only [Act.put, List.setIfInBounds_toArray, List.set_cons_succ, List.set_cons_zero]
          go_big_quiet_step (fail)
          go_big_quiet_want
          refine quiet_pure (.pointer (some ⟨ga, i * 10, none⟩)) (fun W hW => exec_ixW _ _ ga m vc i rfl rfl rfl hlt) ?_
          go_big_quiet_on
          simp only [Act.put, List.setIfInBounds_toArray, List.set_cons_succ, List.set_cons_zero]
          go_big_quiet_want
          refine quiet_pure (.pointer (some ⟨ga, i * 10, none⟩)) (fun W hW => exec_fieldO 33 _ 0 ga (i * 10) (i * 10) rfl rfl (fun w => by kernel_rfl)) ?_
          go_big_quiet_on
          simp only [Act.put, List.setIfInBounds_toArray, List.set_cons_succ, List.set_cons_zero]
          go_big_quiet_want
          refine quiet_pure (.agg (x.net.vals).toArray) (fun W hW => exec_loadA 31 4 aggI sizI _ rfl ga (i * 10) rfl (x.net.vals) rfl ((PX W hW).1)) ?_
          go_big_quiet_on
          simp only [Act.put, List.setIfInBounds_toArray, List.set_cons_succ, List.set_cons_zero]
          go_big_quiet_want
          refine quiet_pure (.agg (n.vals).toArray) (fun W hW => exec_loadA 31 4 aggI sizI _ rfl s 0 rfl (n.vals) rfl (NX W hW)) ?_
          go_big_quiet_on
          simp only [Act.put, List.setIfInBounds_toArray, List.set_cons_succ, List.set_cons_zero]
          go_big_quiet_want
          refine quiet_pure (.bool false) (fun W hW => exec_eqI _ _ _ _ _ _ rfl rfl rfl e1) ?_
          go_big_quiet_on
          simp only [Act.put, List.setIfInBounds_toArray, List.set_cons_succ, List.set_cons_zero]
          go_big_quiet_step (fail)
          go_big_quiet_step (fail)
          go_big_quiet_step (fail)
          go_big_quiet_step (fail)
          go_big_quiet_step (fail)
          go_big_quiet_step (fail)
          go_big_quiet_step (fail)
          go_big_quiet_step (fail)
          go_big_quiet_step (fail)
          go_big_quiet_step (fail)
          go_big_quiet_step (fail)
          go_big_quiet_want
          refine quiet_pure (.bool false) (fun W hW => exec_pick _ _ _ false _ rfl rfl rfl) ?_
          go_big_quiet_on
          simp only [Act.put, List.setIfInBounds_toArray, List.set_cons_succ, List.set_cons_zero]
          refine wpQuiet_nil ?_
          intro wq bq
          go_wp2
          go_meet
          case rel => exact ⟨by rw [HC.out, decide_eq_false (fun h => by have := of_decide_eq_false e1; exact this h.1)], bq⟩
        | true =>
          obtain ⟨c2, hc2⟩ : ∃ c2, c2 = (x.bits == k) := ⟨_, rfl⟩
          refine region_quiet_C (fun W => Below wr.heap.size wr W) (by kernel_rfl) (by kernel_rfl) (later_drew _) ?_
          go_big_quiet_step (fail)
          go_big_quiet_want
          refine quiet_pure (.pointer (some ⟨q, 0, none⟩)) (fun W hW => exec_nil _ _ rfl rfl) ?_
          go_big_quiet_on
          simp only [Act.put, List.setIfInBounds_toArray, List.set_cons_succ, List.set_cons_zero]
          go_big_quiet_want
          refine quiet_pure (.pointer (some ⟨q, 0, none⟩)) (fun W hW => exec_fieldO 29 _ 0 q 0 0 rfl rfl (fun w => by kernel_rfl)) ?_
          go_big_quiet_on
          simp only [Act.put, List.setIfInBounds_toArray, List.set_cons_succ, List.set_cons_zero]
          go_big_quiet_want
          refine quiet_pure (.slice (some ⟨ga, 0, none⟩) m vc) (fun W hW => exec_load1 27 oneWs _ rfl q 0 rfl (.slice (some ⟨ga, 0, none⟩) m vc) (QX W hW)) ?_
          go_big_quiet_on
          simp only [Act.put, List.setIfInBounds_toArray, List.set_cons_succ, List.set_cons_zero]
          go_big_quiet_step (fail)
          go_big_quiet_want
          refine quiet_pure (.pointer (some ⟨ga, i * 10, none⟩)) (fun W hW => exec_ixW _ _ ga m vc i rfl rfl rfl hlt) ?_
          go_big_quiet_on
          simp only [Act.put, List.setIfInBounds_toArray, List.set_cons_succ, List.set_cons_zero]
          go_big_quiet_want
          refine quiet_pure (.pointer (some ⟨ga, i * 10, none⟩)) (fun W hW => exec_fieldO 33 _ 0 ga (i * 10) (i * 10) rfl rfl (fun w => by kernel_rfl)) ?_
          go_big_quiet_on
          simp only [Act.put, List.setIfInBounds_toArray, List.set_cons_succ, List.set_cons_zero]
          go_big_quiet_want
          refine quiet_pure (.agg (x.net.vals).toArray) (fun W hW => exec_loadA 31 4 aggI sizI _ rfl ga (i * 10) rfl (x.net.vals) rfl ((PX W hW).1)) ?_
          go_big_quiet_on
          simp only [Act.put, List.setIfInBounds_toArray, List.set_cons_succ, List.set_cons_zero]
          go_big_quiet_want
          refine quiet_pure (.agg (n.vals).toArray) (fun W hW => exec_loadA 31 4 aggI sizI _ rfl s 0 rfl (n.vals) rfl (NX W hW)) ?_
          go_big_quiet_on
          simp only [Act.put, List.setIfInBounds_toArray, List.set_cons_succ, List.set_cons_zero]
          go_big_quiet_want
          refine quiet_pure (.bool true) (fun W hW => exec_eqI _ _ _ _ _ _ rfl rfl rfl e1) ?_
          go_big_quiet_on
          simp only [Act.put, List.setIfInBounds_toArray, List.set_cons_succ, List.set_cons_zero]
          go_big_quiet_step (fail)
          go_big_quiet_step (fail)
          go_big_quiet_want
          refine quiet_pure (.pointer (some ⟨q, 0, none⟩)) (fun W hW => exec_nil _ _ rfl rfl) ?_
          go_big_quiet_on
          simp only [Act.put, List.setIfInBounds_toArray, List.set_cons_succ, List.set_cons_zero]
          go_big_quiet_want
          refine quiet_pure (.pointer (some ⟨q, 0, none⟩)) (fun W hW => exec_fieldO 29 _ 0 q 0 0 rfl rfl (fun w => by kernel_rfl)) ?_
          go_big_quiet_on
          simp only [Act.put, List.setIfInBounds_toArray, List.set_cons_succ, List.set_cons_zero]
          go_big_quiet_want
          refine quiet_pure (.slice (some ⟨ga, 0, none⟩) m vc) (fun W hW => exec_load1 27 oneWs _ rfl q 0 rfl (.slice (some ⟨ga, 0, none⟩) m vc) (QX W hW)) ?_
          go_big_quiet_on
          simp only [Act.put, List.setIfInBounds_toArray, List.set_cons_succ, List.set_cons_zero]
          go_big_quiet_step (fail)
          go_big_quiet_want
          refine quiet_pure (.pointer (some ⟨ga, i * 10, none⟩)) (fun W hW => exec_ixW _ _ ga m vc i rfl rfl rfl hlt) ?_
          go_big_quiet_on
          simp only [Act.put, List.setIfInBounds_toArray, List.set_cons_succ, List.set_cons_zero]
          go_big_quiet_want
          refine quiet_pure (.pointer (some ⟨ga, i * 10 + 4, none⟩)) (fun W hW => exec_fieldO 33 _ 1 ga (i * 10) (i * 10 + 4) rfl rfl (fun w => by kernel_rfl)) ?_
          go_big_quiet_on
          simp only [Act.put, List.setIfInBounds_toArray, List.set_cons_succ, List.set_cons_zero]
          go_big_quiet_want
          refine quiet_pure (.int .i64 x.bits) (fun W hW => exec_load1 3 one1 _ rfl ga (i * 10 + 4) rfl (.int .i64 x.bits) ((PX W hW).2)) ?_
          go_big_quiet_on
          simp only [Act.put, List.setIfInBounds_toArray, List.set_cons_succ, List.set_cons_zero]
          go_big_quiet_step (fail)
          go_big_quiet_want
          refine quiet_pure (.bool c2) (fun W hW => exec_eqi _ _ _ _ _ _ rfl rfl rfl hc2.symm) ?_
          go_big_quiet_on
          simp only [Act.put, List.setIfInBounds_toArray, List.set_cons_succ, List.set_cons_zero]
          go_big_quiet_want
          refine quiet_pure (.bool c2) (fun W hW => exec_pick _ _ _ true _ rfl rfl rfl) ?_
          go_big_quiet_on
          simp only [Act.put, List.setIfInBounds_toArray, List.set_cons_succ, List.set_cons_zero]
          refine wpQuiet_nil ?_
          intro wq bq
          go_wp2
          go_meet
          case rel => exact ⟨by rw [HC.out]; have := of_decide_eq_true e1; by_cases e : x.bits = k <;> simp [this, e], bq⟩
      case rest =>
        obtain ⟨rfl, hwc⟩ := hcut
        have BC := hide (later BI.out hwc.out)
        clear PX QX NX hwc cvr
        cases c with
        | true =>
          have hk := of_decide_eq_true HC.out.symm
          have FE : Hid (ixI n k ws = (i : Int)) := by
            unfold Hid ixI
            rw [ix_at hx hk.1 hk.2 HI.out]
          clear hk hc hx
          go_wp2
          go_ret
          exact ⟨by rw [FE.out]; rfl, later HB1.out BC.out⟩
        | false =>
          have hk := of_decide_eq_false HC.out.symm
          have HI2 : Hid (∀ j y, j < i + 1 → ws[j]? = some y → ¬ (y.net = n ∧ y.bits = k)) := fun j y hj hy => by
            by_cases ej : j = i
            · subst ej; rw [hx] at hy; cases hy; exact hk
            · exact HI.out j y (by omega) hy
          clear hk hc hx
          go_wp2
          go_roundw
          case rel => exact ⟨i + 1, by go_num, by omega, HI2.out, BC.out⟩
          case measure => simp [intOf]; omega
    · have ei : m = i := by omega
      subst ei
      have FE : Hid (ixI n k ws = -1) := by
        unfold Hid ixI
        rw [ix_none_iff (fun x hx => by
          obtain ⟨j, hj⟩ := List.getElem?_of_mem hx
          exact HI.out j x (by have := (List.getElem?_eq_some_iff.1 hj).1; rw [HM.out]; exact this) hj)]
      go_wp2
      go_ret
      exact ⟨by rw [FE.out]; rfl, later HB1.out BI.out⟩
end Go.Proofs.Ytlfacppkgamkgaa
