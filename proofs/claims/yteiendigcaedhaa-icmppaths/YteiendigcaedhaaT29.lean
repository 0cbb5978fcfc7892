
/-
  The document's paths: in memory; Find.
-/
import Derived.Test.YteiendigcaedhaaT28
namespace Go.Proofs.Yteiendigcaedhaa
open Go.RowKit Go.Shelf

/-- a path's five cells -/
def pth (r : Pt) : List Value := r.ip.vals ++ [.int .i64 r.mtu]
def dpc (L : List Pt) (j : Nat) : List Value := pth ((L[j]?).getD ⟨zI, 0, 0⟩)
theorem dpc_len (L : List Pt) (j : Nat) : (dpc L j).length = 5 := rfl
theorem pth_one (r : Pt) : ∀ u ∈ pth r, u.oneCell' = true := by
  intro u hu
  simp only [pth, I4.vals, List.cons_append, List.nil_append, List.mem_cons, List.not_mem_nil, or_false] at hu
  rcases hu with rfl | rfl | rfl | rfl | rfl <;> rfl
theorem dpc_at {L : List Pt} {j : Nat} {r : Pt} (h : L[j]? = some r) : dpc L j = pth r := by unfold dpc; rw [h]; rfl
/-- the document's paths at q, their row in blocks of O -/
structure DPs (W : World) (q : Nat) (O : Nat → Prop) (L : List Pt) : Prop where
  row : ∃ v, W.cell? ⟨q, 0, none⟩ = some v ∧ RowG 5 O W v L.length (dpc L)
  fz : W.frozen? ⟨q, 0, none⟩ = false
  nq : ¬ O q
  len : L.length ≤ 8
section
variable {W W' : World} {q : Nat} {O K : Nat → Prop} {L : List Pt}
theorem DPs.lt (h : DPs W q O L) : q < W.heap.size := by
  obtain ⟨v, h1, _⟩ := h.row
  exact World.block_lt_of_cell? W _ h1
theorem DPs.but (h : DPs W q O L) (hb : But K W W') (hk : ∀ g, g = q ∨ O g → ¬ K g) : DPs W' q O L := by
  have hl := h.lt
  obtain ⟨v, h1, h2⟩ := h.row
  have k1 := hk q (.inl rfl)
  exact ⟨⟨v, (hb.cell (p := ⟨q, 0, none⟩) hl k1).trans h1, h2.but hb (fun g e => hk g (.inr e))⟩, (hb.frozen (p := ⟨q, 0, none⟩) hl k1).trans h.fz, h.nq, h.len⟩
theorem DPs.later (h : DPs W q O L) (hb : Below W.heap.size W W') : DPs W' q O L := h.but (K := fun _ => False) (But.of_below hb) (fun _ _ => id)
theorem DPs.own {O' : Nat → Prop} (h : DPs W q O L) (ho : ∀ g, g < W.heap.size → O g → O' g) (h1 : ¬ O' q) : DPs W q O' L := by
  obtain ⟨v, k1, k2⟩ := h.row
  exact ⟨⟨v, k1, k2.own ho⟩, h.fz, h1, h.len⟩
end
theorem onePh (w : World) : (isAgg 58).run Try.prog w = .ok false w := by kernel_rfl
theorem s1Ph (w : World) : (Go.sizeOf 58).run Try.prog w = .ok 1 w := by kernel_rfl
theorem exec_ixPh {o : Oper} {w : World} {ev : Operand → Value} (x y : Operand) (g off n c k : Nat) (ho : o.op = .indexAddr 58 x y) (hx : ev x = .slice (some ⟨g, off, none⟩) n c) (hy : ev y = .int .i64 (k : Int)) (hk : k < n) : (execOp ev o).run Try.prog w = .ok (.value (.pointer (some ⟨g, off + k * 5, none⟩))) w := by
  have hki : (k : Int) < n := by omega
  unfold execOp
  simp [ho, hx, hy, go_sem, hki]
theorem pth_parts {W : World} {g o : Nat} {r : Pt} (h : CellsAt W g o (pth r)) : CellsAt W g o r.ip.vals ∧ W.cell? ⟨g, o + 4, none⟩ = some (.int .i64 r.mtu) := by
  have h' := CellsAt.append.1 h
  exact ⟨h'.1, h 4 _ rfl⟩
theorem pfnd_at {n : I4} : ∀ {L : List Pt} {i : Nat} {r : Pt}, L[i]? = some r → r.ip = n → (∀ j y, j < i → L[j]? = some y → y.ip ≠ n) → pfnd n L = some (i, r)
  | [], _, _, h, _, _ => by cases h
  | y :: L, 0, x, h, h1, _ => by
    cases h
    unfold pfnd
    rw [if_pos (eqI_iff.2 h1.symm)]
  | y :: L, i + 1, x, h, h1, h3 => by
    unfold pfnd
    rw [if_neg (fun e => h3 0 y (by omega) rfl (eqI_iff.1 e).symm), pfnd_at (L := L) (i := i) (r := x) (by simpa using h) h1 (fun j z hj hz => h3 (j + 1) z (by omega) (by simpa using hz))]
    rfl
theorem pfnd_not {n : I4} : ∀ {L : List Pt}, (∀ r ∈ L, r.ip ≠ n) → pfnd n L = none
  | [], _ => rfl
  | y :: L, h => by
    unfold pfnd
    rw [if_neg (fun e => h y (by simp) (eqI_iff.1 e).symm), pfnd_not (fun r hr => h r (by simp [hr]))]
    rfl
set_option maxRecDepth 100000 in
set_option maxHeartbeats 4000000 in
theorem rFindP_any {w : World} {q : Nat} {O : Nat → Prop} {L : List Pt} (h : DPs w q O L) (n : I4) : Calls Try.prog 28 #[.pointer (some ⟨q, 0, none⟩), .agg n.vals.toArray] w fun e w' => e = .returned (.int .i64 (pfE n L)) ∧ Below w.heap.size w w' := by
  obtain ⟨s, hs⟩ : ∃ s, s = w.heap.size := ⟨_, rfl⟩
  obtain ⟨V, hV⟩ : ∃ V, V = n.vals := ⟨_, rfl⟩
  obtain ⟨w1, hw1⟩ : ∃ w1, w1 = w.alloc (.cells V.toArray 35) := ⟨_, rfl⟩
  have b1 : Below w.heap.size w w1 := by rw [hw1]; exact (Below.refl _ w).alloc (Nat.le_refl _) _
  have c1 : CellsAt w1 s 0 n.vals := by rw [hw1, hs, ← hV]; exact CellsAt.new w V 35
  rw [← hV]
  have l1 : s < w1.heap.size := c1.lt (by simp [I4.vals])
  have R1 := h.later b1
  obtain ⟨v, cv, rv⟩ := R1.row
  obtain ⟨va, vc, rfl⟩ := rv.shape
  obtain ⟨m, hm⟩ : ∃ m, m = L.length := ⟨_, rfl⟩
  have m8 : m ≤ 8 := by rw [hm]; exact h.len
  rw [← hm] at cv rv
  obtain ⟨ga, off, hga⟩ : ∃ ga off, 0 < m → va = some ⟨ga, off, none⟩ ∧ ga < w1.heap.size ∧ ∀ j, j < m → CellsAt w1 ga (off + j * 5) (dpc L j) := by
    by_cases e : 0 < m
    · obtain ⟨g, off, h1, h2, h3, h4, h5⟩ := rv.at e
      exact ⟨g, off, fun _ => ⟨h1, h2, h5⟩⟩
    · exact ⟨0, 0, fun e' => absurd e' e⟩
  have HB1 := hide b1
  have C1 := hide c1
  have CV := hide cv
  have GA := hide hga
  have HM := hide hm
  have lq : q < w1.heap.size := R1.lt
  have hw1' := hw1.symm
  have hs' := hs.symm
  clear b1 c1 hV hw1 hs R1 rv hga hm h cv
  go_enter Try.func28, Try.ntmps28
  go_wp2
  clear hw1' hs'
  go_loopw [5] (fun vi wr => ∃ i : Nat, vi = .int .i64 (i : Int) ∧ i ≤ m ∧ Hid (∀ j y, j < i → L[j]? = some y → y.ip ≠ n) ∧ Hid (Below w1.heap.size w1 wr)) (fun vi _ => m - (intOf vi).toNat)
  case atStart => exact ⟨0, rfl, Nat.zero_le _, (fun j y hj => by omega), Below.refl _ _⟩
  case round =>
    obtain ⟨i, rfl, hi, HI, BI⟩ := hrel
    have cvr : wr.cell? ⟨q, 0, none⟩ = some (.slice va m vc) := (BI.out.cell (p := ⟨q, 0, none⟩) lq).trans CV.out
    by_cases hlt : i < m
    · obtain ⟨ea, hg2, hgc⟩ := GA.out (by omega)
      subst ea
      obtain ⟨x, hx⟩ : ∃ x, L[i]? = some x := ⟨_, List.getElem?_eq_getElem (by rw [← HM.out]; exact hlt)⟩
      have cx : CellsAt w1 ga (off + i * 5) (pth x) := by rw [← dpc_at hx]; exact hgc i hlt
      have iz : (i : Int) < (m : Int) := by omega
      have mz : (m : Int) ≤ 8 := by omega
      have PX : ∀ W, Below wr.heap.size wr W → CellsAt W ga (off + i * 5) x.ip.vals ∧ W.cell? ⟨ga, off + i * 5 + 4, none⟩ = some (.int .i64 x.mtu) := fun W hW => pth_parts (cx.later hg2 (later BI.out hW))
      have QX : ∀ W, Below wr.heap.size wr W → W.cell? ⟨q, 0, none⟩ = some (.slice (some ⟨ga, off, none⟩) m vc) := fun W hW => (hW.cell (p := ⟨q, 0, none⟩) (Nat.lt_of_lt_of_le lq BI.out.size)).trans cvr
      have NX : ∀ W, Below wr.heap.size wr W → CellsAt W s 0 n.vals := fun W hW => C1.out.later l1 (later BI.out hW)
      obtain ⟨c, hc⟩ : ∃ c, c = eqI x.ip n := ⟨_, rfl⟩
      have HC := hide hc
      go_upto_region 4 with fail
      refine region_quiet_C (fun W => Below wr.heap.size wr W) (by kernel_rfl) (by kernel_rfl) (later_drew _) ?_
      go_big_quiet_step (fail)
      go_big_quiet_want
      refine quiet_pure (.pointer (some ⟨q, 0, none⟩)) (fun W hW => exec_nil _ _ rfl rfl) ?_
      go_big_quiet_on
      simp only [Act.put, List.setIfInBounds_toArray, List.set_cons_succ, List.set_cons_zero]
      go_big_quiet_want
      refine quiet_pure (.pointer (some ⟨q, 0, none⟩)) (fun W hW => exec_fieldO 60 _ 0 q 0 0 rfl rfl (fun w => by kernel_rfl)) ?_
      go_big_quiet_on
      simp only [Act.put, List.setIfInBounds_toArray, List.set_cons_succ, List.set_cons_zero]
      go_big_quiet_want
      refine quiet_pure (.slice (some ⟨ga, off, none⟩) m vc) (fun W hW => exec_load1 58 onePh _ rfl q 0 rfl (.slice (some ⟨ga, off, none⟩) m vc) (QX W hW)) ?_
      go_big_quiet_on
      simp only [Act.put, List.setIfInBounds_toArray, List.set_cons_succ, List.set_cons_zero]
      go_big_quiet_step (fail)
      go_big_quiet_want
      refine quiet_pure (.pointer (some ⟨ga, off + i * 5, none⟩)) (fun W hW => exec_ixPh _ _ ga off m vc i rfl rfl rfl hlt) ?_
      go_big_quiet_on
      simp only [Act.put, List.setIfInBounds_toArray, List.set_cons_succ, List.set_cons_zero]
      go_big_quiet_want
      refine quiet_pure (.pointer (some ⟨ga, off + i * 5, none⟩)) (fun W hW => exec_fieldO 91 _ 0 ga (off + i * 5) (off + i * 5) rfl rfl (fun w => by kernel_rfl)) ?_
      go_big_quiet_on
      simp only [Act.put, List.setIfInBounds_toArray, List.set_cons_succ, List.set_cons_zero]
      go_big_quiet_want
      refine quiet_pure (.agg (x.ip.vals).toArray) (fun W hW => exec_loadA 35 4 aggI sizI _ rfl ga (off + i * 5) rfl (x.ip.vals) rfl ((PX W hW).1)) ?_
      go_big_quiet_on
      simp only [Act.put, List.setIfInBounds_toArray, List.set_cons_succ, List.set_cons_zero]
      go_big_quiet_want
      refine quiet_pure (.agg (n.vals).toArray) (fun W hW => exec_loadA 35 4 aggI sizI _ rfl s 0 rfl (n.vals) rfl (NX W hW)) ?_
      go_big_quiet_on
      simp only [Act.put, List.setIfInBounds_toArray, List.set_cons_succ, List.set_cons_zero]
      go_big_quiet_want
      refine quiet_pure (.bool c) (fun W hW => exec_eqI _ _ _ _ _ _ rfl rfl rfl hc.symm) ?_
      go_big_quiet_on
      simp only [Act.put, List.setIfInBounds_toArray, List.set_cons_succ, List.set_cons_zero]
      refine wpQuiet_nil ?_
      intro wq bq
      have BC := hide (later BI.out bq)
      have qx := QX wq bq
      have px := (PX wq bq).2
      clear PX QX NX cvr bq hc
      cases c with
      | true =>
        have hk := eqI_iff.1 HC.out.symm
        have FE : Hid (pfE n L = x.mtu) := by
          unfold Hid pfE pgot
          rw [pfnd_at hx hk HI.out]
          rfl
        clear hk hx
        go_wp2
        go_ret
        exact ⟨by rw [FE.out]; rfl, later HB1.out BC.out⟩
      | false =>
        have hk : x.ip ≠ n := fun e => by have h := HC.out; rw [eqI_iff.2 e] at h; cases h
        have HI2 : Hid (∀ j y, j < i + 1 → L[j]? = some y → y.ip ≠ n) := fun j y hj hy => by
          by_cases ej : j = i
          · subst ej; rw [hx] at hy; cases hy; exact hk
          · exact HI.out j y (by omega) hy
        clear hk hx qx px
        go_wp2
        go_roundw
        case rel => exact ⟨i + 1, by go_num, by omega, HI2.out, BC.out⟩
        case measure => simp [intOf]; omega
    · have ei : m = i := by omega
      subst ei
      have FE : Hid (pfE n L = 256) := by
        unfold Hid pfE
        rw [pfnd_not (fun x hx => by
          obtain ⟨j, hj⟩ := List.getElem?_of_mem hx
          exact HI.out j x (by have := (List.getElem?_eq_some_iff.1 hj).1; rw [HM.out]; exact this) hj)]
        rfl
      go_wp2
      go_ret
      exact ⟨by rw [FE.out]; rfl, later HB1.out BI.out⟩
end Go.Proofs.Yteiendigcaedhaa
