
/-
  Package icmp: read.
-/
import Derived.Test.YteiendigcaedhaaT2
namespace Go.Proofs.Yteiendigcaedhaa
open Go.RowKit Go.Shelf

/-- the zero message -/
def zIm : List Value := imL 0 0 0 0 0 (.slice none 0 0)
def rdS (bs : List Int) : Int := if ech (nb bs 0) = true then w16 bs 6 else 0
def rdU (bs : List Int) : Int := if ech (nb bs 0) = true then 0 else w16 bs 6
theorem im_one (t c i s u : Int) (a : Option Addr) (n k : Nat) : ∀ x ∈ imL t c i s u (.slice a n k), x.oneCell' = true := by
  intro x hx
  simp only [imL, List.mem_cons, List.not_mem_nil, or_false] at hx
  rcases hx with rfl | rfl | rfl | rfl | rfl | rfl <;> rfl
section
variable {o : Oper} {w : World} {ev : Operand → Value}
theorem exec_allocC (ho : o.op = .alloc 24) : (execOp ev o).run Try.prog w = .ok (.value (.pointer (some ⟨w.heap.size, 0, none⟩))) (w.alloc (.cells zIm.toArray 24)) := by
  unfold execOp
  rw [ho]
  kernel_rfl
theorem exec_bldC (x1 x2 x3 x4 : Operand) (a b c : Int) (ad : Option Addr) (n k : Nat) (ho : o.op = .build 24 #[(0, x1), (1, x2), (2, x3), (5, x4)]) (h1 : ev x1 = .int .i64 a) (h2 : ev x2 = .int .i64 b) (h3 : ev x3 = .int .i64 c) (h4 : ev x4 = .slice ad n k) :
    (execOp ev o).run Try.prog w = .ok (.value (.agg (imL a b c 0 0 (.slice ad n k)).toArray)) w := by
  unfold execOp
  rw [ho]
  simp only [List.map_toArray, List.map_cons, List.map_nil, h1, h2, h3, h4]
  kernel_rfl
end
/-- a new variable of type T -/
def BoxT (T : TypeId) (n0 : Nat) (W : World) (v : Value) (vs : List Value) : Prop := ∃ s, v = .pointer (some ⟨s, 0, none⟩) ∧ n0 ≤ s ∧ s < W.heap.size ∧ CellsAt W s 0 vs ∧ (∀ y, W.frozen? ⟨s, y, none⟩ = false) ∧ W.heap[s]? = some (.cells vs.toArray T (0, 0))
theorem BoxT.later {T : TypeId} {n0 : Nat} {W W' : World} {v : Value} {vs : List Value} (h : BoxT T n0 W v vs) (hb : Below W.heap.size W W') : BoxT T n0 W' v vs := by
  obtain ⟨s, e, h1, h2, h3, h4, h5⟩ := h
  exact ⟨s, e, h1, Nat.lt_of_lt_of_le h2 hb.size, h3.later h2 hb, fun y => (hb.frozen (p := ⟨s, y, none⟩) h2).trans (h4 y), by rw [hb.block s h2]; exact h5⟩
theorem Gro.apartT {T : TypeId} {B : Nat} {W : World} {v : Value} {bs : List Int} {vs : List Value} {s : Nat} (h : Gro B W v bs) (hT : T ≠ 5) (hb : W.heap[s]? = some (.cells vs.toArray T (0, 0))) : ∀ g x y, v = .slice (some ⟨g, 0, none⟩) x y → g ≠ s := by
  intro g x y e e2
  subst e2
  obtain ⟨_, ⟨h2, _⟩ | ⟨g', cap, cur, e', _, hh, _⟩⟩ := h
  · rw [e] at h2; cases h2
  · rw [e] at e'
    cases e'
    rw [hb] at hh
    cases hh
    exact hT rfl
theorem boxC_made {n0 : Nat} {ev : Operand → Value} {o : Oper} {W : World} (ho : o.op = .alloc 24) (hn : n0 ≤ W.heap.size) : ∃ v W', (execOp ev o).run Try.prog W = .ok (.value v) W' ∧ Below W.heap.size W W' ∧ BoxT 24 n0 W' v zIm :=
  ⟨_, _, exec_allocC ho, later_alloc _ _, W.heap.size, rfl, hn, by simp, CellsAt.new W _ _, fun y => frozen_new W _ _ _, heap_alloc_new W _⟩
set_option maxRecDepth 100000 in
set_option maxHeartbeats 8000000 in
theorem icRead_any (g off cap : Nat) (bs : List Int) (w : World) (hb : IsB w.heap.size w (.slice (some ⟨g, off, none⟩) bs.length cap) bs) (hB : Bytes bs) (h8 : 8 ≤ bs.length) (hl : bs.length ≤ 1024) :
    Calls Try.prog 38 #[.slice (some ⟨g, off, none⟩) bs.length cap] w fun e w' => ∃ ad on oc, e = .returned (.agg (imL (nb bs 0) (nb bs 1) (w16 bs 4) (rdS bs) (rdU bs) (.slice ad on oc)).toArray) ∧ Gro w.heap.size w' (.slice ad on oc) (bs.drop 8) ∧ Below w.heap.size w w' := by
  obtain ⟨n, hn⟩ : ∃ n, n = bs.length := ⟨_, rfl⟩
  rw [← hn] at hb h8 hl ⊢
  have ncap : n ≤ cap := by
    obtain ⟨_, _, e, hle, _⟩ := hb
    simp only [Value.slice.injEq] at e
    obtain ⟨_, _, rfl⟩ := e
    omega
  have HB := hide hb
  have HN := hide hn
  have BY := hide hB
  have cell : ∀ W, Below w.heap.size w W → ∀ j, j < n → W.cell? ⟨g, off + j, none⟩ = some (.int .u8 (nb bs j)) := fun W hW j hj => by
    obtain ⟨a, c, e, _, _, hc⟩ := hb.below hW
    simp only [Value.slice.injEq] at e
    obtain ⟨rfl, _, rfl⟩ := e
    obtain ⟨b', off', e, _, hcs⟩ := hc (by omega)
    cases e
    exact hcs j (by omega)
  have CW := hide cell
  obtain ⟨s2, hs2⟩ : ∃ s2, s2 = w.heap.size := ⟨_, rfl⟩
  obtain ⟨w1, hw1⟩ : ∃ w1, w1 = w.alloc (.cells zIm.toArray 24) := ⟨_, rfl⟩
  have b1 : Below w.heap.size w w1 := by rw [hw1]; exact later_alloc _ _
  have c1 : CellsAt w1 s2 0 zIm := by rw [hw1, hs2]; exact CellsAt.new w _ _
  have f1 : ∀ y, w1.frozen? ⟨s2, y, none⟩ = false := fun y => by rw [hw1, hs2]; exact frozen_new w _ _ _
  have l1 : s2 < w1.heap.size := by rw [hw1, hs2]; simp
  have HB1 := hide b1
  have C1 := hide c1
  have F1 := hide f1
  have HS2 := hide hs2
  have bn := fun k => nb_bd hB k
  have CL : ∀ W, Below w.heap.size w W → w1.heap.size ≤ W.heap.size → Calls Try.prog 41 #[.slice (if cap = 8 then some ⟨g, off, none⟩ else some ⟨g, off + 8, none⟩) (n - 8) (cap - 8)] W fun e W' => ∃ v, e = .returned v ∧ (∃ ad on oc, v = .slice ad on oc ∧ Gro w1.heap.size W' v (bs.drop 8)) ∧ Below W.heap.size W W' := fun W hW hn2 => by
    have hd := (HB.out.later hW).drop 8 (by have := HN.out; omega)
    have ea : (if cap = 8 then some (⟨g, off, none⟩ : Addr) else Option.map (fun x : Addr => x.add 8) (some ⟨g, off, none⟩)) = (if cap = 8 then some ⟨g, off, none⟩ else some ⟨g, off + 8, none⟩) := by
      split
      · rfl
      · rw [Option.map_some, Addr.add_lit]
    rw [ea] at hd
    refine (Clone_any _ _ W hd (by rw [List.length_drop]; have := HN.out; omega) (fun a n c e => ?_)).mono ?_
    · simp only [Value.slice.injEq] at e
      rw [← e.1]
      split <;> simp
    · rintro _ W' ⟨u, rfl, hg, hb⟩
      obtain ⟨ad, oc, e, _⟩ := hg.isB.shape
      exact ⟨u, rfl, ⟨ad, _, oc, e, hg.low hn2⟩, hb⟩
  obtain ⟨t, ht⟩ : ∃ t, t = nb bs 0 := ⟨_, rfl⟩
  have AT6 : ∀ W, Below w.heap.size w W → Calls Try.prog 54 #[.slice (some ⟨g, off, none⟩) n cap, .int .i64 6] W fun e W' => e = .returned (.int .i64 (w16 bs 6)) ∧ Below W.heap.size W W' := fun W hW =>
    (icAt_val _ bs 6 W (HB.out.later hW) BY.out (by have := HN.out; omega) (by have := HN.out; omega)).mono (by rintro _ W' ⟨_, rfl, rfl, h⟩; exact ⟨rfl, h⟩)
  have H6 := hide AT6
  unfold rdS rdU
  rw [← ht]
  have HT := hide ht
  obtain ⟨sq0, hsq⟩ : ∃ sq0, sq0 = (if ech t = true then w16 bs 6 else 0) := ⟨_, rfl⟩
  obtain ⟨mt0, hmt⟩ : ∃ mt0, mt0 = (if ech t = true then 0 else w16 bs 6) := ⟨_, rfl⟩
  rw [← hsq, ← hmt]
  have HSQ := hide hsq
  have HMT := hide hmt
  clear hsq hmt
  clear hb hn cell b1 c1 f1 hB ht AT6
  go_enter Try.func38, Try.ntmps38
  have hw1' := hw1.symm
  have hs2' := hs2.symm
  simp only [zIm, imL] at hw1'
  clear hw1 hs2
  go_upto_region 1 with fail
  clear hw1' hs2'
  go_cut [3] from 4 to 17 (fun v4 wx => ∃ (s4 : Nat) (ad : Option Addr) (on oc : Nat), v4 = .pointer (some ⟨s4, 0, none⟩) ∧ Hid (CellsAt wx s4 0 (imL t (nb bs 1) (w16 bs 4) 0 0 (.slice ad on oc))) ∧ Hid (∀ y, wx.frozen? ⟨s4, y, none⟩ = false) ∧ s4 < wx.heap.size ∧ w1.heap.size ≤ s4 ∧ Hid (Gro w1.heap.size wx (.slice ad on oc) (bs.drop 8) ∧ ∀ g x y, (.slice ad on oc : Value) = .slice (some ⟨g, 0, none⟩) x y → g ≠ s4) ∧ Hid (Below w1.heap.size w1 wx))
  case first =>
    refine region_grow_store (w := w1) (fun i v W => match i with | 0 => v = .slice (some ⟨g, off, none⟩) n cap | 1 => v = .pointer (some ⟨g, off + 0, none⟩) | 2 => v = .int .u8 (nb bs 0) | 3 => v = .int .i64 (nb bs 0) | 4 => v = .slice (some ⟨g, off, none⟩) n cap | 5 => v = .pointer (some ⟨g, off + 1, none⟩) | 6 => v = .int .u8 (nb bs 1) | 7 => v = .int .i64 (nb bs 1) | 8 => v = .slice (some ⟨g, off, none⟩) n cap | 9 => v = .int .i64 (w16 bs 4) | 10 => v = .slice (some ⟨g, off, none⟩) n cap | 11 => v = .slice (if cap = 8 then some ⟨g, off, none⟩ else some ⟨g, off + 8, none⟩) (n - 8) (cap - 8) | 12 => ∃ ad on oc, v = .slice ad on oc ∧ Gro w1.heap.size W v (bs.drop 8) | 13 => ∃ ad on oc, v = .agg (imL t (nb bs 1) (w16 bs 4) 0 0 (.slice ad on oc)).toArray ∧ Gro w1.heap.size W (.slice ad on oc) (bs.drop 8) | 14 => BoxT 24 w1.heap.size W v zIm | _ => True) (by kernel_rfl) (by kernel_rfl) (by kernel_rfl) 15 rfl _ rfl rfl (no_guard (by kernel_rfl)) (fun i v W W' h hb => match i, h with | 0, h => h | 1, h => h | 2, h => h | 3, h => h | 4, h => h | 5, h => h | 6, h => h | 7, h => h | 8, h => h | 9, h => h | 10, h => h | 11, h => h | 12, h => (by obtain ⟨ad, on, oc, e, h⟩ := h; exact ⟨ad, on, oc, e, h.later hb⟩) | 13, h => (by obtain ⟨ad, on, oc, e, h⟩ := h; exact ⟨ad, on, oc, e, h.later hb⟩) | 14, h => BoxT.later h hb | _ + 15, h => h) ?_ ?_
    · intro listed a W hM hn i o ho hlt hr
      have B := hM.bel
      match i, ho, hlt, hr with
      | 0, ho, _, hr =>
        have u0 : a.eval (.tmp 0) = .slice (some ⟨g, off, none⟩) n cap := hM.keep (t := 0) (by kernel_rfl)
        exact Step.of rfl (.inl ⟨.slice (some ⟨g, off, none⟩) n cap, W, exec_move _ _ rfl u0, Below.refl _ _, rfl⟩) ho
      | 1, ho, _, hr =>
        have u4 := hM.use hr rfl (j := 0) (by kernel_rfl) rfl rfl
        have u4 : a.eval (.tmp 4) = .slice (some ⟨g, off, none⟩) n cap := u4
        exact Step.of rfl (.inl ⟨.pointer (some ⟨g, off + 0, none⟩), W, exec_ixC _ 0 g off n cap 0 rfl rfl (fun _ => rfl) u4 (by omega), Below.refl _ _, rfl⟩) ho
      | 2, ho, _, hr =>
        have u5 := hM.use hr rfl (j := 1) (by kernel_rfl) rfl rfl
        have u5 : a.eval (.tmp 5) = .pointer (some ⟨g, off + 0, none⟩) := u5
        exact Step.of rfl (.inl ⟨.int .u8 (nb bs 0), W, exec_load1 5 oneU _ rfl g (off + 0) u5 (.int .u8 (nb bs 0)) (CW.out W (HB1.out.trans ((((Below.refl _ w1).drew).trans B).mono HB1.out.size)) 0 (by omega)), Below.refl _ _, rfl⟩) ho
      | 3, ho, _, hr =>
        have u6 := hM.use hr rfl (j := 2) (by kernel_rfl) rfl rfl
        have u6 : a.eval (.tmp 6) = .int .u8 (nb bs 0) := u6
        exact Step.of rfl (.inl ⟨.int .i64 (nb bs 0), W, exec_cvti _ _ rfl u6 (bn 0).1 (bn 0).2, Below.refl _ _, rfl⟩) ho
      | 4, ho, _, hr =>
        have u0 : a.eval (.tmp 0) = .slice (some ⟨g, off, none⟩) n cap := hM.keep (t := 0) (by kernel_rfl)
        exact Step.of rfl (.inl ⟨.slice (some ⟨g, off, none⟩) n cap, W, exec_move _ _ rfl u0, Below.refl _ _, rfl⟩) ho
      | 5, ho, _, hr =>
        have u8 := hM.use hr rfl (j := 4) (by kernel_rfl) rfl rfl
        have u8 : a.eval (.tmp 8) = .slice (some ⟨g, off, none⟩) n cap := u8
        exact Step.of rfl (.inl ⟨.pointer (some ⟨g, off + 1, none⟩), W, exec_ixC _ 1 g off n cap 1 rfl rfl (fun _ => rfl) u8 (by omega), Below.refl _ _, rfl⟩) ho
      | 6, ho, _, hr =>
        have u9 := hM.use hr rfl (j := 5) (by kernel_rfl) rfl rfl
        have u9 : a.eval (.tmp 9) = .pointer (some ⟨g, off + 1, none⟩) := u9
        exact Step.of rfl (.inl ⟨.int .u8 (nb bs 1), W, exec_load1 5 oneU _ rfl g (off + 1) u9 (.int .u8 (nb bs 1)) (CW.out W (HB1.out.trans ((((Below.refl _ w1).drew).trans B).mono HB1.out.size)) 1 (by omega)), Below.refl _ _, rfl⟩) ho
      | 7, ho, _, hr =>
        have u10 := hM.use hr rfl (j := 6) (by kernel_rfl) rfl rfl
        have u10 : a.eval (.tmp 10) = .int .u8 (nb bs 1) := u10
        exact Step.of rfl (.inl ⟨.int .i64 (nb bs 1), W, exec_cvti _ _ rfl u10 (bn 1).1 (bn 1).2, Below.refl _ _, rfl⟩) ho
      | 8, ho, _, hr =>
        have u0 : a.eval (.tmp 0) = .slice (some ⟨g, off, none⟩) n cap := hM.keep (t := 0) (by kernel_rfl)
        exact Step.of rfl (.inl ⟨.slice (some ⟨g, off, none⟩) n cap, W, exec_move _ _ rfl u0, Below.refl _ _, rfl⟩) ho
      | 9, ho, _, hr =>
        have u12 := hM.use hr rfl (j := 8) (by kernel_rfl) rfl rfl
        have u12 : a.eval (.tmp 12) = .slice (some ⟨g, off, none⟩) n cap := u12
        refine Step.of rfl (.inr ⟨54, #[.slice (some ⟨g, off, none⟩) n cap, .int .i64 4], exec_callF _ _ _ _ rfl (map2 u12 rfl) (enters_of Try.func54 (by kernel_rfl) rfl), ?_⟩) ho
        exact icAt_val _ bs 4 W (HB.out.later (HB1.out.trans ((((Below.refl _ w1).drew).trans B).mono HB1.out.size))) BY.out (by have := HN.out; omega) (by have := HN.out; omega)
      | 10, ho, _, hr =>
        have u0 : a.eval (.tmp 0) = .slice (some ⟨g, off, none⟩) n cap := hM.keep (t := 0) (by kernel_rfl)
        exact Step.of rfl (.inl ⟨.slice (some ⟨g, off, none⟩) n cap, W, exec_move _ _ rfl u0, Below.refl _ _, rfl⟩) ho
      | 11, ho, _, hr =>
        have u14 := hM.use hr rfl (j := 10) (by kernel_rfl) rfl rfl
        have u14 : a.eval (.tmp 14) = .slice (some ⟨g, off, none⟩) n cap := u14
        exact Step.of rfl (.inl ⟨.slice (if cap = 8 then some ⟨g, off, none⟩ else some ⟨g, off + 8, none⟩) (n - 8) (cap - 8), W, exec_slL _ g off n cap 8 8 rfl rfl (fun _ => rfl) u14 h8, Below.refl _ _, rfl⟩) ho
      | 12, ho, _, hr =>
        have u15 := hM.use hr rfl (j := 11) (by kernel_rfl) rfl rfl
        have u15 : a.eval (.tmp 15) = .slice (if cap = 8 then some ⟨g, off, none⟩ else some ⟨g, off + 8, none⟩) (n - 8) (cap - 8) := u15
        refine Step.of rfl (.inr ⟨41, #[.slice (if cap = 8 then some ⟨g, off, none⟩ else some ⟨g, off + 8, none⟩) (n - 8) (cap - 8)], exec_callF _ _ _ _ rfl (map1 u15) (enters_of Try.func41 (by kernel_rfl) rfl), ?_⟩) ho
        exact CL W (HB1.out.trans ((((Below.refl _ w1).drew).trans B).mono HB1.out.size)) hn
      | 13, ho, _, hr =>
        have u7 := hM.use hr rfl (j := 3) (by kernel_rfl) rfl rfl
        have u7 : a.eval (.tmp 7) = .int .i64 (nb bs 0) := u7
        have u11 := hM.use hr rfl (j := 7) (by kernel_rfl) rfl rfl
        have u11 : a.eval (.tmp 11) = .int .i64 (nb bs 1) := u11
        have u13 := hM.use hr rfl (j := 9) (by kernel_rfl) rfl rfl
        have u13 : (fun v W => v = .int .i64 (w16 bs 4)) (a.eval (.tmp 13)) W := u13
        have u16 := hM.use hr rfl (j := 12) (by kernel_rfl) rfl rfl
        have u16 : (fun v W => ∃ ad on oc, v = .slice ad on oc ∧ Gro w1.heap.size W v (bs.drop 8)) (a.eval (.tmp 16)) W := u16
        refine Step.of rfl (.inl ?_) ho
        exact (by obtain ⟨ad, on, oc, e, hg⟩ := u16; exact ⟨_, W, exec_bldC _ _ _ _ _ _ _ ad on oc rfl u7 u11 u13 e, Below.refl _ _, ad, on, oc, by rw [HT.out], by rw [← e]; exact hg⟩)
      | 14, ho, _, hr =>
        refine Step.of rfl (.inl ?_) ho
        exact boxC_made rfl hn
      | n + 15, _, hlt, _ => exact absurd hlt (by omega)
    intro listed a W hM hl
    have B := hM.bel
    have p4 : a.tmps.getD 4 undef = .slice (some ⟨g, off, none⟩) n cap := hM.got 0 _ _ rfl (hl 0 (by decide)) rfl
    have p5 : a.tmps.getD 5 undef = .pointer (some ⟨g, off + 0, none⟩) := hM.got 1 _ _ rfl (hl 1 (by decide)) rfl
    have p6 : a.tmps.getD 6 undef = .int .u8 (nb bs 0) := hM.got 2 _ _ rfl (hl 2 (by decide)) rfl
    have p7 : a.tmps.getD 7 undef = .int .i64 (nb bs 0) := hM.got 3 _ _ rfl (hl 3 (by decide)) rfl
    have p8 : a.tmps.getD 8 undef = .slice (some ⟨g, off, none⟩) n cap := hM.got 4 _ _ rfl (hl 4 (by decide)) rfl
    have p9 : a.tmps.getD 9 undef = .pointer (some ⟨g, off + 1, none⟩) := hM.got 5 _ _ rfl (hl 5 (by decide)) rfl
    have p10 : a.tmps.getD 10 undef = .int .u8 (nb bs 1) := hM.got 6 _ _ rfl (hl 6 (by decide)) rfl
    have p11 : a.tmps.getD 11 undef = .int .i64 (nb bs 1) := hM.got 7 _ _ rfl (hl 7 (by decide)) rfl
    have p12 : a.tmps.getD 12 undef = .slice (some ⟨g, off, none⟩) n cap := hM.got 8 _ _ rfl (hl 8 (by decide)) rfl
    have p13 : (fun v W => v = .int .i64 (w16 bs 4)) (a.tmps.getD 13 undef) W := hM.got 9 _ _ rfl (hl 9 (by decide)) rfl
    have p14 : a.tmps.getD 14 undef = .slice (some ⟨g, off, none⟩) n cap := hM.got 10 _ _ rfl (hl 10 (by decide)) rfl
    have p15 : a.tmps.getD 15 undef = .slice (if cap = 8 then some ⟨g, off, none⟩ else some ⟨g, off + 8, none⟩) (n - 8) (cap - 8) := hM.got 11 _ _ rfl (hl 11 (by decide)) rfl
    have p16 : (fun v W => ∃ ad on oc, v = .slice ad on oc ∧ Gro w1.heap.size W v (bs.drop 8)) (a.tmps.getD 16 undef) W := hM.got 12 _ _ rfl (hl 12 (by decide)) rfl
    have p17 : (fun v W => ∃ ad on oc, v = .agg (imL t (nb bs 1) (w16 bs 4) 0 0 (.slice ad on oc)).toArray ∧ Gro w1.heap.size W (.slice ad on oc) (bs.drop 8)) (a.tmps.getD 17 undef) W := hM.got 13 _ _ rfl (hl 13 (by decide)) rfl
    have p3 : (fun v W => BoxT 24 w1.heap.size W v zIm) (a.tmps.getD 3 undef) W := hM.got 14 _ _ rfl (hl 14 (by decide)) rfl
    obtain ⟨ad, on, oc, e17, g17⟩ := p17
    obtain ⟨s4, e4, h41, h42, h43, h44, h45⟩ := p3
    refine ⟨W.setCells s4 0 (imL t (nb bs 1) (w16 bs 4) 0 0 (.slice ad on oc)), exec_storeA 24 6 sizC (.tmp 3) (.tmp 17) rfl s4 0 e4 _ zIm e17 rfl rfl h43 h44 (im_one _ _ _ _ _ _ _ _), ?_⟩
    rw [hM.lit [4, 5, 6, 7, 8, 9, 10, 11, 12, 13, 14, 15, 16, 17, 3] (by kernel_rfl)]
    clear hM hl
    simp only [fill, List.foldl_cons, List.foldl_nil, Act.put, List.setIfInBounds_toArray, List.set_cons_zero, List.set_cons_succ]
    clear p4
    generalize a.tmps.getD 4 undef = x4 at *
    clear p5
    generalize a.tmps.getD 5 undef = x5 at *
    clear p6
    generalize a.tmps.getD 6 undef = x6 at *
    clear p7
    generalize a.tmps.getD 7 undef = x7 at *
    clear p8
    generalize a.tmps.getD 8 undef = x8 at *
    clear p9
    generalize a.tmps.getD 9 undef = x9 at *
    clear p10
    generalize a.tmps.getD 10 undef = x10 at *
    clear p11
    generalize a.tmps.getD 11 undef = x11 at *
    clear p12
    generalize a.tmps.getD 12 undef = x12 at *
    generalize a.tmps.getD 13 undef = x13 at *
    clear p14
    generalize a.tmps.getD 14 undef = x14 at *
    clear p15
    generalize a.tmps.getD 15 undef = x15 at *
    generalize a.tmps.getD 16 undef = x16 at *
    generalize a.tmps.getD 17 undef = x17 at *
    generalize a.tmps.getD 3 undef = x3 at *
    have B2 : Below w1.heap.size w1 W := ((Below.refl _ w1).drew).trans B
    obtain ⟨Y, hY⟩ : ∃ Y, Y = imL t (nb bs 1) (w16 bs 4) 0 0 (.slice ad on oc) := ⟨_, rfl⟩
    have YL : Y.length = zIm.length := by rw [hY]; rfl
    rw [← hY]
    have bo := But.cells s4 Y 0 W
    have sep := g17.apartT (by decide) h45
    have G5 : Hid (Gro w1.heap.size (W.setCells s4 0 Y) (.slice ad on oc) (bs.drop 8) ∧ ∀ g x y, (.slice ad on oc : Value) = .slice (some ⟨g, 0, none⟩) x y → g ≠ s4) := ⟨g17.off bo sep, sep⟩
    have C5 : Hid (CellsAt (W.setCells s4 0 Y) s4 0 Y) := h43.stored YL
    have F5 : Hid (∀ y, (W.setCells s4 0 Y).frozen? ⟨s4, y, none⟩ = false) := fun y => by rw [World.frozen?_setCells]; exact h44 y
    have L5 : s4 < (W.setCells s4 0 Y).heap.size := by rw [size_setCells]; exact h42
    have B5 : Hid (Below w1.heap.size w1 (W.setCells s4 0 Y)) := B2.trans (bo.below B2.size (fun g hg e => by have e : g = s4 := e; omega))
    subst e4
    clear p13 p16 e17 g17 h43 h44 h45 B B2 bo sep YL
    obtain ⟨wf, hwf⟩ : ∃ wf, wf = W.setCells s4 0 Y := ⟨_, rfl⟩
    rw [← hwf] at G5 C5 F5 L5 B5 ⊢
    rw [hY] at C5
    clear hwf hY
    go_wp2
    go_meet
    exact ⟨s4, ad, on, oc, rfl, C5, F5, L5, h41, G5, B5⟩
  case rest =>
    obtain ⟨s4, ad, on, oc, rfl, C5, F5, L5, h41, G5, B5⟩ := hcut
    obtain ⟨w5, hw5⟩ : ∃ w5, w5 = wc := ⟨_, rfl⟩
    rw [← hw5] at C5 F5 L5 G5 B5 ⊢
    have B5w : Hid (Below w.heap.size w w5) := HB1.out.trans (B5.out.mono HB1.out.size)
    have C2b := hide (C1.out.later l1 B5.out)
    have F2b : Hid (∀ y, w5.frozen? ⟨s2, y, none⟩ = false) := fun y => (B5.out.frozen (p := ⟨s2, y, none⟩) l1).trans (F1.out y)
    have sne : s2 ≠ s4 := by omega
    have l2 : s2 < w5.heap.size := Nat.lt_of_lt_of_le l1 B5.out.size
    have c50 : w5.cell? ⟨s4, 0, none⟩ = some (.int .i64 t) := (imL_cells C5.out).1
    clear hw5 CW CL C1 F1
    go_wp2_with fail
    refine (icEcho_any t _).mono ?_
    rintro _ w5b ⟨rfl, hz⟩
    rw [hz]
    clear hz
    have FIN : ∀ (sq mt : Int) (k : Nat) (x : Int) (w6 : World), Below w5.heap.size w5 w6 → (k = 3 ∨ k = 4) → CellsAt (w6.setCell ⟨s4, k, none⟩ (.int .i64 x)) s4 0 (imL t (nb bs 1) (w16 bs 4) sq mt (.slice ad on oc)) → ∃ w7, w6.setCell ⟨s4, k, none⟩ (.int .i64 x) = w7 ∧ CellsAt w7 s4 0 (imL t (nb bs 1) (w16 bs 4) sq mt (.slice ad on oc)) ∧ CellsAt w7 s2 0 zIm ∧ (∀ y, w7.frozen? ⟨s2, y, none⟩ = false) ∧ Gro w.heap.size (w7.setCells s2 0 (imL t (nb bs 1) (w16 bs 4) sq mt (.slice ad on oc))) (.slice ad on oc) (bs.drop 8) ∧ Below w.heap.size w (w7.setCells s2 0 (imL t (nb bs 1) (w16 bs 4) sq mt (.slice ad on oc))) := fun sq mt k x w6 h6 hk hc => by
      have b1 : But (Only s4) w6 (w6.setCell ⟨s4, k, none⟩ (.int .i64 x)) := (But.refl (Only s4) w6).cellb (b := s4) rfl k _
      have l6 : s2 < w6.heap.size := Nat.lt_of_lt_of_le l2 h6.size
      refine ⟨_, rfl, hc, (C2b.out.later l2 h6).but l6 b1 sne, fun y => (b1.frozen (p := ⟨s2, y, none⟩) l6 sne).trans ((h6.frozen (p := ⟨s2, y, none⟩) l2).trans (F2b.out y)), ?_, ?_⟩
      · have b2 := But.cells s2 (imL t (nb bs 1) (w16 bs 4) sq mt (.slice ad on oc)) 0 (w6.setCell ⟨s4, k, none⟩ (.int .i64 x))
        have g1 := (G5.out.1.later h6).off b1 G5.out.2
        refine (g1.off b2 (fun g' x y e e2 => ?_)).low HB1.out.size
        obtain ⟨_, ⟨h2, _⟩ | ⟨g'', cap', cur, e', hge, _⟩⟩ := g1
        · rw [e] at h2; cases h2
        · rw [e] at e'
          cases e'
          omega
      · have b2 := But.cells s2 (imL t (nb bs 1) (w16 bs 4) sq mt (.slice ad on oc)) 0 (w6.setCell ⟨s4, k, none⟩ (.int .i64 x))
        have h := later B5w.out h6
        have z1 := HB1.out.size
        have h2 := h.trans (b1.below h.size (fun g hg e => by have e : g = s4 := e; omega))
        exact h2.trans (b2.below h2.size (fun g hg e => by have e : g = s2 := e; have := HS2.out; omega))
    have HFIN := hide FIN
    clear FIN
    cases he : ech t with
    | true =>
      have A6 := hide (H6.out w5 B5w.out)
      have HE := hide he
      clear he
      go_wp2_with fail
      refine A6.out.mono ?_
      rintro _ w6 ⟨rfl, b6⟩
      have c6 := C5.out.later L5 b6
      have f6 : w6.frozen? ⟨s4, 3, none⟩ = false := (b6.frozen (p := ⟨s4, 3, none⟩) L5).trans (F5.out 3)
      obtain ⟨x0, x1, x2, x3, x4, x5⟩ := imL_cells c6
      have c7 : CellsAt (w6.setCell ⟨s4, 3, none⟩ (.int .i64 (w16 bs 6))) s4 0 (imL t (nb bs 1) (w16 bs 4) (w16 bs 6) 0 (.slice ad on oc)) := by
        intro j v hv
        rw [Nat.zero_add]
        rcases j with _ | _ | _ | _ | _ | _ | j
        · rw [setCell_out (by decide)]; cases hv; exact x0
        · rw [setCell_out (by decide)]; cases hv; exact x1
        · rw [setCell_out (by decide)]; cases hv; exact x2
        · cases hv; exact World.cell?_setCell_same _ _ _ x3
        · rw [setCell_out (by decide)]; cases hv; exact x4
        · rw [setCell_out (by decide)]; cases hv; exact x5
        · cases hv
      obtain ⟨w7, hw7, d7, e7, f7, g8, b8⟩ := HFIN.out _ _ 3 _ w6 b6 (.inl rfl) c7
      obtain ⟨Y, hY⟩ : ∃ Y, Y = imL t (nb bs 1) (w16 bs 4) (w16 bs 6) 0 (.slice ad on oc) := ⟨_, rfl⟩
      have lY : Hid (Y.length = 6) := by rw [hY]; exact rfl
      have oY : Hid (∀ u ∈ Y, u.oneCell' = true) := by rw [hY]; exact im_one _ _ _ _ _ _ _ _
      rw [← hY] at d7 g8 b8
      have D7 := hide d7
      have E7 := hide e7
      have F7 := hide f7
      have G8 := hide g8
      have B8 := hide b8
      obtain ⟨w8, hw8⟩ : ∃ w8, w8 = w7.setCells s2 0 Y := ⟨_, rfl⟩
      have C8 : Hid (CellsAt w8 s2 0 Y) := by rw [hw8]; exact e7.stored (by rw [lY.out]; rfl)
      rw [← hw8] at G8 B8
      have hw8' := hw8.symm
      have HY := hide hY
      clear A6 b6 c6 c7 d7 e7 f7 g8 b8 hY hw8 HFIN
      go_upto_region 5 with fail
      clear hw7 x0 x1 x2 x3 x4 x5 f6 c50
      refine wp_region_list ?_
      refine wpList_loadA rfl 24 6 aggC sizC _ rfl s4 0 rfl Y lY.out D7.out ?_
      simp only [Act.put, List.setIfInBounds_toArray, List.set_cons_zero, List.set_cons_succ]
      refine wpList_storeA rfl 24 6 sizC _ _ rfl s2 0 rfl Y zIm rfl lY.out rfl E7.out F7.out oY.out ?_
      intro _
      rw [hw8']
      clear hw8'
      simp only [Act.put]
      go_wp2
      refine bodyPost_ret (v := .agg Y.toArray) (results_A rfl _ _ s2 _ rfl (run_loadVarA 24 6 aggC sizC s2 0 Y lY.out C8.out)) rfl ?_
      exact ⟨ad, on, oc, by rw [HY.out, HSQ.out, HMT.out, if_pos HE.out, if_pos HE.out], G8.out, B8.out⟩
    | false =>
      have A6 := hide (H6.out w5 B5w.out)
      have HE := hide he
      clear he
      go_wp2_with fail
      refine A6.out.mono ?_
      rintro _ w6 ⟨rfl, b6⟩
      have c6 := C5.out.later L5 b6
      have f6 : w6.frozen? ⟨s4, 4, none⟩ = false := (b6.frozen (p := ⟨s4, 4, none⟩) L5).trans (F5.out 4)
      obtain ⟨x0, x1, x2, x3, x4, x5⟩ := imL_cells c6
      have c7 : CellsAt (w6.setCell ⟨s4, 4, none⟩ (.int .i64 (w16 bs 6))) s4 0 (imL t (nb bs 1) (w16 bs 4) 0 (w16 bs 6) (.slice ad on oc)) := by
        intro j v hv
        rw [Nat.zero_add]
        rcases j with _ | _ | _ | _ | _ | _ | j
        · rw [setCell_out (by decide)]; cases hv; exact x0
        · rw [setCell_out (by decide)]; cases hv; exact x1
        · rw [setCell_out (by decide)]; cases hv; exact x2
        · rw [setCell_out (by decide)]; cases hv; exact x3
        · cases hv; exact World.cell?_setCell_same _ _ _ x4
        · rw [setCell_out (by decide)]; cases hv; exact x5
        · cases hv
      obtain ⟨w7, hw7, d7, e7, f7, g8, b8⟩ := HFIN.out _ _ 4 _ w6 b6 (.inr rfl) c7
      obtain ⟨Y, hY⟩ : ∃ Y, Y = imL t (nb bs 1) (w16 bs 4) 0 (w16 bs 6) (.slice ad on oc) := ⟨_, rfl⟩
      have lY : Hid (Y.length = 6) := by rw [hY]; exact rfl
      have oY : Hid (∀ u ∈ Y, u.oneCell' = true) := by rw [hY]; exact im_one _ _ _ _ _ _ _ _
      rw [← hY] at d7 g8 b8
      have D7 := hide d7
      have E7 := hide e7
      have F7 := hide f7
      have G8 := hide g8
      have B8 := hide b8
      obtain ⟨w8, hw8⟩ : ∃ w8, w8 = w7.setCells s2 0 Y := ⟨_, rfl⟩
      have C8 : Hid (CellsAt w8 s2 0 Y) := by rw [hw8]; exact e7.stored (by rw [lY.out]; rfl)
      rw [← hw8] at G8 B8
      have hw8' := hw8.symm
      have HY := hide hY
      clear A6 b6 c6 c7 d7 e7 f7 g8 b8 hY hw8 HFIN
      go_upto_region 5 with fail
      clear hw7 x0 x1 x2 x3 x4 x5 f6 c50
      refine wp_region_list ?_
      refine wpList_loadA rfl 24 6 aggC sizC _ rfl s4 0 rfl Y lY.out D7.out ?_
      simp only [Act.put, List.setIfInBounds_toArray, List.set_cons_zero, List.set_cons_succ]
      refine wpList_storeA rfl 24 6 sizC _ _ rfl s2 0 rfl Y zIm rfl lY.out rfl E7.out F7.out oY.out ?_
      intro _
      rw [hw8']
      clear hw8'
      simp only [Act.put]
      go_wp2
      refine bodyPost_ret (v := .agg Y.toArray) (results_A rfl _ _ s2 _ rfl (run_loadVarA 24 6 aggC sizC s2 0 Y lY.out C8.out)) rfl ?_
      exact ⟨ad, on, oc, by rw [HY.out, HSQ.out, HMT.out, if_neg (by rw [HE.out]; decide), if_neg (by rw [HE.out]; decide)], G8.out, B8.out⟩
end Go.Proofs.Yteiendigcaedhaa
