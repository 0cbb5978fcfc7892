
/-
  Package ip4: the contract of head.
-/
import Derived.Test.YtiglejmmdghmgaaI11
namespace Go.Proofs.Ytiglejmmdghmgaa
open Go.RowKit Go.Shelf

def ipA (bs : List Int) (k : Nat) : I4 := ⟨nb bs k, nb bs (k + 1), nb bs (k + 2), nb bs (k + 3)⟩
/-- what a head says -/
def hdP (bs : List Int) : Pk := ⟨ipA bs 12, ipA bs 16, nb bs 9, nb bs 8, w16 bs 4, nb bs 1, decide (w16 bs 6 / 16384 % 2 = 1), decide (w16 bs 6 / 8192 % 2 = 1), w16 bs 6 % 8192 * 8, bs.drop 20⟩
/-- a new box -/
def BoxN (n0 : Nat) (W : World) (v : Value) (vs : List Value) : Prop := ∃ s, v = .pointer (some ⟨s, 0, none⟩) ∧ n0 ≤ s ∧ s < W.heap.size ∧ CellsAt W s 0 vs ∧ (∀ y, W.frozen? ⟨s, y, none⟩ = false) ∧ W.heap[s]? = some (.cells vs.toArray 26 (0, 0))
theorem BoxN.later {n0 : Nat} {W W' : World} {v : Value} {vs : List Value} (h : BoxN n0 W v vs) (hb : Below W.heap.size W W') : BoxN n0 W' v vs := by
  obtain ⟨s, e, h1, h2, h3, h4, h5⟩ := h
  exact ⟨s, e, h1, Nat.lt_of_lt_of_le h2 hb.size, h3.later h2 hb, fun y => (hb.frozen (p := ⟨s, y, none⟩) h2).trans (h4 y), by rw [hb.block s h2]; exact h5⟩
theorem Gro.off {B s : Nat} {W W' : World} {v : Value} {bs : List Int} (h : Gro B W v bs) (hb : But (Only s) W W') (hs : ∀ g x y, v = .slice (some ⟨g, 0, none⟩) x y → g ≠ s) : Gro B W' v bs := by
  obtain ⟨h1, h2 | ⟨g, cap, cur, e, hg, hh, r⟩⟩ := h
  · exact ⟨h1, .inl h2⟩
  · exact ⟨h1, .inr ⟨g, cap, cur, e, hg, by rw [hb.block g (Array.getElem?_eq_some_iff.1 hh).1 (hs g _ _ e)]; exact hh, r⟩⟩
theorem Gro.apart {B : Nat} {W : World} {v : Value} {bs : List Int} {vs : List Value} {s : Nat} (h : Gro B W v bs) (hb : W.heap[s]? = some (.cells vs.toArray 26 (0, 0))) : ∀ g x y, v = .slice (some ⟨g, 0, none⟩) x y → g ≠ s := by
  intro g x y e e2
  subst e2
  obtain ⟨_, ⟨h2, _⟩ | ⟨g', cap, cur, e', _, hh, _⟩⟩ := h
  · rw [e] at h2; cases h2
  · rw [e] at e'
    cases e'
    rw [hb] at hh
    cases hh
theorem size_setCells (g : Nat) : ∀ (vs : List Value) (o : Nat) (w : World), (w.setCells g o vs).heap.size = w.heap.size
  | [], _, _ => rfl
  | v :: vs, o, w => (size_setCells g vs (o + 1) (w.setCell ⟨g, o, none⟩ v)).trans (by simp [World.setCell])
def zP : Pk := ⟨zI, zI, 0, 0, 0, 0, false, false, 0, []⟩
section
variable {o : Oper} {w : World} {ev : Operand → Value}
theorem exec_allocP (ho : o.op = .alloc 26) : (execOp ev o).run Try.prog w = .ok (.value (.pointer (some ⟨w.heap.size, 0, none⟩))) (w.alloc (.cells (zP.cells (.slice none 0 0)).toArray 26)) := by
  unfold execOp
  rw [ho]
  kernel_rfl
theorem exec_andc (x : Operand) (t : TypeId) (n c r : Int) (ho : o.op = .binOp .and 3 x (.const (.int .i64 c)) t) (hc : ∀ v, ev (.const v) = v) (hx : ev x = .int .i64 n) (h : bits .and .i64 n c = r) : (execOp ev o).run Try.prog w = .ok (.value (.int .i64 r)) w := by
  unfold execOp
  simp [ho, hx, hc, go_sem, h]
theorem exec_slL (x : Operand) (g off n c k : Nat) (kI : Int) (hk : (k : Int) = kI) (ho : o.op = .slice 24 x (some (.const (.int .i64 kI))) none none) (hcs : ∀ v, ev (.const v) = v) (hx : ev x = .slice (some ⟨g, off, none⟩) n c) (hn : k ≤ n) : (execOp ev o).run Try.prog w = .ok (.value (.slice (if c = k then some ⟨g, off, none⟩ else some ⟨g, off + k, none⟩) (n - k) (c - k))) w := by
  subst hk
  have h1 : (k : Int) ≤ n := by omega
  unfold execOp
  simp [ho, hx, hcs, go_sem, h1]
theorem exec_bldP (x1 x2 x3 x4 x5 x6 x7 x8 : Operand) (a b c d f : Int) (p q : Bool) (ad : Option Addr) (n cap : Nat) (ho : o.op = .build 26 #[(2, x1), (3, x2), (4, x3), (5, x4), (6, x5), (7, x6), (8, x7), (9, x8)]) (h1 : ev x1 = .int .i64 a) (h2 : ev x2 = .int .i64 b) (h3 : ev x3 = .int .i64 c) (h4 : ev x4 = .int .i64 d) (h5 : ev x5 = .bool p) (h6 : ev x6 = .bool q) (h7 : ev x7 = .int .i64 f) (h8 : ev x8 = .slice ad n cap) :
    (execOp ev o).run Try.prog w = .ok (.value (.agg (Pk.cells ⟨zI, zI, a, b, c, d, p, q, f, []⟩ (.slice ad n cap)).toArray)) w := by
  unfold execOp
  rw [ho]
  simp only [List.map_toArray, List.map_cons, List.map_nil, h1, h2, h3, h4, h5, h6, h7, h8]
  kernel_rfl
end
theorem box_made {n0 : Nat} {ev : Operand → Value} {o : Oper} {W : World} (ho : o.op = .alloc 26) (hn : n0 ≤ W.heap.size) : ∃ v W', (execOp ev o).run Try.prog W = .ok (.value v) W' ∧ Below W.heap.size W W' ∧ BoxN n0 W' v (zP.cells (.slice none 0 0)) :=
  ⟨_, _, exec_allocP ho, later_alloc _ _, W.heap.size, rfl, hn, by simp, CellsAt.new W _ _, fun y => frozen_new W _ _ _, heap_alloc_new W _⟩
theorem IsB.isF {n₀ : Nat} {W : World} {v : Value} {bs : List Int} (h : IsB n₀ W v bs) (hn : n₀ ≤ W.heap.size) : IsF (fun _ => False) W v bs := by
  obtain ⟨a, cap, e, hl, hnn, hc⟩ := h
  refine ⟨a, cap, e, hl, hnn, fun h0 => ?_⟩
  obtain ⟨b, off, e1, hb, hcs⟩ := hc h0
  exact ⟨b, off, e1, by omega, id, hcs⟩
theorem pk_one (p : Pk) (a : Option Addr) (n c : Nat) : ∀ u ∈ p.cells (.slice a n c), u.oneCell' = true := by
  intro u hu
  simp only [Pk.cells, I4.vals, List.cons_append, List.nil_append, List.mem_cons, List.not_mem_nil, or_false] at hu
  rcases hu with rfl | rfl | rfl | rfl | rfl | rfl | rfl | rfl | rfl | rfl | rfl | rfl | rfl | rfl | rfl | rfl <;> rfl
theorem take4B {bs : List Int} {k : Nat} (h : k + 4 ≤ bs.length) : (ipA bs k).vals = ((bs.drop k).take 4).map (Value.int .u8) := by
  have e : (bs.drop k).take 4 = [nb bs k, nb bs (k + 1), nb bs (k + 2), nb bs (k + 3)] := by
    refine List.ext_getElem? (fun j => ?_)
    by_cases hj : j < 4
    · have h4 : j = 0 ∨ j = 1 ∨ j = 2 ∨ j = 3 := by omega
      rw [List.getElem?_take, if_pos hj, List.getElem?_drop]
      have hh : ∀ q, q < bs.length → bs[q]? = some (nb bs q) := fun q hq => by unfold nb; rw [List.getElem?_eq_getElem hq]; rfl
      rcases h4 with rfl | rfl | rfl | rfl
      · rw [hh (k + 0) (by omega)]; rfl
      · rw [hh (k + 1) (by omega)]; rfl
      · rw [hh (k + 2) (by omega)]; rfl
      · rw [hh (k + 3) (by omega)]; rfl
    · rw [List.getElem?_eq_none (by simp; omega), List.getElem?_eq_none (by simp; omega)]
  rw [e]
  rfl
theorem copy_cellsB {w : World} {a : Option Addr} {n cap : Nat} {bs : List Int} (h : IsB w.heap.size w (.slice a n cap) bs) {s o k : Nat} {old new : List Value} (hk0 : 0 < k) (hk : k ≤ bs.length) (hn : new = (bs.take k).map (Value.int .u8)) (ho : CellsAt w s o old) (hl : old.length = k) (hf : ∀ y, w.frozen? ⟨s, y, none⟩ = false) :
    (Builtin.copy_ #[24, 24] 3 #[.slice (some ⟨s, o, none⟩) k k, .slice a n cap]).run Try.prog w = .ok (.int .i64 (k : Int)) (w.setCells s o new) := by
  obtain ⟨a', cap', e, hlc, hnn, hc⟩ := h
  simp only [Value.slice.injEq] at e
  obtain ⟨rfl, rfl, rfl⟩ := e
  obtain ⟨b, q, rfl, _, hcs⟩ := hc (by omega)
  have hm : Nat.min bs.length k = k := Nat.min_eq_right hk
  have hlen : new.length = k := by rw [hn]; simp; omega
  have := run_copy_cells (P := Try.prog) w 24 24 3 5 s o k k ⟨b, q, none⟩ bs.length cap new Try.underlying24 size_u8 (by rw [hm, hlen])
    (fun j v hv => by
      have hj : j < k := by have := (List.getElem?_eq_some_iff.1 hv).1; omega
      rw [Addr.add_lit, hcs j (by omega), ← hv, hn]
      simp [hj, show j < bs.length by omega]) (fun j hj => by rw [ho j _ (List.getElem?_eq_getElem (by omega))]; rfl) (fun j _ => hf _) (by rw [hn]; exact ints_one _)
  rw [this, hlen]
  rfl
set_option maxRecDepth 100000 in
set_option maxHeartbeats 8000000 in
theorem head_any (g off cap : Nat) (bs : List Int) (w : World) (hb : IsB w.heap.size w (.slice (some ⟨g, off, none⟩) bs.length cap) bs) (hB : Bytes bs) (h20 : 20 ≤ bs.length) (h60 : bs.length ≤ 60) :
    Calls Try.prog 29 #[.slice (some ⟨g, off, none⟩) bs.length cap] w fun e w' => ∃ ov, e = .returned (.agg ((hdP bs).cells ov).toArray) ∧ Gro w.heap.size w' ov (bs.drop 20) ∧ Below w.heap.size w w' := by
  obtain ⟨n, hn⟩ : ∃ n, n = bs.length := ⟨_, rfl⟩
  rw [← hn] at hb h20 h60 ⊢
  have ncap : n ≤ cap := by
    obtain ⟨_, _, e, hle, _⟩ := hb
    simp only [Value.slice.injEq] at e
    obtain ⟨_, _, rfl⟩ := e
    omega
  have HB := hide hb
  have HN := hide hn
  have BY := hide hB
  have cell : ∀ W, Below w.heap.size w W → ∀ j, j < n → W.cell? ⟨g, off + j, none⟩ = some (.int .u8 (nb bs j)) := fun W hW j hj => by
    obtain ⟨a, c, e, _, _, hc⟩ := hb.below hW
    simp only [Value.slice.injEq] at e
    obtain ⟨rfl, _, rfl⟩ := e
    obtain ⟨b', off', e, _, hcs⟩ := hc (by omega)
    cases e
    exact hcs j (by omega)
  have CW := hide cell
  obtain ⟨s2, hs2⟩ : ∃ s2, s2 = w.heap.size := ⟨_, rfl⟩
  obtain ⟨w1, hw1⟩ : ∃ w1, w1 = w.alloc (.cells (zP.cells (.slice none 0 0)).toArray 26) := ⟨_, rfl⟩
  have b1 : Below w.heap.size w w1 := by rw [hw1]; exact later_alloc _ _
  have c1 : CellsAt w1 s2 0 (zP.cells (.slice none 0 0)) := by rw [hw1, hs2]; exact CellsAt.new w _ _
  have f1 : ∀ y, w1.frozen? ⟨s2, y, none⟩ = false := fun y => by rw [hw1, hs2]; exact frozen_new w _ _ _
  have l1 : s2 < w1.heap.size := by rw [hw1, hs2]; simp
  have AT := hide (at_val (.slice (some ⟨g, off, none⟩) n cap) bs 6 w1 (HB.out.later b1) hB (by omega) (by omega))
  have HB1 := hide b1
  have C1 := hide c1
  have F1 := hide f1
  have HS2 := hide hs2
  clear hb hn cell b1 c1 f1 hB
  go_enter Try.func29, Try.ntmps29
  have hw1' := hw1.symm
  have hs2' := hs2.symm
  simp only [zP, Pk.cells, I4.vals, zI, List.cons_append, List.nil_append] at hw1'
  clear hw1 hs2
  go_wp2_with fail
  clear hw1' hs2'
  refine AT.out.mono ?_
  rintro _ w2 ⟨_, rfl, rfl, b2⟩
  have HB2 : Hid (Below w.heap.size w w2) := HB1.out.trans (b2.mono HB1.out.size)
  have C2 := hide (C1.out.later l1 b2)
  have F2 : Hid (∀ y, w2.frozen? ⟨s2, y, none⟩ = false) := fun y => (b2.frozen (p := ⟨s2, y, none⟩) l1).trans (F1.out y)
  have L2 : s2 < w2.heap.size := Nat.lt_of_lt_of_le l1 b2.size
  have bd := w16_bd BY.out 6
  have b4 := w16_bd BY.out 4
  obtain ⟨q, hq⟩ : ∃ q, q = w16 bs 6 := ⟨_, rfl⟩
  rw [← hq] at bd ⊢
  obtain ⟨bd0, bd1⟩ := bd
  have HQ := hide hq
  have a1 := and_16384 q bd0 bd1
  have a2 := and_8192 q bd0 bd1
  have a3 := and_8191 q bd0 bd1
  have n1 : (!((if q / 16384 % 2 = 1 then (16384 : Int) else 0) == 0)) = decide (q / 16384 % 2 = 1) := by
    by_cases h : q / 16384 % 2 = 1
    · rw [if_pos h, decide_eq_true h]; rfl
    · rw [if_neg h, decide_eq_false h]; rfl
  have n2 : (!((if q / 8192 % 2 = 1 then (8192 : Int) else 0) == 0)) = decide (q / 8192 % 2 = 1) := by
    by_cases h : q / 8192 % 2 = 1
    · rw [if_pos h, decide_eq_true h]; rfl
    · rw [if_neg h, decide_eq_false h]; rfl
  have bn := fun k => nb_bd BY.out k
  obtain ⟨p0, hp0⟩ : ∃ p0 : Pk, p0 = ⟨zI, zI, nb bs 9, nb bs 8, w16 bs 4, nb bs 1, decide (q / 16384 % 2 = 1), decide (q / 8192 % 2 = 1), q % 8192 * 8, []⟩ := ⟨_, rfl⟩
  have HP0 := hide hp0
  have CL : ∀ W, Below w.heap.size w W → w2.heap.size ≤ W.heap.size → Calls Try.prog 30 #[.slice (if cap = 20 then some ⟨g, off, none⟩ else some ⟨g, off + 20, none⟩) (n - 20) (cap - 20)] W fun e W' => ∃ v, e = .returned v ∧ (∃ ad on oc, v = .slice ad on oc ∧ Gro w2.heap.size W' v (bs.drop 20)) ∧ Below W.heap.size W W' := fun W hW hn2 => by
    have hd := (HB.out.later hW).drop 20 (by have := HN.out; omega)
    have ea : (if cap = 20 then some (⟨g, off, none⟩ : Addr) else Option.map (fun x : Addr => x.add 20) (some ⟨g, off, none⟩)) = (if cap = 20 then some ⟨g, off, none⟩ else some ⟨g, off + 20, none⟩) := by
      split
      · rfl
      · rw [Option.map_some, Addr.add_lit]
    rw [ea] at hd
    refine (Clone_any _ _ W hd (by rw [List.length_drop]; have := HN.out; omega) (fun a n c e => ?_)).mono ?_
    · simp only [Value.slice.injEq] at e
      rw [← e.1]
      split <;> simp
    · rintro _ W' ⟨u, rfl, hg, hb⟩
      obtain ⟨ad, oc, e, _⟩ := hg.isB.shape
      exact ⟨u, rfl, ⟨ad, _, oc, e, hg.low hn2⟩, hb⟩
  clear b2 AT hq hp0 C1 F1
  go_upto_region 2 with fail
  go_cut [4] from 7 to 33 (fun v4 wx => ∃ (s4 : Nat) (ad : Option Addr) (on oc : Nat), v4 = .pointer (some ⟨s4, 0, none⟩) ∧ Hid (CellsAt wx s4 0 (p0.cells (.slice ad on oc))) ∧ Hid (∀ y, wx.frozen? ⟨s4, y, none⟩ = false) ∧ s4 < wx.heap.size ∧ w2.heap.size ≤ s4 ∧ Hid (Gro w2.heap.size wx (.slice ad on oc) (bs.drop 20) ∧ ∀ g x y, (.slice ad on oc : Value) = .slice (some ⟨g, 0, none⟩) x y → g ≠ s4) ∧ Hid (Below w2.heap.size w2 wx))
  case first =>
    refine region_grow_store (w := w2) (fun i v W => match i with | 0 => v = .slice (some ⟨g, off, none⟩) n cap | 1 => v = .pointer (some ⟨g, off + 9, none⟩) | 2 => v = .int .u8 (nb bs 9) | 3 => v = .int .i64 (nb bs 9) | 4 => v = .slice (some ⟨g, off, none⟩) n cap | 5 => v = .pointer (some ⟨g, off + 8, none⟩) | 6 => v = .int .u8 (nb bs 8) | 7 => v = .int .i64 (nb bs 8) | 8 => v = .slice (some ⟨g, off, none⟩) n cap | 9 => v = .int .i64 (w16 bs 4) | 10 => v = .slice (some ⟨g, off, none⟩) n cap | 11 => v = .pointer (some ⟨g, off + 1, none⟩) | 12 => v = .int .u8 (nb bs 1) | 13 => v = .int .i64 (nb bs 1) | 14 => v = .int .i64 q | 15 => v = .int .i64 (if q / 16384 % 2 = 1 then 16384 else 0) | 16 => v = .bool (decide (q / 16384 % 2 = 1)) | 17 => v = .int .i64 q | 18 => v = .int .i64 (if q / 8192 % 2 = 1 then 8192 else 0) | 19 => v = .bool (decide (q / 8192 % 2 = 1)) | 20 => v = .int .i64 q | 21 => v = .int .i64 (q % 8192) | 22 => v = .int .i64 (q % 8192 * 8) | 23 => v = .slice (some ⟨g, off, none⟩) n cap | 24 => v = .slice (if cap = 20 then some ⟨g, off, none⟩ else some ⟨g, off + 20, none⟩) (n - 20) (cap - 20) | 25 => ∃ ad on oc, v = .slice ad on oc ∧ Gro w2.heap.size W v (bs.drop 20) | 26 => ∃ ad on oc, v = .agg (p0.cells (.slice ad on oc)).toArray ∧ Gro w2.heap.size W (.slice ad on oc) (bs.drop 20) | 27 => BoxN w2.heap.size W v (zP.cells (.slice none 0 0)) | _ => True) (by kernel_rfl) (by kernel_rfl) (by kernel_rfl) 28 rfl _ rfl rfl (no_guard (by kernel_rfl)) (fun i v W W' h hb => match i, h with | 0, h => h | 1, h => h | 2, h => h | 3, h => h | 4, h => h | 5, h => h | 6, h => h | 7, h => h | 8, h => h | 9, h => h | 10, h => h | 11, h => h | 12, h => h | 13, h => h | 14, h => h | 15, h => h | 16, h => h | 17, h => h | 18, h => h | 19, h => h | 20, h => h | 21, h => h | 22, h => h | 23, h => h | 24, h => h | 25, h => (by obtain ⟨ad, on, oc, e, h⟩ := h; exact ⟨ad, on, oc, e, h.later hb⟩) | 26, h => (by obtain ⟨ad, on, oc, e, h⟩ := h; exact ⟨ad, on, oc, e, h.later hb⟩) | 27, h => BoxN.later h hb | _ + 28, h => h) ?_ ?_
    · intro listed a W hM hn i o ho hlt hr
      have B := hM.bel
      match i, ho, hlt, hr with
      | 0, ho, _, hr =>
        have u0 : a.eval (.tmp 0) = .slice (some ⟨g, off, none⟩) n cap := hM.keep (t := 0) (by kernel_rfl)
        exact Step.of rfl (.inl ⟨.slice (some ⟨g, off, none⟩) n cap, W, exec_move _ _ rfl u0, Below.refl _ _, rfl⟩) ho
      | 1, ho, _, hr =>
        have u7 := hM.use hr rfl (j := 0) (by kernel_rfl) rfl rfl
        have u7 : a.eval (.tmp 7) = .slice (some ⟨g, off, none⟩) n cap := u7
        exact Step.of rfl (.inl ⟨.pointer (some ⟨g, off + 9, none⟩), W, exec_ixC _ 9 g off n cap 9 rfl rfl (fun _ => rfl) u7 (by omega), Below.refl _ _, rfl⟩) ho
      | 2, ho, _, hr =>
        have u8 := hM.use hr rfl (j := 1) (by kernel_rfl) rfl rfl
        have u8 : a.eval (.tmp 8) = .pointer (some ⟨g, off + 9, none⟩) := u8
        exact Step.of rfl (.inl ⟨.int .u8 (nb bs 9), W, exec_load1 5 oneU _ rfl g (off + 9) u8 (.int .u8 (nb bs 9)) (CW.out W (HB2.out.trans ((((Below.refl _ w2).drew).trans B).mono HB2.out.size)) 9 (by omega)), Below.refl _ _, rfl⟩) ho
      | 3, ho, _, hr =>
        have u9 := hM.use hr rfl (j := 2) (by kernel_rfl) rfl rfl
        have u9 : a.eval (.tmp 9) = .int .u8 (nb bs 9) := u9
        exact Step.of rfl (.inl ⟨.int .i64 (nb bs 9), W, exec_cvti _ _ rfl u9 (bn 9).1 (bn 9).2, Below.refl _ _, rfl⟩) ho
      | 4, ho, _, hr =>
        have u0 : a.eval (.tmp 0) = .slice (some ⟨g, off, none⟩) n cap := hM.keep (t := 0) (by kernel_rfl)
        exact Step.of rfl (.inl ⟨.slice (some ⟨g, off, none⟩) n cap, W, exec_move _ _ rfl u0, Below.refl _ _, rfl⟩) ho
      | 5, ho, _, hr =>
        have u11 := hM.use hr rfl (j := 4) (by kernel_rfl) rfl rfl
        have u11 : a.eval (.tmp 11) = .slice (some ⟨g, off, none⟩) n cap := u11
        exact Step.of rfl (.inl ⟨.pointer (some ⟨g, off + 8, none⟩), W, exec_ixC _ 8 g off n cap 8 rfl rfl (fun _ => rfl) u11 (by omega), Below.refl _ _, rfl⟩) ho
      | 6, ho, _, hr =>
        have u12 := hM.use hr rfl (j := 5) (by kernel_rfl) rfl rfl
        have u12 : a.eval (.tmp 12) = .pointer (some ⟨g, off + 8, none⟩) := u12
        exact Step.of rfl (.inl ⟨.int .u8 (nb bs 8), W, exec_load1 5 oneU _ rfl g (off + 8) u12 (.int .u8 (nb bs 8)) (CW.out W (HB2.out.trans ((((Below.refl _ w2).drew).trans B).mono HB2.out.size)) 8 (by omega)), Below.refl _ _, rfl⟩) ho
      | 7, ho, _, hr =>
        have u13 := hM.use hr rfl (j := 6) (by kernel_rfl) rfl rfl
        have u13 : a.eval (.tmp 13) = .int .u8 (nb bs 8) := u13
        exact Step.of rfl (.inl ⟨.int .i64 (nb bs 8), W, exec_cvti _ _ rfl u13 (bn 8).1 (bn 8).2, Below.refl _ _, rfl⟩) ho
      | 8, ho, _, hr =>
        have u0 : a.eval (.tmp 0) = .slice (some ⟨g, off, none⟩) n cap := hM.keep (t := 0) (by kernel_rfl)
        exact Step.of rfl (.inl ⟨.slice (some ⟨g, off, none⟩) n cap, W, exec_move _ _ rfl u0, Below.refl _ _, rfl⟩) ho
      | 9, ho, _, hr =>
        have u15 := hM.use hr rfl (j := 8) (by kernel_rfl) rfl rfl
        have u15 : a.eval (.tmp 15) = .slice (some ⟨g, off, none⟩) n cap := u15
        refine Step.of rfl (.inr ⟨42, #[.slice (some ⟨g, off, none⟩) n cap, .int .i64 4], exec_callF _ _ _ _ rfl (map2 u15 rfl) (enters_of Try.func42 (by kernel_rfl) rfl), ?_⟩) ho
        exact at_val _ bs 4 W (HB.out.later (HB2.out.trans ((((Below.refl _ w2).drew).trans B).mono HB2.out.size))) BY.out (by have := HN.out; omega) (by have := HN.out; omega)
      | 10, ho, _, hr =>
        have u0 : a.eval (.tmp 0) = .slice (some ⟨g, off, none⟩) n cap := hM.keep (t := 0) (by kernel_rfl)
        exact Step.of rfl (.inl ⟨.slice (some ⟨g, off, none⟩) n cap, W, exec_move _ _ rfl u0, Below.refl _ _, rfl⟩) ho
      | 11, ho, _, hr =>
        have u17 := hM.use hr rfl (j := 10) (by kernel_rfl) rfl rfl
        have u17 : a.eval (.tmp 17) = .slice (some ⟨g, off, none⟩) n cap := u17
        exact Step.of rfl (.inl ⟨.pointer (some ⟨g, off + 1, none⟩), W, exec_ixC _ 1 g off n cap 1 rfl rfl (fun _ => rfl) u17 (by omega), Below.refl _ _, rfl⟩) ho
      | 12, ho, _, hr =>
        have u18 := hM.use hr rfl (j := 11) (by kernel_rfl) rfl rfl
        have u18 : a.eval (.tmp 18) = .pointer (some ⟨g, off + 1, none⟩) := u18
        exact Step.of rfl (.inl ⟨.int .u8 (nb bs 1), W, exec_load1 5 oneU _ rfl g (off + 1) u18 (.int .u8 (nb bs 1)) (CW.out W (HB2.out.trans ((((Below.refl _ w2).drew).trans B).mono HB2.out.size)) 1 (by omega)), Below.refl _ _, rfl⟩) ho
      | 13, ho, _, hr =>
        have u19 := hM.use hr rfl (j := 12) (by kernel_rfl) rfl rfl
        have u19 : a.eval (.tmp 19) = .int .u8 (nb bs 1) := u19
        exact Step.of rfl (.inl ⟨.int .i64 (nb bs 1), W, exec_cvti _ _ rfl u19 (bn 1).1 (bn 1).2, Below.refl _ _, rfl⟩) ho
      | 14, ho, _, hr =>
        have u3 : a.eval (.tmp 3) = .int .i64 q := hM.keep (t := 3) (by kernel_rfl)
        exact Step.of rfl (.inl ⟨.int .i64 q, W, exec_move _ _ rfl u3, Below.refl _ _, rfl⟩) ho
      | 15, ho, _, hr =>
        have u21 := hM.use hr rfl (j := 14) (by kernel_rfl) rfl rfl
        have u21 : a.eval (.tmp 21) = .int .i64 q := u21
        exact Step.of rfl (.inl ⟨.int .i64 (if q / 16384 % 2 = 1 then 16384 else 0), W, exec_andc _ _ _ _ _ rfl (fun _ => rfl) u21 a1, Below.refl _ _, rfl⟩) ho
      | 16, ho, _, hr =>
        have u22 := hM.use hr rfl (j := 15) (by kernel_rfl) rfl rfl
        have u22 : a.eval (.tmp 22) = .int .i64 (if q / 16384 % 2 = 1 then 16384 else 0) := u22
        exact Step.of rfl (.inl ⟨.bool (decide (q / 16384 % 2 = 1)), W, exec_nei _ _ _ _ _ _ rfl u22 rfl n1, Below.refl _ _, rfl⟩) ho
      | 17, ho, _, hr =>
        have u3 : a.eval (.tmp 3) = .int .i64 q := hM.keep (t := 3) (by kernel_rfl)
        exact Step.of rfl (.inl ⟨.int .i64 q, W, exec_move _ _ rfl u3, Below.refl _ _, rfl⟩) ho
      | 18, ho, _, hr =>
        have u24 := hM.use hr rfl (j := 17) (by kernel_rfl) rfl rfl
        have u24 : a.eval (.tmp 24) = .int .i64 q := u24
        exact Step.of rfl (.inl ⟨.int .i64 (if q / 8192 % 2 = 1 then 8192 else 0), W, exec_andc _ _ _ _ _ rfl (fun _ => rfl) u24 a2, Below.refl _ _, rfl⟩) ho
      | 19, ho, _, hr =>
        have u25 := hM.use hr rfl (j := 18) (by kernel_rfl) rfl rfl
        have u25 : a.eval (.tmp 25) = .int .i64 (if q / 8192 % 2 = 1 then 8192 else 0) := u25
        exact Step.of rfl (.inl ⟨.bool (decide (q / 8192 % 2 = 1)), W, exec_nei _ _ _ _ _ _ rfl u25 rfl n2, Below.refl _ _, rfl⟩) ho
      | 20, ho, _, hr =>
        have u3 : a.eval (.tmp 3) = .int .i64 q := hM.keep (t := 3) (by kernel_rfl)
        exact Step.of rfl (.inl ⟨.int .i64 q, W, exec_move _ _ rfl u3, Below.refl _ _, rfl⟩) ho
      | 21, ho, _, hr =>
        have u27 := hM.use hr rfl (j := 20) (by kernel_rfl) rfl rfl
        have u27 : a.eval (.tmp 27) = .int .i64 q := u27
        exact Step.of rfl (.inl ⟨.int .i64 (q % 8192), W, exec_andc _ _ _ _ _ rfl (fun _ => rfl) u27 a3, Below.refl _ _, rfl⟩) ho
      | 22, ho, _, hr =>
        have u28 := hM.use hr rfl (j := 21) (by kernel_rfl) rfl rfl
        have u28 : a.eval (.tmp 28) = .int .i64 (q % 8192) := u28
        exact Step.of rfl (.inl ⟨.int .i64 (q % 8192 * 8), W, exec_mulc _ _ _ _ rfl (fun _ => rfl) u28 (by omega) (by omega), Below.refl _ _, rfl⟩) ho
      | 23, ho, _, hr =>
        have u0 : a.eval (.tmp 0) = .slice (some ⟨g, off, none⟩) n cap := hM.keep (t := 0) (by kernel_rfl)
        exact Step.of rfl (.inl ⟨.slice (some ⟨g, off, none⟩) n cap, W, exec_move _ _ rfl u0, Below.refl _ _, rfl⟩) ho
      | 24, ho, _, hr =>
        have u30 := hM.use hr rfl (j := 23) (by kernel_rfl) rfl rfl
        have u30 : a.eval (.tmp 30) = .slice (some ⟨g, off, none⟩) n cap := u30
        exact Step.of rfl (.inl ⟨.slice (if cap = 20 then some ⟨g, off, none⟩ else some ⟨g, off + 20, none⟩) (n - 20) (cap - 20), W, exec_slL _ g off n cap 20 20 rfl rfl (fun _ => rfl) u30 h20, Below.refl _ _, rfl⟩) ho
      | 25, ho, _, hr =>
        have u31 := hM.use hr rfl (j := 24) (by kernel_rfl) rfl rfl
        have u31 : a.eval (.tmp 31) = .slice (if cap = 20 then some ⟨g, off, none⟩ else some ⟨g, off + 20, none⟩) (n - 20) (cap - 20) := u31
        refine Step.of rfl (.inr ⟨30, #[.slice (if cap = 20 then some ⟨g, off, none⟩ else some ⟨g, off + 20, none⟩) (n - 20) (cap - 20)], exec_callF _ _ _ _ rfl (map1 u31) (enters_of Try.func30 (by kernel_rfl) rfl), ?_⟩) ho
        exact CL W (HB2.out.trans ((((Below.refl _ w2).drew).trans B).mono HB2.out.size)) hn
      | 26, ho, _, hr =>
        have u10 := hM.use hr rfl (j := 3) (by kernel_rfl) rfl rfl
        have u10 : a.eval (.tmp 10) = .int .i64 (nb bs 9) := u10
        have u14 := hM.use hr rfl (j := 7) (by kernel_rfl) rfl rfl
        have u14 : a.eval (.tmp 14) = .int .i64 (nb bs 8) := u14
        have u16 := hM.use hr rfl (j := 9) (by kernel_rfl) rfl rfl
        have u16 : (fun v W => v = .int .i64 (w16 bs 4)) (a.eval (.tmp 16)) W := u16
        have u20 := hM.use hr rfl (j := 13) (by kernel_rfl) rfl rfl
        have u20 : a.eval (.tmp 20) = .int .i64 (nb bs 1) := u20
        have u23 := hM.use hr rfl (j := 16) (by kernel_rfl) rfl rfl
        have u23 : a.eval (.tmp 23) = .bool (decide (q / 16384 % 2 = 1)) := u23
        have u26 := hM.use hr rfl (j := 19) (by kernel_rfl) rfl rfl
        have u26 : a.eval (.tmp 26) = .bool (decide (q / 8192 % 2 = 1)) := u26
        have u29 := hM.use hr rfl (j := 22) (by kernel_rfl) rfl rfl
        have u29 : a.eval (.tmp 29) = .int .i64 (q % 8192 * 8) := u29
        have u32 := hM.use hr rfl (j := 25) (by kernel_rfl) rfl rfl
        have u32 : (fun v W => ∃ ad on oc, v = .slice ad on oc ∧ Gro w2.heap.size W v (bs.drop 20)) (a.eval (.tmp 32)) W := u32
        refine Step.of rfl (.inl ?_) ho
        exact (by obtain ⟨ad, on, oc, e, hg⟩ := u32; exact ⟨_, W, exec_bldP _ _ _ _ _ _ _ _ _ _ _ _ _ _ _ ad on oc rfl u10 u14 u16 u20 u23 u26 u29 e, Below.refl _ _, ad, on, oc, by rw [HP0.out], by rw [← e]; exact hg⟩)
      | 27, ho, _, hr =>
        refine Step.of rfl (.inl ?_) ho
        exact box_made rfl hn
      | n + 28, _, hlt, _ => exact absurd hlt (by omega)
    intro listed a W hM hl
    have B := hM.bel
    have p7 : a.tmps.getD 7 undef = .slice (some ⟨g, off, none⟩) n cap := hM.got 0 _ _ rfl (hl 0 (by decide)) rfl
    have p8 : a.tmps.getD 8 undef = .pointer (some ⟨g, off + 9, none⟩) := hM.got 1 _ _ rfl (hl 1 (by decide)) rfl
    have p9 : a.tmps.getD 9 undef = .int .u8 (nb bs 9) := hM.got 2 _ _ rfl (hl 2 (by decide)) rfl
    have p10 : a.tmps.getD 10 undef = .int .i64 (nb bs 9) := hM.got 3 _ _ rfl (hl 3 (by decide)) rfl
    have p11 : a.tmps.getD 11 undef = .slice (some ⟨g, off, none⟩) n cap := hM.got 4 _ _ rfl (hl 4 (by decide)) rfl
    have p12 : a.tmps.getD 12 undef = .pointer (some ⟨g, off + 8, none⟩) := hM.got 5 _ _ rfl (hl 5 (by decide)) rfl
    have p13 : a.tmps.getD 13 undef = .int .u8 (nb bs 8) := hM.got 6 _ _ rfl (hl 6 (by decide)) rfl
    have p14 : a.tmps.getD 14 undef = .int .i64 (nb bs 8) := hM.got 7 _ _ rfl (hl 7 (by decide)) rfl
    have p15 : a.tmps.getD 15 undef = .slice (some ⟨g, off, none⟩) n cap := hM.got 8 _ _ rfl (hl 8 (by decide)) rfl
    have p16 : (fun v W => v = .int .i64 (w16 bs 4)) (a.tmps.getD 16 undef) W := hM.got 9 _ _ rfl (hl 9 (by decide)) rfl
    have p17 : a.tmps.getD 17 undef = .slice (some ⟨g, off, none⟩) n cap := hM.got 10 _ _ rfl (hl 10 (by decide)) rfl
    have p18 : a.tmps.getD 18 undef = .pointer (some ⟨g, off + 1, none⟩) := hM.got 11 _ _ rfl (hl 11 (by decide)) rfl
    have p19 : a.tmps.getD 19 undef = .int .u8 (nb bs 1) := hM.got 12 _ _ rfl (hl 12 (by decide)) rfl
    have p20 : a.tmps.getD 20 undef = .int .i64 (nb bs 1) := hM.got 13 _ _ rfl (hl 13 (by decide)) rfl
    have p21 : a.tmps.getD 21 undef = .int .i64 q := hM.got 14 _ _ rfl (hl 14 (by decide)) rfl
    have p22 : a.tmps.getD 22 undef = .int .i64 (if q / 16384 % 2 = 1 then 16384 else 0) := hM.got 15 _ _ rfl (hl 15 (by decide)) rfl
    have p23 : a.tmps.getD 23 undef = .bool (decide (q / 16384 % 2 = 1)) := hM.got 16 _ _ rfl (hl 16 (by decide)) rfl
    have p24 : a.tmps.getD 24 undef = .int .i64 q := hM.got 17 _ _ rfl (hl 17 (by decide)) rfl
    have p25 : a.tmps.getD 25 undef = .int .i64 (if q / 8192 % 2 = 1 then 8192 else 0) := hM.got 18 _ _ rfl (hl 18 (by decide)) rfl
    have p26 : a.tmps.getD 26 undef = .bool (decide (q / 8192 % 2 = 1)) := hM.got 19 _ _ rfl (hl 19 (by decide)) rfl
    have p27 : a.tmps.getD 27 undef = .int .i64 q := hM.got 20 _ _ rfl (hl 20 (by decide)) rfl
    have p28 : a.tmps.getD 28 undef = .int .i64 (q % 8192) := hM.got 21 _ _ rfl (hl 21 (by decide)) rfl
    have p29 : a.tmps.getD 29 undef = .int .i64 (q % 8192 * 8) := hM.got 22 _ _ rfl (hl 22 (by decide)) rfl
    have p30 : a.tmps.getD 30 undef = .slice (some ⟨g, off, none⟩) n cap := hM.got 23 _ _ rfl (hl 23 (by decide)) rfl
    have p31 : a.tmps.getD 31 undef = .slice (if cap = 20 then some ⟨g, off, none⟩ else some ⟨g, off + 20, none⟩) (n - 20) (cap - 20) := hM.got 24 _ _ rfl (hl 24 (by decide)) rfl
    have p32 : (fun v W => ∃ ad on oc, v = .slice ad on oc ∧ Gro w2.heap.size W v (bs.drop 20)) (a.tmps.getD 32 undef) W := hM.got 25 _ _ rfl (hl 25 (by decide)) rfl
    have p33 : (fun v W => ∃ ad on oc, v = .agg (p0.cells (.slice ad on oc)).toArray ∧ Gro w2.heap.size W (.slice ad on oc) (bs.drop 20)) (a.tmps.getD 33 undef) W := hM.got 26 _ _ rfl (hl 26 (by decide)) rfl
    have p4 : (fun v W => BoxN w2.heap.size W v (zP.cells (.slice none 0 0))) (a.tmps.getD 4 undef) W := hM.got 27 _ _ rfl (hl 27 (by decide)) rfl
    obtain ⟨ad, on, oc, e33, g33⟩ := p33
    obtain ⟨s4, e4, h41, h42, h43, h44, h45⟩ := p4
    refine ⟨W.setCells s4 0 (p0.cells (.slice ad on oc)), exec_storeA 26 16 sizP (.tmp 4) (.tmp 33) rfl s4 0 e4 _ (zP.cells (.slice none 0 0)) e33 rfl rfl h43 h44 (pk_one _ _ _ _), ?_⟩
    rw [hM.lit [7, 8, 9, 10, 11, 12, 13, 14, 15, 16, 17, 18, 19, 20, 21, 22, 23, 24, 25, 26, 27, 28, 29, 30, 31, 32, 33, 4] (by kernel_rfl)]
    clear hM hl
    simp only [fill, List.foldl_cons, List.foldl_nil, Act.put, List.setIfInBounds_toArray, List.set_cons_zero, List.set_cons_succ]
    clear p7
    generalize a.tmps.getD 7 undef = x7 at *
    clear p8
    generalize a.tmps.getD 8 undef = x8 at *
    clear p9
    generalize a.tmps.getD 9 undef = x9 at *
    clear p10
    generalize a.tmps.getD 10 undef = x10 at *
    clear p11
    generalize a.tmps.getD 11 undef = x11 at *
    clear p12
    generalize a.tmps.getD 12 undef = x12 at *
    clear p13
    generalize a.tmps.getD 13 undef = x13 at *
    clear p14
    generalize a.tmps.getD 14 undef = x14 at *
    clear p15
    generalize a.tmps.getD 15 undef = x15 at *
    generalize a.tmps.getD 16 undef = x16 at *
    clear p17
    generalize a.tmps.getD 17 undef = x17 at *
    clear p18
    generalize a.tmps.getD 18 undef = x18 at *
    clear p19
    generalize a.tmps.getD 19 undef = x19 at *
    clear p20
    generalize a.tmps.getD 20 undef = x20 at *
    clear p21
    generalize a.tmps.getD 21 undef = x21 at *
    clear p22
    generalize a.tmps.getD 22 undef = x22 at *
    clear p23
    generalize a.tmps.getD 23 undef = x23 at *
    clear p24
    generalize a.tmps.getD 24 undef = x24 at *
    clear p25
    generalize a.tmps.getD 25 undef = x25 at *
    clear p26
    generalize a.tmps.getD 26 undef = x26 at *
    clear p27
    generalize a.tmps.getD 27 undef = x27 at *
    clear p28
    generalize a.tmps.getD 28 undef = x28 at *
    clear p29
    generalize a.tmps.getD 29 undef = x29 at *
    clear p30
    generalize a.tmps.getD 30 undef = x30 at *
    clear p31
    generalize a.tmps.getD 31 undef = x31 at *
    generalize a.tmps.getD 32 undef = x32 at *
    generalize a.tmps.getD 33 undef = x33 at *
    generalize a.tmps.getD 4 undef = x4 at *
    have B2 : Below w2.heap.size w2 W := ((Below.refl _ w2).drew).trans B
    have bo := But.cells s4 (p0.cells (.slice ad on oc)) 0 W
    have sep := g33.apart h45
    have G5 : Hid (Gro w2.heap.size (W.setCells s4 0 (p0.cells (.slice ad on oc))) (.slice ad on oc) (bs.drop 20) ∧ ∀ g x y, (.slice ad on oc : Value) = .slice (some ⟨g, 0, none⟩) x y → g ≠ s4) := ⟨g33.off bo sep, sep⟩
    have C5 : Hid (CellsAt (W.setCells s4 0 (p0.cells (.slice ad on oc))) s4 0 (p0.cells (.slice ad on oc))) := h43.stored rfl
    have F5 : Hid (∀ y, (W.setCells s4 0 (p0.cells (.slice ad on oc))).frozen? ⟨s4, y, none⟩ = false) := fun y => by rw [World.frozen?_setCells]; exact h44 y
    have L5 : s4 < (W.setCells s4 0 (p0.cells (.slice ad on oc))).heap.size := by rw [size_setCells]; exact h42
    have B5 : Hid (Below w2.heap.size w2 (W.setCells s4 0 (p0.cells (.slice ad on oc)))) := B2.trans (bo.below B2.size (fun g hg e => by have e : g = s4 := e; omega))
    subst e4
    clear p16 p32 e33 g33 h43 h44 h45 B B2 bo sep
    obtain ⟨wf, hwf⟩ : ∃ wf, wf = W.setCells s4 0 (p0.cells (.slice ad on oc)) := ⟨_, rfl⟩
    rw [← hwf] at G5 C5 F5 L5 B5 ⊢
    clear hwf
    go_wp2
    go_meet
    exact ⟨s4, ad, on, oc, rfl, C5, F5, L5, h41, G5, B5⟩
  case rest =>
    obtain ⟨s4, ad, on, oc, rfl, C5, F5, L5, h41, G5, B5⟩ := hcut
    obtain ⟨w5, hw5⟩ : ∃ w5, w5 = wc := ⟨_, rfl⟩
    rw [← hw5] at C5 F5 L5 G5 B5 ⊢
    have B5w : Hid (Below w.heap.size w w5) := HB2.out.trans (B5.out.mono HB2.out.size)
    have C2b := hide (C2.out.later L2 B5.out)
    have F2b : Hid (∀ y, w5.frozen? ⟨s2, y, none⟩ = false) := fun y => (B5.out.frozen (p := ⟨s2, y, none⟩) L2).trans (F2.out y)
    have sne : s2 ≠ s4 := by omega
    have H20 : Hid (20 ≤ bs.length) := by unfold Hid; rw [← HN.out]; exact h20
    clear hw5 a1 a2 a3 n1 n2 CW C2 F2
    -- the source
    obtain ⟨x0, hx0⟩ : ∃ x0, x0 = w5.drew := ⟨_, rfl⟩
    have c5d : CellsAt x0 s4 0 (p0.cells (.slice ad on oc)) := by rw [hx0]; exact C5.out
    have f5d : ∀ y, x0.frozen? ⟨s4, y, none⟩ = false := by rw [hx0]; exact F5.out
    have bx0 : Below w5.heap.size w5 x0 := by rw [hx0]; exact (Below.refl _ w5).drew
    have zx0 : x0.heap.size = w5.heap.size := by rw [hx0]; rfl
    have src12 := ((HB.out.later B5w.out).later bx0).drop 12 (by have := H20.out; omega)
    have cS0 : CellsAt x0 s4 0 zI.vals := by have := c5d; rw [HP0.out] at this; exact (CellsAt.append.1 this).1
    obtain ⟨x1, hx1⟩ : ∃ x1, x1 = x0.setCells s4 0 (ipA bs 12).vals := ⟨_, rfl⟩
    have CP1 := copy_cellsB src12 (s := s4) (o := 0) (k := 4) (by omega) (by rw [List.length_drop]; have := H20.out; omega) (take4B (bs := bs) (k := 12) (by have := H20.out; omega)) cS0 rfl f5d
    rw [← hx1] at CP1
    have bo1 := But.cells s4 (ipA bs 12).vals 0 x0
    rw [← hx1] at bo1
    have c6 : CellsAt x1 s4 0 ((ipA bs 12).vals ++ (zI.vals ++ [.int .i64 p0.proto, .int .i64 p0.ttl, .int .i64 p0.id, .int .i64 p0.tos, .bool p0.whole, .bool p0.more, .int .i64 p0.off, .slice ad on oc])) := by
      have h1 : CellsAt x0 s4 0 (zI.vals ++ (zI.vals ++ [.int .i64 p0.proto, .int .i64 p0.ttl, .int .i64 p0.id, .int .i64 p0.tos, .bool p0.whole, .bool p0.more, .int .i64 p0.off, .slice ad on oc])) := by have := c5d; rw [HP0.out] at this ⊢; exact this
      have h2 := CellsAt.append.1 h1
      rw [hx1]
      refine CellsAt.append.2 ⟨h2.1.stored rfl, h2.2.other (.inr ?_)⟩
      show 0 + 4 ≤ 0 + 4
      omega
    have f6 : ∀ y, x1.frozen? ⟨s4, y, none⟩ = false := fun y => by rw [hx1, World.frozen?_setCells]; exact f5d y
    -- the destination
    obtain ⟨y0, hy0⟩ : ∃ y0, y0 = x1.drew := ⟨_, rfl⟩
    have c6d : CellsAt y0 s4 0 ((ipA bs 12).vals ++ (zI.vals ++ [.int .i64 p0.proto, .int .i64 p0.ttl, .int .i64 p0.id, .int .i64 p0.tos, .bool p0.whole, .bool p0.more, .int .i64 p0.off, .slice ad on oc])) := by rw [hy0]; exact c6
    have f6d : ∀ y, y0.frozen? ⟨s4, y, none⟩ = false := by rw [hy0]; exact f6
    have bo1d : But (Only s4) x0 y0 := by rw [hy0]; exact bo1.drew
    have w2y : Below w2.heap.size w2 y0 := B5.out.trans ((bx0.mono B5.out.size).trans (bo1d.below (by have := B5.out.size; omega) (fun g hg e => by have e : g = s4 := e; omega)))
    have wy : Below w.heap.size w y0 := HB2.out.trans (w2y.mono HB2.out.size)
    have src16 := (HB.out.later wy).drop 16 (by have := H20.out; omega)
    have cD0 : CellsAt y0 s4 4 zI.vals := by
      have h2 := (CellsAt.append.1 c6d).2
      exact (CellsAt.append.1 h2).1
    obtain ⟨y1, hy1⟩ : ∃ y1, y1 = y0.setCells s4 4 (ipA bs 16).vals := ⟨_, rfl⟩
    have CP2 := copy_cellsB src16 (s := s4) (o := 4) (k := 4) (by omega) (by rw [List.length_drop]; have := H20.out; omega) (take4B (bs := bs) (k := 16) (by have := H20.out; omega)) cD0 rfl f6d
    rw [← hy1] at CP2
    have bo2 := But.cells s4 (ipA bs 16).vals 4 y0
    rw [← hy1] at bo2
    have c7 : CellsAt y1 s4 0 ((hdP bs).cells (.slice ad on oc)) := by
      have e : (hdP bs).cells (.slice ad on oc) = (ipA bs 12).vals ++ ((ipA bs 16).vals ++ [.int .i64 p0.proto, .int .i64 p0.ttl, .int .i64 p0.id, .int .i64 p0.tos, .bool p0.whole, .bool p0.more, .int .i64 p0.off, .slice ad on oc]) := by
        rw [HP0.out, HQ.out]
        rfl
      rw [e, hy1]
      have h2 := CellsAt.append.1 c6d
      have h3 := CellsAt.append.1 h2.2
      refine CellsAt.append.2 ⟨h2.1.other (.inl ?_), CellsAt.append.2 ⟨h3.1.stored rfl, h3.2.other (.inr ?_)⟩⟩
      · show 0 + 4 ≤ 4
        omega
      · show 4 + 4 ≤ 0 + 4 + 4
        omega
    have boA : But (Only s4) x0 y1 := bo1d.trans bo2
    have w2z : Below w2.heap.size w2 y1 := w2y.trans (bo2.below w2y.size (fun g hg e => by have e : g = s4 := e; omega))
    have zy1 : y1.heap.size = w5.heap.size := by rw [hy1, size_setCells, hy0]; show x1.heap.size = _; rw [hx1, size_setCells]; exact zx0
    have C7 := hide c7
    have L7 : s4 < y1.heap.size := by omega
    have L72 : s2 < y1.heap.size := by have := w2z.size; omega
    have C7b : Hid (CellsAt y1 s2 0 (zP.cells (.slice none 0 0))) := (C2b.out.later (by have := B5.out.size; omega) bx0).but (by have := B5.out.size; omega) boA sne
    have F7b : Hid (∀ y, y1.frozen? ⟨s2, y, none⟩ = false) := fun y => (boA.frozen (p := ⟨s2, y, none⟩) (by have := B5.out.size; show s2 < _; omega) sne).trans ((bx0.frozen (p := ⟨s2, y, none⟩) (by have := B5.out.size; show s2 < _; omega)).trans (F2b.out y))
    obtain ⟨z1, hz1⟩ : ∃ z1, z1 = y1.setCells s2 0 ((hdP bs).cells (.slice ad on oc)) := ⟨_, rfl⟩
    have bo3 := But.cells s2 ((hdP bs).cells (.slice ad on oc)) 0 y1
    rw [← hz1] at bo3
    have G8 : Hid (Gro w.heap.size z1 (.slice ad on oc) (bs.drop 20)) := by
      have g1 := (G5.out.1.later bx0).off boA G5.out.2
      refine (g1.off bo3 (fun g' x y e e2 => ?_)).low HB2.out.size
      obtain ⟨_, ⟨h2, _⟩ | ⟨g'', cap', cur, e', hge, _⟩⟩ := g1
      · rw [e] at h2; cases h2
      · rw [e] at e'
        cases e'
        omega
    have B8 : Hid (Below w.heap.size w z1) := HB2.out.trans ((w2z.mono HB2.out.size).trans (bo3.below (by have := w2z.size; have := HB2.out.size; omega) (fun g hg e => by have e : g = s2 := e; have := HS2.out; omega)))
    have C8 : Hid (CellsAt z1 s2 0 ((hdP bs).cells (.slice ad on oc))) := by rw [hz1]; exact C7b.out.stored rfl
    have ea12 : (if cap = 12 then some (⟨g, off, none⟩ : Addr) else Option.map (fun x : Addr => x.add 12) (some ⟨g, off, none⟩)) = some ⟨g, off + 12, none⟩ := by
      rw [if_neg (by omega), Option.map_some, Addr.add_lit]
    have ea16 : (if cap = 16 then some (⟨g, off, none⟩ : Addr) else Option.map (fun x : Addr => x.add 16) (some ⟨g, off, none⟩)) = some ⟨g, off + 16, none⟩ := by
      rw [if_neg (by omega), Option.map_some, Addr.add_lit]
    rw [ea12] at CP1
    rw [ea16] at CP2
    have HCP1 := hide CP1
    have HCP2 := hide CP2
    clear CP1 CP2 ea12 ea16 src12 src16 cS0 cD0 bo1 bo2 bo3 c6 f6 c5d f5d c6d f6d bo1d w2y wy c7 boA w2z zx0 bx0 C2b F2b zy1
    go_upto_region 3 with fail
    refine region_out (fun _ => True) (by kernel_rfl) ?_
    rw [← hx0]
    refine takeD (i := 0) (v := .pointer (some ⟨s4, 0, none⟩)) 34 rfl rfl (by kernel_rfl) (by kernel_rfl) (by kernel_rfl) (fun _ _ _ h => h) (.inl ⟨by rfl, fun W hW => exec_fieldO 26 _ 0 s4 0 0 rfl rfl (fun w => by kernel_rfl)⟩) (trivial) ?_
    try simp only [Act.put, List.setIfInBounds_toArray, List.set_cons_zero, List.set_cons_succ]
    refine takeD (i := 1) (v := .slice (some ⟨s4, 0, none⟩) 4 4) 35 rfl rfl (by kernel_rfl) (by kernel_rfl) (by kernel_rfl) (fun _ _ _ h => h) (.inl ⟨by rfl, fun W hW => exec_slI _ s4 0 rfl rfl⟩) (trivial) ?_
    try simp only [Act.put, List.setIfInBounds_toArray, List.set_cons_zero, List.set_cons_succ]
    refine takeD (i := 2) (v := .slice (some ⟨g, off, none⟩) n cap) 36 rfl rfl (by kernel_rfl) (by kernel_rfl) (by kernel_rfl) (fun _ _ _ h => h) (.inl ⟨by rfl, fun W hW => exec_move _ _ rfl rfl⟩) (trivial) ?_
    try simp only [Act.put, List.setIfInBounds_toArray, List.set_cons_zero, List.set_cons_succ]
    refine takeD (i := 3) (v := .slice (some ⟨g, off + 12, none⟩) (n - 12) (cap - 12)) 37 rfl rfl (by kernel_rfl) (by kernel_rfl) (by kernel_rfl) (fun _ _ _ h => h) (.inl ⟨by rfl, fun W hW => exec_slB _ _ g off n cap 12 rfl rfl rfl (by omega) ncap⟩) (trivial) ?_
    try simp only [Act.put, List.setIfInBounds_toArray, List.set_cons_zero, List.set_cons_succ]
    refine nextD (w' := x1) 4 38 (.int .i64 ((4 : Nat) : Int)) (by kernel_rfl) rfl rfl (by rfl) (exec_copy _ _ _ _ rfl _ _ rfl rfl _ rfl HCP1.out) (trivial) ?_
    try simp only [Act.put, List.setIfInBounds_toArray, List.set_cons_zero, List.set_cons_succ]
    refine wpAnyH_done (by kernel_rfl) ?_ _
    clear hx0 hx1
    go_upto_region 4 with fail
    refine region_out (fun _ => True) (by kernel_rfl) ?_
    rw [← hy0]
    refine takeD (i := 0) (v := .pointer (some ⟨s4, 4, none⟩)) 39 rfl rfl (by kernel_rfl) (by kernel_rfl) (by kernel_rfl) (fun _ _ _ h => h) (.inl ⟨by rfl, fun W hW => exec_fieldO 26 _ 1 s4 0 4 rfl rfl (fun w => by kernel_rfl)⟩) (trivial) ?_
    try simp only [Act.put, List.setIfInBounds_toArray, List.set_cons_zero, List.set_cons_succ]
    refine takeD (i := 1) (v := .slice (some ⟨s4, 4, none⟩) 4 4) 40 rfl rfl (by kernel_rfl) (by kernel_rfl) (by kernel_rfl) (fun _ _ _ h => h) (.inl ⟨by rfl, fun W hW => exec_slI _ s4 4 rfl rfl⟩) (trivial) ?_
    try simp only [Act.put, List.setIfInBounds_toArray, List.set_cons_zero, List.set_cons_succ]
    refine takeD (i := 2) (v := .slice (some ⟨g, off, none⟩) n cap) 41 rfl rfl (by kernel_rfl) (by kernel_rfl) (by kernel_rfl) (fun _ _ _ h => h) (.inl ⟨by rfl, fun W hW => exec_move _ _ rfl rfl⟩) (trivial) ?_
    try simp only [Act.put, List.setIfInBounds_toArray, List.set_cons_zero, List.set_cons_succ]
    refine takeD (i := 3) (v := .slice (some ⟨g, off + 16, none⟩) (n - 16) (cap - 16)) 42 rfl rfl (by kernel_rfl) (by kernel_rfl) (by kernel_rfl) (fun _ _ _ h => h) (.inl ⟨by rfl, fun W hW => exec_slB _ _ g off n cap 16 rfl rfl rfl (by omega) ncap⟩) (trivial) ?_
    try simp only [Act.put, List.setIfInBounds_toArray, List.set_cons_zero, List.set_cons_succ]
    refine nextD (w' := y1) 4 43 (.int .i64 ((4 : Nat) : Int)) (by kernel_rfl) rfl rfl (by rfl) (exec_copy _ _ _ _ rfl _ _ rfl rfl _ rfl HCP2.out) (trivial) ?_
    try simp only [Act.put, List.setIfInBounds_toArray, List.set_cons_zero, List.set_cons_succ]
    refine wpAnyH_done (by kernel_rfl) ?_ _
    clear hy0 hy1
    obtain ⟨Y, hY⟩ : ∃ Y, Y = (hdP bs).cells (.slice ad on oc) := ⟨_, rfl⟩
    have lY : Hid (Y.length = 16) := by rw [hY]; exact (rfl : ((hdP bs).cells (.slice ad on oc)).length = 16)
    have oY : Hid (∀ u ∈ Y, u.oneCell' = true) := by rw [hY]; exact pk_one _ _ _ _
    rw [← hY] at C7 C8 hz1
    have HY := hide hY
    have hz1' := hz1.symm
    clear hY hz1
    go_upto_region 5 with fail
    refine wp_region_list ?_
    refine wpList_loadA rfl 26 16 aggP sizP _ rfl s4 0 rfl Y lY.out C7.out ?_
    simp only [Act.put, List.setIfInBounds_toArray, List.set_cons_zero, List.set_cons_succ]
    refine wpList_storeA rfl 26 16 sizP _ _ rfl s2 0 rfl Y (zP.cells (.slice none 0 0)) rfl lY.out rfl C7b.out F7b.out oY.out ?_
    intro _
    rw [hz1']
    clear hz1'
    simp only [Act.put]
    go_wp2
    refine bodyPost_ret (v := .agg Y.toArray) (results_A rfl _ _ s2 _ rfl (run_loadVarA 26 16 aggP sizP s2 0 Y lY.out C8.out)) rfl ?_
    exact ⟨.slice ad on oc, by rw [HY.out], G8.out, B8.out⟩
end Go.Proofs.Ytiglejmmdghmgaa
