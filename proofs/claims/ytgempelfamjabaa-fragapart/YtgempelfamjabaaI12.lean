
/-
  Package ip4: the contract of head.
-/
import Derived.Test.YtgempelfamjabaaI11
namespace Go.Proofs.Ytgempelfamjabaa
open Go.RowKit Go.Shelf

def ipA (bs : List Int) (k : Nat) : I4 := ⟨nb bs k, nb bs (k + 1), nb bs (k + 2), nb bs (k + 3)⟩
/-- what a head says -/
def hdP (bs : List Int) : Pk := ⟨ipA bs 12, ipA bs 16, nb bs 9, nb bs 8, w16 bs 4, nb bs 1, decide (w16 bs 6 / 16384 % 2 = 1), decide (w16 bs 6 / 8192 % 2 = 1), w16 bs 6 % 8192 * 8, bs.drop 20⟩
/-- a new box -/
def BoxN (n0 : Nat) (W : World) (v : Value) (vs : List Value) : Prop := ∃ s, v = .pointer (some ⟨s, 0, none⟩) ∧ n0 ≤ s ∧ s < W.heap.size ∧ CellsAt W s 0 vs ∧ (∀ y, W.frozen? ⟨s, y, none⟩ = false) ∧ W.heap[s]? = some (.cells vs.toArray 26 (0, 0))
theorem BoxN.later {n0 : Nat} {W W' : World} {v : Value} {vs : List Value} (h : BoxN n0 W v vs) (hb : Below W.heap.size W W') : BoxN n0 W' v vs := by
  obtain ⟨s, e, h1, h2, h3, h4, h5⟩ := h
  exact ⟨s, e, h1, Nat.lt_of_lt_of_le h2 hb.size, h3.later h2 hb, fun y => (hb.frozen (p := ⟨s, y, none⟩) h2).trans (h4 y), by rw [hb.block s h2]; exact h5⟩
theorem Gro.off {B s : Nat} {W W' : World} {v : Value} {bs : List Int} (h : Gro B W v bs) (hb : But (Only s) W W') (hs : ∀ g x y, v = .slice (some ⟨g, 0, none⟩) x y → g ≠ s) : Gro B W' v bs := by
  obtain ⟨h1, h2 | ⟨g, cap, cur, e, hg, hh, r⟩⟩ := h
  · exact ⟨h1, .inl h2⟩
  · exact ⟨h1, .inr ⟨g, cap, cur, e, hg, by rw [hb.block g (Array.getElem?_eq_some_iff.1 hh).1 (hs g _ _ e)]; exact hh, r⟩⟩
theorem Gro.apart {B : Nat} {W : World} {v : Value} {bs : List Int} {vs : List Value} {s : Nat} (h : Gro B W v bs) (hb : W.heap[s]? = some (.cells vs.toArray 26 (0, 0))) : ∀ g x y, v = .slice (some ⟨g, 0, none⟩) x y → g ≠ s := by
  intro g x y e e2
  subst e2
  obtain ⟨_, ⟨h2, _⟩ | ⟨g', cap, cur, e', _, hh, _⟩⟩ := h
  · rw [e] at h2; cases h2
  · rw [e] at e'
    cases e'
    rw [hb] at hh
    cases hh
theorem size_setCells (g : Nat) : ∀ (vs : List Value) (o : Nat) (w : World), (w.setCells g o vs).heap.size = w.heap.size
  | [], _, _ => rfl
  | v :: vs, o, w => (size_setCells g vs (o + 1) (w.setCell ⟨g, o, none⟩ v)).trans (by simp [World.setCell])
def zP : Pk := ⟨zI, zI, 0, 0, 0, 0, false, false, 0, []⟩
section
variable {o : Oper} {w : World} {ev : Operand → Value}
theorem exec_allocP (ho : o.op = .alloc 26) : (execOp ev o).run Try.prog w = .ok (.value (.pointer (some ⟨w.heap.size, 0, none⟩))) (w.alloc (.cells (zP.cells (.slice none 0 0)).toArray 26)) := by
  unfold execOp
  rw [ho]
  kernel_rfl
theorem exec_andc (x : Operand) (t : TypeId) (n c r : Int) (ho : o.op = .binOp .and 3 x (.const (.int .i64 c)) t) (hc : ∀ v, ev (.const v) = v) (hx : ev x = .int .i64 n) (h : bits .and .i64 n c = r) : (execOp ev o).run Try.prog w = .ok (.value (.int .i64 r)) w := by
  unfold execOp
  simp [ho, hx, hc, go_sem, h]
theorem exec_slL (x : Operand) (g off n c k : Nat) (kI : Int) (hk : (k : Int) = kI) (ho : o.op = .slice 24 x (some (.const (.int .i64 kI))) none none) (hcs : ∀ v, ev (.const v) = v) (hx : ev x = .slice (some ⟨g, off, none⟩) n c) (hn : k ≤ n) : (execOp ev o).run Try.prog w = .ok (.value (.slice (if c = k then some ⟨g, off, none⟩ else some ⟨g, off + k, none⟩) (n - k) (c - k))) w := by
  subst hk
  have h1 : (k : Int) ≤ n := by omega
  unfold execOp
  simp [ho, hx, hcs, go_sem, h1]
theorem exec_bldP (x1 x2 x3 x4 x5 x6 x7 x8 : Operand) (a b c d f : Int) (p q : Bool) (ad : Option Addr) (n cap : Nat) (ho : o.op = .build 26 #[(2, x1), (3, x2), (4, x3), (5, x4), (6, x5), (7, x6), (8, x7), (9, x8)]) (h1 : ev x1 = .int .i64 a) (h2 : ev x2 = .int .i64 b) (h3 : ev x3 = .int .i64 c) (h4 : ev x4 = .int .i64 d) (h5 : ev x5 = .bool p) (h6 : ev x6 = .bool q) (h7 : ev x7 = .int .i64 f) (h8 : ev x8 = .slice ad n cap) :
    (execOp ev o).run Try.prog w = .ok (.value (.agg (Pk.cells ⟨zI, zI, a, b, c, d, p, q, f, []⟩ (.slice ad n cap)).toArray)) w := by
  unfold execOp
  rw [ho]
  simp only [List.map_toArray, List.map_cons, List.map_nil, h1, h2, h3, h4, h5, h6, h7, h8]
  kernel_rfl
end
theorem box_made {n0 : Nat} {ev : Operand → Value} {o : Oper} {W : World} (ho : o.op = .alloc 26) (hn : n0 ≤ W.heap.size) : ∃ v W', (execOp ev o).run Try.prog W = .ok (.value v) W' ∧ Below W.heap.size W W' ∧ BoxN n0 W' v (zP.cells (.slice none 0 0)) :=
  ⟨_, _, exec_allocP ho, later_alloc _ _, W.heap.size, rfl, hn, by simp, CellsAt.new W _ _, fun y => frozen_new W _ _ _, heap_alloc_new W _⟩
theorem IsB.isF {n₀ : Nat} {W : World} {v : Value} {bs : List Int} (h : IsB n₀ W v bs) (hn : n₀ ≤ W.heap.size) : IsF (fun _ => False) W v bs := by
  obtain ⟨a, cap, e, hl, hnn, hc⟩ := h
  refine ⟨a, cap, e, hl, hnn, fun h0 => ?_⟩
  obtain ⟨b, off, e1, hb, hcs⟩ := hc h0
  exact ⟨b, off, e1, by omega, id, hcs⟩
theorem pk_one (p : Pk) (a : Option Addr) (n c : Nat) : ∀ u ∈ p.cells (.slice a n c), u.oneCell' = true := by
  intro u hu
  simp only [Pk.cells, I4.vals, List.cons_append, List.nil_append, List.mem_cons, List.not_mem_nil, or_false] at hu
  rcases hu with rfl | rfl | rfl | rfl | rfl | rfl | rfl | rfl | rfl | rfl | rfl | rfl | rfl | rfl | rfl | rfl <;> rfl
theorem take4B {bs : List Int} {k : Nat} (h : k + 4 ≤ bs.length) : (ipA bs k).vals = ((bs.drop k).take 4).map (Value.int .u8) := by
  have e : (bs.drop k).take 4 = [nb bs k, nb bs (k + 1), nb bs (k + 2), nb bs (k + 3)] := by
    refine List.ext_getElem? (fun j => ?_)
    by_cases hj : j < 4
    · have h4 : j = 0 ∨ j = 1 ∨ j = 2 ∨ j = 3 := by omega
      rw [List.getElem?_take, if_pos hj, List.getElem?_drop]
      have hh : ∀ q, q < bs.length → bs[q]? = some (nb bs q) := fun q hq => by unfold nb; rw [List.getElem?_eq_getElem hq]; rfl
      rcases h4 with rfl | rfl | rfl | rfl
      · rw [hh (k + 0) (by omega)]; rfl
      · rw [hh (k + 1) (by omega)]; rfl
      · rw [hh (k + 2) (by omega)]; rfl
      · rw [hh (k + 3) (by omega)]; rfl
    · rw [List.getElem?_eq_none (by simp; omega), List.getElem?_eq_none (by simp; omega)]
  rw [e]
  rfl
theorem copy_cellsB {w : World} {a : Option Addr} {n cap : Nat} {bs : List Int} (h : IsB w.heap.size w (.slice a n cap) bs) {s o k : Nat} {old new : List Value} (hk0 : 0 < k) (hk : k ≤ bs.length) (hn : new = (bs.take k).map (Value.int .u8)) (ho : CellsAt w s o old) (hl : old.length = k) (hf : ∀ y, w.frozen? ⟨s, y, none⟩ = false) :
    (Builtin.copy_ #[24, 24] 3 #[.slice (some ⟨s, o, none⟩) k k, .slice a n cap]).run Try.prog w = .ok (.int .i64 (k : Int)) (w.setCells s o new) := by
  obtain ⟨a', cap', e, hlc, hnn, hc⟩ := h
  simp only [Value.slice.injEq] at e
  obtain ⟨rfl, rfl, rfl⟩ := e
  obtain ⟨b, q, rfl, _, hcs⟩ := hc (by omega)
  have hm : Nat.min bs.length k = k := Nat.min_eq_right hk
  have hlen : new.length = k := by rw [hn]; simp; omega
  have := run_copy_cells (P := Try.prog) w 24 24 3 5 s o k k ⟨b, q, none⟩ bs.length cap new Try.underlying24 size_u8 (by rw [hm, hlen])
    (fun j v hv => by
      have hj : j < k := by have := (List.getElem?_eq_some_iff.1 hv).1; omega
      rw [Addr.add_lit, hcs j (by omega), ← hv, hn]
      simp [hj, show j < bs.length by omega]) (fun j hj => by rw [ho j _ (List.getElem?_eq_getElem (by omega))]; rfl) (fun j _ => hf _) (by rw [hn]; exact ints_one _)
  rw [this, hlen]
  rfl
end Go.Proofs.Ytgempelfamjabaa
