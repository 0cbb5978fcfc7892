
/-
  Package ip4: the contract of Encode.
-/
import Derived.Test.YtgempelfamjabaaI8
import Derived.Test.YtgempelfamjabaaR1
namespace Go.Proofs.Ytgempelfamjabaa
open Go.RowKit Go.Shelf

def ipL (x : I4) : List Int := [x.a, x.b, x.c, x.d]
def B8 (n : Int) : Prop := 0 ≤ n ∧ n ≤ 255
def I4.Ok (x : I4) : Prop := B8 x.a ∧ B8 x.b ∧ B8 x.c ∧ B8 x.d
theorem ipL_bytes {x : I4} (h : x.Ok) : Bytes (ipL x) := by
  obtain ⟨h1, h2, h3, h4⟩ := h
  exact Bytes.cons h1.1 h1.2 (Bytes.cons h2.1 h2.2 (Bytes.cons h3.1 h3.2 (Bytes.cons h4.1 h4.2 Bytes.nil)))
/-- the head's first ten bytes, what stands behind its sum, the whole packet -/
def ahd (p : Pk) (sz : Int) : List Int := [[64 + (20 + (p.opts.length : Int)) / 4, p.tos], put16 sz, put16 p.id, put16 (pl p), [p.ttl, p.proto]].flatten
def bhd (p : Pk) : List Int := [ipL p.src, ipL p.dst, p.opts].flatten
def enB (p : Pk) (b : List Int) : List Int := [ahd p (20 + (p.opts.length : Int) + (b.length : Int)), put16 (csum (ahd p (20 + (p.opts.length : Int) + (b.length : Int)) ++ bhd p)), bhd p, b].flatten
def opB (p : Pk) : Bool := decide (p.opts.length ≤ 40) && (decide (p.opts.length % 4 = 0) && okO p.opts)
def enE (p : Pk) (n : Nat) : Int := if mb p = false then 1 else if opB p = false then 92 else if 65535 < 20 + p.opts.length + n then 2 else 0
theorem mb_true {p : Pk} (h : mb p = true) : (0 ≤ p.proto ∧ p.proto ≤ 255) ∧ (0 ≤ p.tos ∧ p.tos ≤ 255) ∧ (0 ≤ p.id ∧ p.id ≤ 65535) ∧ (1 ≤ p.ttl ∧ p.ttl ≤ 255) ∧ (0 ≤ p.off ∧ p.off ≤ 65528) ∧ p.off % 8 = 0 := by
  simpa [mb] using h
theorem ahd_len (p : Pk) (sz : Int) : (ahd p sz).length = 10 := rfl
theorem bhd_len (p : Pk) : (bhd p).length = 8 + p.opts.length := by simp [bhd, ipL]; omega
theorem enB_len (p : Pk) (b : List Int) : (enB p b).length = 20 + p.opts.length + b.length := by
  simp only [enB, List.flatten_cons, List.flatten_nil, List.length_append, ahd_len, put16_len, bhd_len, List.length_nil]; omega
theorem Gro.low {B B' : Nat} {W : World} {v : Value} {bs : List Int} (h : Gro B W v bs) (hB : B' ≤ B) : Gro B' W v bs := by
  obtain ⟨h1, h2 | ⟨g, cap, cur, e, hg, r⟩⟩ := h
  · exact ⟨h1, .inl h2⟩
  · exact ⟨h1, .inr ⟨g, cap, cur, e, by omega, r⟩⟩
theorem IsP.later {A B : World} {v : Value} {ps : List (List Int)} (h : IsP A.heap.size A v ps) (hb : Below A.heap.size A B) : IsP B.heap.size B v ps := (h.below hb).mono hb.size
theorem ahd_bytes {p : Pk} (h : mb p = true) (ho : p.opts.length ≤ 40) (sz : Int) : Bytes (ahd p sz) := by
  obtain ⟨h1, h2, h3, h4, h5, _⟩ := mb_true h
  refine flat_bytes (fun bs hb => ?_)
  simp only [List.mem_cons, List.not_mem_nil, or_false] at hb
  rcases hb with rfl | rfl | rfl | rfl | rfl
  · exact Bytes.cons (by omega) (by omega) (Bytes.cons h2.1 h2.2 Bytes.nil)
  · exact put16_bytes _
  · exact put16_bytes _
  · exact put16_bytes _
  · exact Bytes.cons (by omega) h4.2 (Bytes.cons h1.1 h1.2 Bytes.nil)
theorem bhd_bytes {p : Pk} (hs : p.src.Ok) (hd : p.dst.Ok) (ho : Bytes p.opts) : Bytes (bhd p) := by
  refine flat_bytes (fun bs hb => ?_)
  simp only [List.mem_cons, List.not_mem_nil, or_false] at hb
  rcases hb with rfl | rfl | rfl
  · exact ipL_bytes hs
  · exact ipL_bytes hd
  · exact ho
/-- an address in a box, as bytes -/
theorem ip_isB {W : World} {s k : Nat} {x : I4} (h : CellsAt W s k x.vals) : IsB W.heap.size W (.slice (some ⟨s, k, none⟩) 4 4) (ipL x) := by
  refine ⟨_, _, rfl, Nat.le_refl _, (fun e => by cases e), fun _ => ⟨s, k, rfl, h.lt (by simp [I4.vals]), fun j hj => ?_⟩⟩
  have hj : j < 4 := hj
  have h4 : j = 0 ∨ j = 1 ∨ j = 2 ∨ j = 3 := by omega
  rcases h4 with rfl | rfl | rfl | rfl
  · exact h 0 _ rfl
  · exact h 1 _ rfl
  · exact h 2 _ rfl
  · exact h 3 _ rfl
section
variable {o : Oper} {w : World} {ev : Operand → Value}
theorem exec_quo4 (x : Operand) (t : TypeId) (n : Int) (ho : o.op = .binOp .quo 3 x (.const (.int .i64 4)) t) (hc : ∀ v, ev (.const v) = v) (hx : ev x = .int .i64 n) (h0 : 0 ≤ n) (h1 : n ≤ 100000) : (execOp ev o).run Try.prog w = .ok (.value (.int .i64 (n / 4))) w := by
  have e : n.tdiv 4 = n / 4 := by rw [Int.tdiv_eq_ediv_of_nonneg h0]
  unfold execOp
  have e2 : IntKind.i64.wrap (n / 4) = n / 4 := wrapI _ (by omega) (by omega)
  simp [ho, hx, hc, go_sem, e, e2]
theorem exec_or64 (x : Operand) (t : TypeId) (n : Int) (ho : o.op = .binOp .or 3 (.const (.int .i64 64)) x t) (hc : ∀ v, ev (.const v) = v) (hx : ev x = .int .i64 n) (h0 : 0 ≤ n) (h1 : n ≤ 15) : (execOp ev o).run Try.prog w = .ok (.value (.int .i64 (64 + n))) w := by
  have e : bits .or .i64 64 n = 64 + n := bits_join .i64 62 (by decide) i64_wrap 6 64 n (by decide) (by decide) (by decide) h0 (by omega) (by omega)
  unfold execOp
  simp [ho, hx, hc, go_sem, e]
theorem exec_conv8 (x : Operand) (n : Int) (ho : o.op = .convert 3 5 x) (hx : ev x = .int .i64 n) (h0 : 0 ≤ n) (h1 : n ≤ 255) : (execOp ev o).run Try.prog w = .ok (.value (.int .u8 n)) w := by
  have e : IntKind.u8.wrap n = n := by rw [IntKind.wrap_u8]; omega
  unfold execOp
  simp [ho, hx, go_sem, e]
theorem exec_bs2 (x y : Operand) (a b : Int) (ho : o.op = .buildSlice 24 2 #[(0, x), (1, y)]) (hx : ev x = .int .u8 a) (hy : ev y = .int .u8 b) : (execOp ev o).run Try.prog w = .ok (.value (.slice (some ⟨w.heap.size, 0, none⟩) 2 2)) (w.alloc (.cells #[.int .u8 a, .int .u8 b] 5)) := by
  unfold execOp
  rw [ho]
  simp only [List.map_toArray, List.map_cons, List.map_nil, hx, hy]
  kernel_rfl
end
theorem row_bytes2 {ev : Operand → Value} {o : Oper} {W : World} {x y : Operand} {a b : Int} (ho : o.op = .buildSlice 24 2 #[(0, x), (1, y)]) (hx : ev x = .int .u8 a) (hy : ev y = .int .u8 b) :
    ∃ v W', (execOp ev o).run Try.prog W = .ok (.value v) W' ∧ Below W.heap.size W W' ∧ IsB W'.heap.size W' v [a, b] :=
  ⟨_, _, exec_bs2 x y a b ho hx hy, later_alloc _ _, by rw [World.size_alloc]; exact IsB_new [a, b] (by omega)⟩
end Go.Proofs.Ytgempelfamjabaa
