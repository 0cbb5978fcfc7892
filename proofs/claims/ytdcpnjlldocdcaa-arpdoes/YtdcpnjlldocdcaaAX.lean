
/-
  Single operations of a drawn region, more of them.
-/
import Derived.Test.YtdcpnjlldocdcaaA28
import Derived.Test.YtdcpnjlldocdcaaAOp
namespace Go.Proofs.Ytdcpnjlldocdcaa
open Go.RowKit Go.Shelf

section
variable {ops : Array Oper} {Q : Exit → Act → World → Prop} {K : Act → World → Prop} {oi : Oper} {a : Act} {w w' : World}
theorem opD_call (i : Nat) (d : Tmp) (hi : ops[i]? = some oi) (hd : oi.dst = some d) (hw : Region.wanted oi (yielded ops a.tmps) = true) (F : FuncId) (vals : Array Value) (hrun : (execOp a.eval oi).run Try.prog w = .ok (.enter F vals) w') (R : Value → World → Prop) (hC : Calls Try.prog F vals w' fun e w2 => ∃ v, e = .returned v ∧ R v w2) (h : ∀ v w2, R v w2 → K (a.put (some d) v) w2) : wpOp Try.prog ops Q i K a w := by
  unfold Go.wpOp
  simp only [hi, hw, if_true, Oper.wp, hrun, Oper.upon, hd]
  refine .inl (hC.mono ?_)
  rintro _ w2 ⟨v, rfl, hR⟩
  exact h v w2 hR
end
theorem exec_allocA {o : Oper} {w : World} {ev : Operand → Value} (ho : o.op = .alloc 27) : (execOp ev o).run Try.prog w = .ok (.value (.pointer (some ⟨w.heap.size, 0, none⟩))) (w.alloc (.cells (Ar.vals ⟨false, zM, zI, zM, zI⟩).toArray 27)) := by
  unfold execOp
  rw [ho]
  kernel_rfl
theorem exec_ixO {o : Oper} {w : World} {ev : Operand → Value} (x y : Operand) (g off n c k : Nat) (ho : o.op = .indexAddr 36 x y) (hx : ev x = .slice (some ⟨g, off, none⟩) n c) (hy : ev y = .int .i64 (k : Int)) (hk : k < n) : (execOp ev o).run Try.prog w = .ok (.value (.pointer (some ⟨g, off + k * 25, none⟩))) w := by
  have hki : (k : Int) < n := by omega
  unfold execOp
  simp [ho, hx, hy, go_sem, hki]
theorem exec_addb {o : Oper} {w : World} {ev : Operand → Value} (x y : Operand) (t : TypeId) (a b : Int) (ho : o.op = .binOp .add 5 x y t) (hx : ev x = .int .u8 a) (hy : ev y = .int .u8 b) (h0 : 0 ≤ a + b) (h1 : a + b ≤ 255) : (execOp ev o).run Try.prog w = .ok (.value (.int .u8 (a + b))) w := by
  have hw : IntKind.u8.wrap (a + b) = a + b := by simp [IntKind.wrap, IntKind.bits, IntKind.signed]; omega
  unfold execOp
  simp [ho, hx, hy, go_sem, hw]
theorem exec_ar5 {o : Oper} {w : World} {ev : Operand → Value} (u x y p z : Operand) (b : Bool) (m0 m1 m2 m3 m4 m5 i0 i1 i2 i3 n0 n1 n2 n3 n4 n5 j0 j1 j2 j3 : Int) (ho : o.op = .build 27 #[(0, u), (1, x), (2, y), (3, p), (4, z)]) (hu : ev u = .bool b) (hx : ev x = .agg #[.int .u8 m0, .int .u8 m1, .int .u8 m2, .int .u8 m3, .int .u8 m4, .int .u8 m5]) (hy : ev y = .agg #[.int .u8 i0, .int .u8 i1, .int .u8 i2, .int .u8 i3]) (hp : ev p = .agg #[.int .u8 n0, .int .u8 n1, .int .u8 n2, .int .u8 n3, .int .u8 n4, .int .u8 n5]) (hz : ev z = .agg #[.int .u8 j0, .int .u8 j1, .int .u8 j2, .int .u8 j3]) :
    (execOp ev o).run Try.prog w = .ok (.value (.agg (Ar.vals ⟨b, ⟨m0, m1, m2, m3, m4, m5⟩, ⟨i0, i1, i2, i3⟩, ⟨n0, n1, n2, n3, n4, n5⟩, ⟨j0, j1, j2, j3⟩⟩).toArray)) w := by
  unfold execOp
  rw [ho]
  simp only [List.map_toArray, List.map_cons, List.map_nil, hu, hx, hy, hp, hz]
  kernel_rfl
theorem exec_gti {o : Oper} {w : World} {ev : Operand → Value} (x y : Operand) (t : TypeId) (a b : Int) (r : Bool) (ho : o.op = .binOp .gtr 3 x y t) (hx : ev x = .int .i64 a) (hy : ev y = .int .i64 b) (hr : decide (b < a) = r) : (execOp ev o).run Try.prog w = .ok (.value (.bool r)) w := by
  unfold execOp
  simp [ho, hx, hy, go_sem, hr]
theorem exec_ixN {o : Oper} {w : World} {ev : Operand → Value} (x y : Operand) (g n c : Nat) (k : Nat) (ho : o.op = .indexAddr 41 x y) (hx : ev x = .slice (some ⟨g, 0, none⟩) n c) (hy : ev y = .int .i64 (k : Int)) (hk : k < n) : (execOp ev o).run Try.prog w = .ok (.value (.pointer (some ⟨g, k * 15, none⟩))) w := by
  have hki : (k : Int) < n := by omega
  unfold execOp
  simp [ho, hx, hy, go_sem, hki]
theorem exec_ixS {o : Oper} {w : World} {ev : Operand → Value} (x y : Operand) (g : Nat) (k : Nat) (ho : o.op = .indexAddr 63 x y) (hx : ev x = .pointer (some ⟨g, 0, none⟩)) (hy : ev y = .int .i64 (k : Int)) (hk : k < 9) : (execOp ev o).run Try.prog w = .ok (.value (.pointer (some ⟨g, k * 6, none⟩))) w := by
  have hki : (k : Int) < 9 := by omega
  unfold execOp
  simp [ho, hx, hy, go_sem, hki]
theorem exec_len {o : Oper} {w : World} {ev : Operand → Value} (x : Operand) (t : TypeId) (a : Option Addr) (n c : Nat) (ht : Try.prog.underlying t = some (.slice (Try.prog.elem t))) (ho : o.op = .call { callee := .builtin .len, args := #[x], argTypes := #[t] }) (hx : ev x = .slice a n c) : (execOp ev o).run Try.prog w = .ok (.value (.int .i64 (n : Int))) w := by
  have e := run_len_slice (P := Try.prog) (w := w) t o.type a n c ht
  unfold execOp
  simp only [ho, resolve, invoke, builtin, Sem.run_bind, Sem.run_pure, Result.andThen_ok, List.map_toArray, List.map_cons, List.map_nil, hx, e]
  rfl
theorem exec_neM {o : Oper} {w : World} {ev : Operand → Value} (x y : Operand) (t : TypeId) (p : M6) (ho : o.op = .binOp .neq 23 x y t) (hx : ev x = .agg p.vals.toArray) (hy : ev y = .agg p.vals.toArray) : (execOp ev o).run Try.prog w = .ok (.value (.bool false)) w := by
  have EM := eq_mac
  unfold execOp
  simp [ho, hx, hy, go_sem, M6.vals, EM, eqM]
theorem exec_neI {o : Oper} {w : World} {ev : Operand → Value} (x y : Operand) (t : TypeId) (p : I4) (ho : o.op = .binOp .neq 25 x y t) (hx : ev x = .agg p.vals.toArray) (hy : ev y = .agg p.vals.toArray) : (execOp ev o).run Try.prog w = .ok (.value (.bool false)) w := by
  have EM := eq_ip
  unfold execOp
  simp [ho, hx, hy, go_sem, I4.vals, EM, eqI]
end Go.Proofs.Ytdcpnjlldocdcaa
