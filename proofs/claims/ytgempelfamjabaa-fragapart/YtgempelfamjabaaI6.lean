
/-
  Package ip4: options are told one by one.
-/
import Derived.Test.YtgempelfamjabaaI5
namespace Go.Proofs.Ytgempelfamjabaa
open Go.RowKit Go.Shelf
attribute [local go_sem] Oper.semAt_some

section
variable {n : Nat} {ops : Array Oper} {Q : Exit → Act → World → Prop} {md : Region.Mode} {oi : Oper} {fuel : Nat} {listed : Array Bool} {a : Act} {w w' : World}
/-- a drawn region inside the wide fence: an operation that only reckons is taken first; the only one that may come up; a round of a loop over a function -/
theorem takeW {i : Nat} {v : Value} (d : Tmp) (hi : ops[i]? = some oi) (hd : oi.dst = some d) (hs : Region.noSelect ops = true) (hf : Region.free md ops listed i = true) (hr : (Region.ready md ops listed).contains i = true)
    (hQ : ∀ c a w, Q (.panic c) (a.put (some d) v) w → Q (.panic c) a w) (hy : Yields Try.prog ops oi v a) (hab : ∀ w, oi.about Try.prog w a.eval = none)
    (h : wpAnyIn Fence.wide n Try.prog md ops Q fuel (listed.setIfInBounds i true) (a.put (some d) v) w) : wpAnyIn Fence.wide n Try.prog md ops Q (fuel + 1) listed a w :=
  wpAnyIn_take rfl hi hs hf hr (by rw [hd]; exact hQ) ⟨hy, hab⟩ (by rw [hd]; exact h)
theorem nextW (i : Nat) (d : Tmp) (v : Value) (hr : Region.ready md ops listed = [i]) (hi : ops[i]? = some oi) (hd : oi.dst = some d) (hw : Region.wanted oi (yielded ops a.tmps) = true)
    (hrun : (execOp a.eval oi).run Try.prog w = .ok (.value v) w') (h : wpAnyIn Fence.wide n Try.prog md ops Q fuel (listed.setIfInBounds i true) (a.put (some d) v) w') : wpAnyIn Fence.wide n Try.prog md ops Q (fuel + 1) listed a w := by
  refine wpAnyIn_all hr (by simp) (fun k hk => ?_)
  obtain rfl : k = i := by simpa using hk
  unfold Go.wpOpIn
  have e : Fence.wide.round = none := rfl
  simp only [hi, hw, if_true, Oper.wpIn, e, Oper.semAt_none, hrun, Oper.uponIn, hd]
  exact ⟨fun _ _ => trivial, h⟩
theorem roundW (i : Nat) (d : Tmp) (hr : Region.ready md ops listed = [i]) (hi : ops[i]? = some oi) (hd : oi.dst = some d) (hw : Region.wanted oi (yielded ops a.tmps) = true) {l : Nat} {fn : FuncId} {tmps : Array Value} {assign body : Code}
    (hrun : (execOp a.eval oi).run Try.prog w = .ok (.round l fn tmps assign body) w') {R : Ending → World → Prop} (hR : RoundIn Fence.wide (n - 1) Try.prog l fn tmps assign body w' R)
    (h : ∀ e w2, R e w2 → ∃ v, e = .returned v ∧ wpAnyIn Fence.wide n Try.prog md ops Q fuel (listed.setIfInBounds i true) (a.put (some d) v) w2) : wpAnyIn Fence.wide n Try.prog md ops Q (fuel + 1) listed a w := by
  refine wpAnyIn_all hr (by simp) (fun k hk => ?_)
  obtain rfl : k = i := by simpa using hk
  unfold Go.wpOpIn
  have e : Fence.wide.round = none := rfl
  simp only [hi, hw, if_true, Oper.wpIn, e, Oper.semAt_none, hrun, Oper.uponIn, hd]
  refine ⟨fun _ _ => trivial, fun h => by simp [Fence.wide] at h, RoundIn.mono hR fun e w2 he => ?_⟩
  obtain ⟨v, rfl, h2⟩ := h e w2 he
  exact h2
end
theorem exec_ixU {o : Oper} {w : World} {ev : Operand → Value} (x y : Operand) (g off n c k : Nat) (ho : o.op = .indexAddr 24 x y) (hx : ev x = .slice (some ⟨g, off, none⟩) n c) (hy : ev y = .int .i64 (k : Int)) (hk : k < n) : (execOp ev o).run Try.prog w = .ok (.value (.pointer (some ⟨g, off + k, none⟩))) w := by
  have hki : (k : Int) < n := by omega
  unfold execOp
  simp [ho, hx, hy, go_sem, hki]
theorem exec_slU {o : Oper} {w : World} {ev : Operand → Value} (x y : Operand) (ad : Option Addr) (n c k : Nat) (ho : o.op = .slice 24 x none (some y) none) (hx : ev x = .slice ad n c) (hy : ev y = .int .i64 (k : Int)) (hk : k ≤ c) : (execOp ev o).run Try.prog w = .ok (.value (.slice ad k c)) w := by
  have hki : (k : Int) ≤ c := by omega
  unfold execOp
  simp [ho, hx, hy, go_sem, hki]
theorem exec_yield {o : Oper} {w w' : World} {ev : Operand → Value} (f x y : Operand) (t t' : TypeId) (l : Nat) (u v : Value) (nx : Next) (ho : o.op = .call { callee := .value f, args := #[x, y], argTypes := #[t, t'] }) (hf : ev f = .func (.yield l) #[] #[]) (hx : ev x = u) (hy : ev y = v) (hr : (Instr.yield l #[u, v]).run Try.prog w = .ok nx w') : (execOp ev o).run Try.prog w = .ok nx w' := by
  unfold execOp
  simp [ho, hf, hx, hy, go_sem, resolve, invoke, hr]
end Go.Proofs.Ytgempelfamjabaa
