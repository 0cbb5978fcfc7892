
/-
  A region that draws its order, in a round as outside; its operations one by one; a row of structs.
-/
import Derived.Test.YtdcpnjlldocdcaaA12
namespace Go.Proofs.Ytdcpnjlldocdcaa
open Go.RowKit Go.Shelf

/-! a region in a round of a loop over a function goes as it goes outside -/
theorem callsIn_round {n l : Nat} {P : Program} {f : FuncId} {args : Array Value} {w : World} {R : Ending → World → Prop} (h : Calls P f args w R) : CallsIn (Fence.wide.inRound l) n P f args w R :=
  ⟨trivial, fun cs _ => let ⟨e, w', fr, r, s, x⟩ := h cs; ⟨e, w', fr, r, comesIn_wide.2 s, x⟩⟩
theorem rowsIn_round {n l : Nat} {P : Program} {row : String} {args : Array Value} {w : World} {R : Value → World → Prop} (h : Rows P row args w R) : RowsIn (Fence.wide.inRound l) n P row args w R :=
  fun c cs _ => let ⟨v, w', r, s⟩ := h c cs; ⟨v, w', r, stepsIn_wide.2 s⟩
theorem wpOpIn_of {n l : Nat} {P : Program} {ops : Array Oper} {Q : Exit → Act → World → Prop} (hnd : ∀ o ∈ ops, ∀ c, o.op ≠ .defer c) (hQ : ∀ a w, ¬ Q .outgrown a w) {i : Nat} {K : Act → World → Prop} {a : Act} {w : World}
    (h : wpOp P ops Q i K a w) : wpOpIn (Fence.wide.inRound l) n P ops Q i K a w := by
  unfold wpOp at h
  unfold wpOpIn
  cases ho : ops[i]? with
  | none => rw [ho] at h; exact h
  | some o =>
    rw [ho] at h
    simp only at h ⊢
    split
    · rename_i hw
      rw [if_pos hw] at h
      refine ⟨fun _ _ => trivial, ?_⟩
      rw [Oper.semAt_eq _ _ _ (fun c => hnd o (Array.mem_of_getElem? ho) c)]
      rcases h with h | ⟨_, a', w', h⟩
      · unfold Oper.wp at h
        generalize (execOp a.eval o).run P w = r at h ⊢
        cases r with
        | ok x w' =>
          cases x <;> simp only [Oper.upon, Oper.uponIn] at h ⊢ <;> first
            | exact h
            | exact ⟨fun h => by simp [Fence.wide] at h, callsIn_round h⟩
            | exact ⟨fun h => by simp [Fence.wide] at h, rowsIn_round h⟩
            | exact h.elim
        | halt x w' => cases x <;> simp only [Oper.upon, Oper.uponIn] at h ⊢ <;> first | exact h | exact h.elim
      · exact (hQ a' w' h).elim
    · rename_i hw
      rw [if_neg hw] at h
      exact ⟨fun _ _ => trivial, h⟩
theorem wpAnyIn_of {n l : Nat} {P : Program} {md : Region.Mode} {ops : Array Oper} {Q : Exit → Act → World → Prop} (hnd : ∀ o ∈ ops, ∀ c, o.op ≠ .defer c) (hQ : ∀ a w, ¬ Q .outgrown a w) :
    ∀ (fuel : Nat) (listed : Array Bool) (a : Act) (w : World), wpAny P md ops Q fuel listed a w → wpAnyIn (Fence.wide.inRound l) n P md ops Q fuel listed a w
  | 0, _, _, _, h => h
  | fuel + 1, _, _, _, h => ⟨h.1, fun i hi => wpOpIn_mono (fun a w => wpAnyIn_of hnd hQ fuel _ a w) (wpOpIn_of hnd hQ (h.2 i hi))⟩
/-- what a region leaves, where nothing goes wrong in it -/
def Well (Q : Act → World → Prop) : Exit → Act → World → Prop := fun e a w => match e with
  | .normal => Q a w
  | _ => False
def noDefer (o : Oper) : Bool := match o.op with
  | .defer _ => false
  | _ => true
theorem noDefer_of {ops : Array Oper} (h : ops.all noDefer = true) : ∀ o ∈ ops, ∀ c, o.op ≠ .defer c := by
  intro o ho c e
  have := Array.all_eq_true'.1 h o ho
  unfold noDefer at this
  rw [e] at this
  cases this
theorem region_round {l n id : Nat} {ops : Array Oper} {Q : Exit → Act → World → Prop} {a : Act} {w : World} (S : World → Prop) (Q' : Act → World → Prop) (hm : Try.prog.follows .mixedOrders = true) (hnd : ops.all noDefer = true)
    (h : wpAnyH Try.prog .any ops (Well Q') S ops.size (Array.replicate ops.size false) a w.drew) (hq : ∀ a' w', Q' a' w' → Q .normal a' w') : (Code.region id ops true).wpIn (Fence.wide.inRound l) n Try.prog Q a w := by
  refine wpIn_mono (Q := Well Q') (wpIn_region_any hm (wpAnyIn_of (noDefer_of hnd) (fun _ _ h => h) _ _ _ _ (wpAny_of_held _ _ _ _ h))) ?_
  intro e a' w' h'
  cases e with
  | normal => exact hq a' w' h'
  | _ => exact h'.elim
theorem region_out {id : Nat} {ops : Array Oper} {Q : Exit → Act → World → Prop} {a : Act} {w : World} (S : World → Prop) (hm : Try.prog.follows .mixedOrders = true)
    (h : wpAnyH Try.prog .any ops Q S ops.size (Array.replicate ops.size false) a w.drew) : (Code.region id ops true).wp Try.prog Q a w := wp_region_held hm h

section
variable {ops : Array Oper} {Q : Exit → Act → World → Prop} {md : Region.Mode} {S : World → Prop} {oi : Oper} {fuel : Nat} {listed : Array Bool} {a : Act} {w w' : World}
/-- the only one that may come up: it yields a value, a store, a call -/
theorem nextD (i : Nat) (d : Tmp) (v : Value) (hr : Region.ready md ops listed = [i]) (hi : ops[i]? = some oi) (hd : oi.dst = some d) (hw : Region.wanted oi (yielded ops a.tmps) = true)
    (hrun : (execOp a.eval oi).run Try.prog w = .ok (.value v) w') (hS : S w') (h : wpAnyH Try.prog md ops Q S fuel (listed.setIfInBounds i true) (a.put (some d) v) w') : wpAnyH Try.prog md ops Q S (fuel + 1) listed a w := by
  refine wpAnyH_all hr (by simp) (fun k hk => ?_)
  obtain rfl : k = i := by simpa using hk
  unfold Go.wpOp
  simp only [hi, hw, if_true, Oper.wp, hrun, Oper.upon, hd]
  exact .inl ⟨hS, h⟩
theorem storeD (i : Nat) (hr : Region.ready md ops listed = [i]) (hi : ops[i]? = some oi) (hd : oi.dst = none) (hw : Region.wanted oi (yielded ops a.tmps) = true)
    (hrun : (execOp a.eval oi).run Try.prog w = .ok .skip w') (hS : S w') (h : wpAnyH Try.prog md ops Q S fuel (listed.setIfInBounds i true) a w') : wpAnyH Try.prog md ops Q S (fuel + 1) listed a w := by
  refine wpAnyH_all hr (by simp) (fun k hk => ?_)
  obtain rfl : k = i := by simpa using hk
  unfold Go.wpOp
  simp only [hi, hw, if_true, Oper.wp, hrun, Oper.upon, hd, Act.put]
  exact .inl ⟨hS, h⟩
theorem callD (i : Nat) (d : Tmp) (hr : Region.ready md ops listed = [i]) (hi : ops[i]? = some oi) (hd : oi.dst = some d) (hw : Region.wanted oi (yielded ops a.tmps) = true) (F : FuncId) (vals : Array Value)
    (hrun : (execOp a.eval oi).run Try.prog w = .ok (.enter F vals) w') (R : Value → World → Prop) (hC : Calls Try.prog F vals w' fun e w2 => ∃ v, e = .returned v ∧ R v w2)
    (h : ∀ v w2, R v w2 → S w2 ∧ wpAnyH Try.prog md ops Q S fuel (listed.setIfInBounds i true) (a.put (some d) v) w2) : wpAnyH Try.prog md ops Q S (fuel + 1) listed a w := by
  refine wpAnyH_all hr (by simp) (fun k hk => ?_)
  obtain rfl : k = i := by simpa using hk
  unfold Go.wpOp
  simp only [hi, hw, if_true, Oper.wp, hrun, Oper.upon, hd]
  refine .inl (hC.mono ?_)
  rintro _ w2 ⟨v, rfl, hR⟩
  exact h v w2 hR
end

section
variable {o : Oper} {w : World} {ev : Operand → Value}
theorem exec_assign (x : Operand) (v : Value) (ho : o.op = .assign x) (hx : ev x = v) : (execOp ev o).run Try.prog w = .ok (.value v) w := by
  unfold execOp
  simp only [ho, hx, Sem.run_pure]
theorem exec_pick (c x y : Operand) (b : Bool) (v : Value) (ho : o.op = .pick c x y) (hc : ev c = .bool b) (hv : (if b then ev x else ev y) = v) : (execOp ev o).run Try.prog w = .ok (.value v) w := by
  unfold execOp
  simp [ho, hc, go_sem, hv]
theorem exec_not (x : Operand) (t : TypeId) (b : Bool) (ho : o.op = .unOp .not t x) (hx : ev x = .bool b) : (execOp ev o).run Try.prog w = .ok (.value (.bool (!b))) w := by
  unfold execOp
  simp [ho, hx, go_sem]
theorem exec_fieldO (T : TypeId) (x : Operand) (k b p q : Nat) (ho : o.op = .fieldAddr T x k) (hx : ev x = .pointer (some ⟨b, p, none⟩)) (hk : ∀ w, (Instr.fieldAt T (.pointer (some ⟨b, p, none⟩)) k).run Try.prog w = .ok (.pointer (some ⟨b, q, none⟩)) w) : (execOp ev o).run Try.prog w = .ok (.value (.pointer (some ⟨b, q, none⟩))) w := by
  unfold execOp
  simp only [ho, hx, Sem.run_bind, Sem.run_pure, Result.andThen_ok, hk]
theorem exec_load1 (T : TypeId) (hag : ∀ W, (isAgg T).run Try.prog W = .ok false W) (x : Operand) (ho : o.op = .load T x) (s k : Nat) (hx : ev x = .pointer (some ⟨s, k, none⟩)) (v : Value) (hg : w.cell? ⟨s, k, none⟩ = some v) : (execOp ev o).run Try.prog w = .ok (.value v) w := by
  unfold execOp
  simp only [ho, hx, Instr.loadAt, Instr.sureAddr, loadVar, Sem.run_bind, Sem.run_pure, Result.andThen_ok, hag, Bool.false_eq_true, if_false]
  simp [go_sem, hg]
theorem exec_store1 (T : TypeId) (hsz : ∀ W, (Go.sizeOf T).run Try.prog W = .ok 1 W) (x y : Operand) (ho : o.op = .store T x y) (s k : Nat) (hx : ev x = .pointer (some ⟨s, k, none⟩)) (u v : Value) (hy : ev y = v) (hg : w.cell? ⟨s, k, none⟩ = some u) (hf : w.frozen? ⟨s, k, none⟩ = false) (h1 : v.oneCell' = true) :
    (execOp ev o).run Try.prog w = .ok .skip (w.setCell ⟨s, k, none⟩ v) := by
  unfold execOp
  have e : v.cells = #[v] := by cases v <;> first | rfl | cases h1
  simp only [ho, hx, hy, Instr.storeAt, Instr.sureAddr, storeVar, Sem.run_bind, Sem.run_pure, Result.andThen_ok, hsz, e]
  have j0 : ∀ j, j < [v].length → j = 0 := fun j hj => by simpa using hj
  have hst := run_storeCells_cells (P := Try.prog) s k [v] 0 w (fun j hj => by rw [j0 j hj, Nat.add_zero, hg]; rfl) (fun j hj => by rw [j0 j hj]; exact hf) (by simpa using h1)
  simp only [Nat.add_zero] at hst
  simp only [List.size_toArray, List.length_cons, List.length_nil, Nat.zero_add, ne_eq, not_true, if_false, hst]
  rfl
theorem exec_app (d s : Operand) (t t' : TypeId) (ho : o.op = .call { callee := .builtin .append, args := #[d, s], argTypes := #[t, t'] }) (v u : Value) (hd : ev d = v) (hs : ev s = u) {v' : Value} {w' : World}
    (ty : TypeId) (hty : o.type = ty) (hr : (Builtin.append_ #[t, t'] ty #[v, u]).run Try.prog w = .ok v' w') : (execOp ev o).run Try.prog w = .ok (.value v') w' := by
  subst hty
  unfold execOp
  simp only [ho, resolve, invoke, builtin, Sem.run_bind, Sem.run_pure, Result.andThen_ok, List.map_toArray, List.map_cons, List.map_nil, hd, hs, hr]
end
theorem one1 (w : World) : (isAgg 3).run Try.prog w = .ok false w := by kernel_rfl
theorem oneB (w : World) : (isAgg 4).run Try.prog w = .ok false w := by kernel_rfl
theorem oneL (w : World) : (isAgg 41).run Try.prog w = .ok false w := by kernel_rfl
theorem oneI (w : World) : (isAgg 54).run Try.prog w = .ok false w := by kernel_rfl
theorem oneA (w : World) : (isAgg 53).run Try.prog w = .ok false w := by kernel_rfl
theorem oneC (w : World) : (isAgg 37).run Try.prog w = .ok false w := by kernel_rfl
theorem s1 (w : World) : (Go.sizeOf 3).run Try.prog w = .ok 1 w := by kernel_rfl
theorem s1L (w : World) : (Go.sizeOf 41).run Try.prog w = .ok 1 w := by kernel_rfl
theorem s1I (w : World) : (Go.sizeOf 54).run Try.prog w = .ok 1 w := by kernel_rfl
theorem s1A (w : World) : (Go.sizeOf 53).run Try.prog w = .ok 1 w := by kernel_rfl
end Go.Proofs.Ytdcpnjlldocdcaa
