
/-
  Single operations of drawn regions, out of stage 8.
-/
import Derived.Test.YtgempelfamjabaaA2
import Derived.Deep.RegionHeld3
namespace Go.Proofs.Ytgempelfamjabaa
open Go.RowKit Go.Shelf
attribute [local go_sem] Oper.semAt_some

def zI : I4 := ⟨0, 0, 0, 0⟩
section
variable {o : Oper} {w : World} {ev : Operand → Value}
theorem exec_loadA (T : TypeId) (n : Nat) (hag : ∀ W, (isAgg T).run Try.prog W = .ok true W) (hsz : ∀ W, (Go.sizeOf T).run Try.prog W = .ok n W) (x : Operand) (ho : o.op = .load T x)
    (s k : Nat) (hx : ev x = .pointer (some ⟨s, k, none⟩)) (vs : List Value) (hl : vs.length = n) (hg : CellsAt w s k vs) : (execOp ev o).run Try.prog w = .ok (.value (.agg vs.toArray)) w := by
  unfold execOp
  have hg' := hg.loads
  rw [hl] at hg'
  simp only [ho, hx, Instr.loadAt, Instr.sureAddr, loadVar, Sem.run_bind, Sem.run_pure, Result.andThen_ok, hag, hsz, if_true, hg']
theorem exec_storeA (T : TypeId) (n : Nat) (hsz : ∀ W, (Go.sizeOf T).run Try.prog W = .ok n W) (x y : Operand) (ho : o.op = .store T x y)
    (s k : Nat) (hx : ev x = .pointer (some ⟨s, k, none⟩)) (vs ws : List Value) (hy : ev y = .agg vs.toArray) (hl : vs.length = n) (hl2 : ws.length = n) (hg : CellsAt w s k ws) (hf : ∀ j, w.frozen? ⟨s, j, none⟩ = false) (h1 : ∀ u ∈ vs, u.oneCell' = true) :
    (execOp ev o).run Try.prog w = .ok .skip (w.setCells s k vs) := by
  unfold execOp
  have hst := run_storeCells_cells (P := Try.prog) s k vs 0 w (fun j hj => by rw [Nat.add_zero, hg j _ (List.getElem?_eq_getElem (by omega))]; rfl) (fun j hj => hf _) h1
  simp only [Nat.add_zero] at hst
  have hl' : vs.toArray.size = n := by simpa using hl
  simp only [ho, hx, hy, Instr.storeAt, Instr.sureAddr, storeVar, Sem.run_bind, Sem.run_pure, Result.andThen_ok, hsz, Value.cells, hl', ne_eq, not_true, if_false, hst]
theorem run_loadVarA (T : TypeId) (n : Nat) (hag : ∀ W, (isAgg T).run Try.prog W = .ok true W) (hsz : ∀ W, (Go.sizeOf T).run Try.prog W = .ok n W) (s k : Nat) (vs : List Value) (hl : vs.length = n) (hg : CellsAt w s k vs) : (loadVar T ⟨s, k, none⟩).run Try.prog w = .ok (.agg vs.toArray) w := by
  have hg' := hg.loads
  rw [hl] at hg'
  simp only [loadVar, Sem.run_bind, Sem.run_pure, Result.andThen_ok, hag, hsz, if_true, hg']
theorem exec_move (x : Operand) (v : Value) (ho : o.op = .move x) (hx : ev x = v) : (execOp ev o).run Try.prog w = .ok (.value v) w := by
  unfold execOp
  simp only [ho, hx, Sem.run_pure]
theorem exec_nil (x : Operand) (ad : Addr) (ho : o.op = .nilCheck x) (hx : ev x = .pointer (some ad)) : (execOp ev o).run Try.prog w = .ok (.value (.pointer (some ad))) w := by
  unfold execOp
  simp [ho, hx, go_sem]
end
/-- a function's one result, a struct that lies in a cell's block -/
theorem results_A {fn : Func} {p : Tmp} {T : TypeId} (h : fn.results = #[.cell p T]) (tmps : Array Value) (w : World) (s : Nat) (v : Value) (hp : tmps.getD p undef = .pointer (some ⟨s, 0, none⟩)) (hL : (loadVar T ⟨s, 0, none⟩).run Try.prog w = .ok v w) : (results fn tmps).run Try.prog w = .ok v w := by
  have ha : (asAddr (tmps.getD p undef)).run Try.prog w = .ok ⟨s, 0, none⟩ w := by rw [hp]; rfl
  simp only [results, h]
  have ha' : (asAddr (tmps[p]?.getD undef)).run Try.prog w = .ok ⟨s, 0, none⟩ w := by simpa using ha
  simp [Sem.run_bind, Result.andThen, ha', hL]
/-- an operation of a drawn region is taken first -/
theorem takeD {ops : Array Oper} {Q : Exit → Act → World → Prop} {md : Region.Mode} {S : World → Prop} {i : Nat} {oi : Oper} {v : Value} (d : Tmp) {fuel : Nat} {listed : Array Bool} {a : Act} {w : World} (hi : ops[i]? = some oi) (hd : oi.dst = some d)
    (hs : Region.noSelect ops = true) (hf : Region.free md ops listed i = true) (hr : (Region.ready md ops listed).contains i = true)
    (hQ : ∀ c a w, Q (.panic c) (a.put (some d) v) w → Q (.panic c) a w) (hy : YieldsIf Try.prog ops S oi v a) (hS : S w)
    (h : wpAnyH Try.prog md ops Q S fuel (listed.setIfInBounds i true) (a.put (some d) v) w) : wpAnyH Try.prog md ops Q S (fuel + 1) listed a w :=
  wpAnyH_take hi hs hf hr (by rw [hd]; exact hQ) hy hS (by rw [hd]; exact h)
/-- a store comes last -/
theorem lastD {ops : Array Oper} {Q : Exit → Act → World → Prop} {md : Region.Mode} {S : World → Prop} (i : Nat) {oi : Oper} {fuel : Nat} {listed : Array Bool} {a : Act} {w w' : World} (hr : Region.ready md ops listed = [i]) (hi : ops[i]? = some oi) (hd : oi.dst = none) (hw : Region.wanted oi (yielded ops a.tmps) = true)
    (hrun : (execOp a.eval oi).run Try.prog w = .ok .skip w') (hS : S w') (hr2 : Region.ready md ops (listed.setIfInBounds i true) = []) (h : Q .normal a w') : wpAnyH Try.prog md ops Q S (fuel + 1) listed a w := by
  refine wpAnyH_all hr (by simp) (fun k hk => ?_)
  obtain rfl : k = i := by simpa using hk
  unfold Go.wpOp
  simp only [hi, hw, if_true, Oper.wp, hrun, Oper.upon, hd, Act.put]
  exact .inl ⟨hS, wpAnyH_done hr2 h _⟩
theorem callsIn_round {n l : Nat} {P : Program} {f : FuncId} {args : Array Value} {w : World} {R : Ending → World → Prop} (h : Calls P f args w R) : CallsIn (Fence.wide.inRound l) n P f args w R :=
  ⟨trivial, fun cs _ => let ⟨e, w', fr, r, s, x⟩ := h cs; ⟨e, w', fr, r, comesIn_wide.2 s, x⟩⟩
theorem rowsIn_round {n l : Nat} {P : Program} {row : String} {args : Array Value} {w : World} {R : Value → World → Prop} (h : Rows P row args w R) : RowsIn (Fence.wide.inRound l) n P row args w R :=
  fun c cs _ => let ⟨v, w', r, s⟩ := h c cs; ⟨v, w', r, stepsIn_wide.2 s⟩
theorem wpOpIn_of {n l : Nat} {P : Program} {ops : Array Oper} {Q : Exit → Act → World → Prop} (hnd : ∀ o ∈ ops, ∀ c, o.op ≠ .defer c) (hQ : ∀ a w, ¬ Q .outgrown a w) {i : Nat} {K : Act → World → Prop} {a : Act} {w : World}
    (h : wpOp P ops Q i K a w) : wpOpIn (Fence.wide.inRound l) n P ops Q i K a w := by
  unfold wpOp at h
  unfold wpOpIn
  cases ho : ops[i]? with
  | none => rw [ho] at h; exact h
  | some o =>
    rw [ho] at h
    simp only at h ⊢
    split
    · rename_i hw
      rw [if_pos hw] at h
      refine ⟨fun _ _ => trivial, ?_⟩
      rw [Oper.semAt_eq _ _ _ (fun c => hnd o (Array.mem_of_getElem? ho) c)]
      rcases h with h | ⟨_, a', w', h⟩
      · unfold Oper.wp at h
        generalize (execOp a.eval o).run P w = r at h ⊢
        cases r with
        | ok x w' =>
          cases x <;> simp only [Oper.upon, Oper.uponIn] at h ⊢ <;> first
            | exact h
            | exact ⟨fun h => by simp [Fence.wide] at h, callsIn_round h⟩
            | exact ⟨fun h => by simp [Fence.wide] at h, rowsIn_round h⟩
            | exact h.elim
        | halt x w' => cases x <;> simp only [Oper.upon, Oper.uponIn] at h ⊢ <;> first | exact h | exact h.elim
      · exact (hQ a' w' h).elim
    · rename_i hw
      rw [if_neg hw] at h
      exact ⟨fun _ _ => trivial, h⟩
theorem wpAnyIn_of {n l : Nat} {P : Program} {md : Region.Mode} {ops : Array Oper} {Q : Exit → Act → World → Prop} (hnd : ∀ o ∈ ops, ∀ c, o.op ≠ .defer c) (hQ : ∀ a w, ¬ Q .outgrown a w) :
    ∀ (fuel : Nat) (listed : Array Bool) (a : Act) (w : World), wpAny P md ops Q fuel listed a w → wpAnyIn (Fence.wide.inRound l) n P md ops Q fuel listed a w
  | 0, _, _, _, h => h
  | fuel + 1, _, _, _, h => ⟨h.1, fun i hi => wpOpIn_mono (fun a w => wpAnyIn_of hnd hQ fuel _ a w) (wpOpIn_of hnd hQ (h.2 i hi))⟩
/-- what a region leaves, where nothing goes wrong in it -/
def Well (Q : Act → World → Prop) : Exit → Act → World → Prop := fun e a w => match e with
  | .normal => Q a w
  | _ => False
def noDefer (o : Oper) : Bool := match o.op with
  | .defer _ => false
  | _ => true
theorem noDefer_of {ops : Array Oper} (h : ops.all noDefer = true) : ∀ o ∈ ops, ∀ c, o.op ≠ .defer c := by
  intro o ho c e
  have := Array.all_eq_true'.1 h o ho
  unfold noDefer at this
  rw [e] at this
  cases this
theorem region_round {l n id : Nat} {ops : Array Oper} {Q : Exit → Act → World → Prop} {a : Act} {w : World} (S : World → Prop) (Q' : Act → World → Prop) (hm : Try.prog.follows .mixedOrders = true) (hnd : ops.all noDefer = true)
    (h : wpAnyH Try.prog .any ops (Well Q') S ops.size (Array.replicate ops.size false) a w.drew) (hq : ∀ a' w', Q' a' w' → Q .normal a' w') : (Code.region id ops true).wpIn (Fence.wide.inRound l) n Try.prog Q a w := by
  refine wpIn_mono (Q := Well Q') (wpIn_region_any hm (wpAnyIn_of (noDefer_of hnd) (fun _ _ h => h) _ _ _ _ (wpAny_of_held _ _ _ _ h))) ?_
  intro e a' w' h'
  cases e with
  | normal => exact hq a' w' h'
  | _ => exact h'.elim
theorem region_out {id : Nat} {ops : Array Oper} {Q : Exit → Act → World → Prop} {a : Act} {w : World} (S : World → Prop) (hm : Try.prog.follows .mixedOrders = true)
    (h : wpAnyH Try.prog .any ops Q S ops.size (Array.replicate ops.size false) a w.drew) : (Code.region id ops true).wp Try.prog Q a w := wp_region_held hm h
section
variable {ops : Array Oper} {Q : Exit → Act → World → Prop} {md : Region.Mode} {S : World → Prop} {oi : Oper} {fuel : Nat} {listed : Array Bool} {a : Act} {w w' : World}
/-- the only one that may come up: it yields a value, a store, a call -/
theorem nextD (i : Nat) (d : Tmp) (v : Value) (hr : Region.ready md ops listed = [i]) (hi : ops[i]? = some oi) (hd : oi.dst = some d) (hw : Region.wanted oi (yielded ops a.tmps) = true)
    (hrun : (execOp a.eval oi).run Try.prog w = .ok (.value v) w') (hS : S w') (h : wpAnyH Try.prog md ops Q S fuel (listed.setIfInBounds i true) (a.put (some d) v) w') : wpAnyH Try.prog md ops Q S (fuel + 1) listed a w := by
  refine wpAnyH_all hr (by simp) (fun k hk => ?_)
  obtain rfl : k = i := by simpa using hk
  unfold Go.wpOp
  simp only [hi, hw, if_true, Oper.wp, hrun, Oper.upon, hd]
  exact .inl ⟨hS, h⟩
theorem storeD (i : Nat) (hr : Region.ready md ops listed = [i]) (hi : ops[i]? = some oi) (hd : oi.dst = none) (hw : Region.wanted oi (yielded ops a.tmps) = true)
    (hrun : (execOp a.eval oi).run Try.prog w = .ok .skip w') (hS : S w') (h : wpAnyH Try.prog md ops Q S fuel (listed.setIfInBounds i true) a w') : wpAnyH Try.prog md ops Q S (fuel + 1) listed a w := by
  refine wpAnyH_all hr (by simp) (fun k hk => ?_)
  obtain rfl : k = i := by simpa using hk
  unfold Go.wpOp
  simp only [hi, hw, if_true, Oper.wp, hrun, Oper.upon, hd, Act.put]
  exact .inl ⟨hS, h⟩
theorem callD (i : Nat) (d : Tmp) (hr : Region.ready md ops listed = [i]) (hi : ops[i]? = some oi) (hd : oi.dst = some d) (hw : Region.wanted oi (yielded ops a.tmps) = true) (F : FuncId) (vals : Array Value)
    (hrun : (execOp a.eval oi).run Try.prog w = .ok (.enter F vals) w') (R : Value → World → Prop) (hC : Calls Try.prog F vals w' fun e w2 => ∃ v, e = .returned v ∧ R v w2)
    (h : ∀ v w2, R v w2 → S w2 ∧ wpAnyH Try.prog md ops Q S fuel (listed.setIfInBounds i true) (a.put (some d) v) w2) : wpAnyH Try.prog md ops Q S (fuel + 1) listed a w := by
  refine wpAnyH_all hr (by simp) (fun k hk => ?_)
  obtain rfl : k = i := by simpa using hk
  unfold Go.wpOp
  simp only [hi, hw, if_true, Oper.wp, hrun, Oper.upon, hd]
  refine .inl (hC.mono ?_)
  rintro _ w2 ⟨v, rfl, hR⟩
  exact h v w2 hR
end
section
variable {o : Oper} {w : World} {ev : Operand → Value}
theorem exec_assign (x : Operand) (v : Value) (ho : o.op = .assign x) (hx : ev x = v) : (execOp ev o).run Try.prog w = .ok (.value v) w := by
  unfold execOp
  simp only [ho, hx, Sem.run_pure]
theorem exec_pick (c x y : Operand) (b : Bool) (v : Value) (ho : o.op = .pick c x y) (hc : ev c = .bool b) (hv : (if b then ev x else ev y) = v) : (execOp ev o).run Try.prog w = .ok (.value v) w := by
  unfold execOp
  simp [ho, hc, go_sem, hv]
theorem exec_not (x : Operand) (t : TypeId) (b : Bool) (ho : o.op = .unOp .not t x) (hx : ev x = .bool b) : (execOp ev o).run Try.prog w = .ok (.value (.bool (!b))) w := by
  unfold execOp
  simp [ho, hx, go_sem]
theorem exec_fieldO (T : TypeId) (x : Operand) (k b p q : Nat) (ho : o.op = .fieldAddr T x k) (hx : ev x = .pointer (some ⟨b, p, none⟩)) (hk : ∀ w, (Instr.fieldAt T (.pointer (some ⟨b, p, none⟩)) k).run Try.prog w = .ok (.pointer (some ⟨b, q, none⟩)) w) : (execOp ev o).run Try.prog w = .ok (.value (.pointer (some ⟨b, q, none⟩))) w := by
  unfold execOp
  simp only [ho, hx, Sem.run_bind, Sem.run_pure, Result.andThen_ok, hk]
theorem exec_load1 (T : TypeId) (hag : ∀ W, (isAgg T).run Try.prog W = .ok false W) (x : Operand) (ho : o.op = .load T x) (s k : Nat) (hx : ev x = .pointer (some ⟨s, k, none⟩)) (v : Value) (hg : w.cell? ⟨s, k, none⟩ = some v) : (execOp ev o).run Try.prog w = .ok (.value v) w := by
  unfold execOp
  simp only [ho, hx, Instr.loadAt, Instr.sureAddr, loadVar, Sem.run_bind, Sem.run_pure, Result.andThen_ok, hag, Bool.false_eq_true, if_false]
  simp [go_sem, hg]
theorem exec_store1 (T : TypeId) (hsz : ∀ W, (Go.sizeOf T).run Try.prog W = .ok 1 W) (x y : Operand) (ho : o.op = .store T x y) (s k : Nat) (hx : ev x = .pointer (some ⟨s, k, none⟩)) (u v : Value) (hy : ev y = v) (hg : w.cell? ⟨s, k, none⟩ = some u) (hf : w.frozen? ⟨s, k, none⟩ = false) (h1 : v.oneCell' = true) :
    (execOp ev o).run Try.prog w = .ok .skip (w.setCell ⟨s, k, none⟩ v) := by
  unfold execOp
  have e : v.cells = #[v] := by cases v <;> first | rfl | cases h1
  simp only [ho, hx, hy, Instr.storeAt, Instr.sureAddr, storeVar, Sem.run_bind, Sem.run_pure, Result.andThen_ok, hsz, e]
  have j0 : ∀ j, j < [v].length → j = 0 := fun j hj => by simpa using hj
  have hst := run_storeCells_cells (P := Try.prog) s k [v] 0 w (fun j hj => by rw [j0 j hj, Nat.add_zero, hg]; rfl) (fun j hj => by rw [j0 j hj]; exact hf) (by simpa using h1)
  simp only [Nat.add_zero] at hst
  simp only [List.size_toArray, List.length_cons, List.length_nil, Nat.zero_add, ne_eq, not_true, if_false, hst]
  rfl
theorem exec_app (d s : Operand) (t t' : TypeId) (ho : o.op = .call { callee := .builtin .append, args := #[d, s], argTypes := #[t, t'] }) (v u : Value) (hd : ev d = v) (hs : ev s = u) {v' : Value} {w' : World}
    (ty : TypeId) (hty : o.type = ty) (hr : (Builtin.append_ #[t, t'] ty #[v, u]).run Try.prog w = .ok v' w') : (execOp ev o).run Try.prog w = .ok (.value v') w' := by
  subst hty
  unfold execOp
  simp only [ho, resolve, invoke, builtin, Sem.run_bind, Sem.run_pure, Result.andThen_ok, List.map_toArray, List.map_cons, List.map_nil, hd, hs, hr]
end
theorem one1 (w : World) : (isAgg 3).run Try.prog w = .ok false w := by kernel_rfl
theorem oneB (w : World) : (isAgg 4).run Try.prog w = .ok false w := by kernel_rfl
theorem s1 (w : World) : (Go.sizeOf 3).run Try.prog w = .ok 1 w := by kernel_rfl
/-- a labelled body -/
theorem wpIn_scope_straight {F : Fence} {n : Nat} {P : Program} {Q : Exit → Act → World → Prop} {a : Act} {w : World} {c : Code} (h : c.wpIn F n P (Exit.noGoto Q) a w) : (Code.scope c).wpIn F n P Q a w := by
  intro b k cs hro hb hr
  have h0 : (lone (b.atR a (.code (.scope c) :: k)) cs w).fenced P F := fenced_calm hb hr rfl
  have s0 : step P (lone (b.atR a (.code (.scope c) :: k)) cs w) = .next (lone (b.atR a (.code c :: .inScope c :: k)) cs w) := step_lone_go (by simp [stepG, stepG.exec, Frame.atR])
  obtain ⟨e, a₁, w₁, hq, harr⟩ := h b (.inScope c :: k) cs hro hb hr
  have s1 : step P (lone (b.atR a₁ (.inScope c :: k)) cs w₁) = .next (lone (b.atR a₁ k) cs w₁) := step_lone_go (by simp [stepG, stepG.exec, Frame.atR])
  cases e with
  | normal => exact ⟨.normal, a₁, w₁, hq, .head h0 s0 (StepsIn.trans harr (.one (fenced_calm hb hr rfl) s1))⟩
  | exit id =>
    have hx : exitTo id (.inScope c :: k) = exitTo id k := by simp [exitTo]
    exact ⟨.exit id, a₁, w₁, hq, fun k' hk => .head h0 s0 (harr.1 k' (by rw [hx]; exact hk)),
      fun hr' hk => let ⟨k₁, h1, h2⟩ := harr.2 hr' (by rw [hx]; exact hk); ⟨k₁, h1, .head h0 s0 h2⟩⟩
  | goto l => exact hq.elim
  | ret => exact ⟨_, a₁, w₁, hq, .of_steps (.one h0 s0) harr⟩
  | panic ch => exact ⟨_, a₁, w₁, hq, .of_steps (.one h0 s0) harr⟩
  | outgrown => exact ⟨_, a₁, w₁, hq, .of_steps (.one h0 s0) harr⟩
theorem region_in {l n id : Nat} {ops : Array Oper} {Q : Exit → Act → World → Prop} {a : Act} {w : World} (S : World → Prop) (hm : Try.prog.follows .mixedOrders = true) (hnd : ops.all noDefer = true)
    (h : wpAnyH Try.prog .any ops (Well fun a' w' => Q .normal a' w') S ops.size (Array.replicate ops.size false) a w.drew) : (Code.region id ops true).wpIn (Fence.wide.inRound l) n Try.prog Q a w :=
  region_round S _ hm hnd h (fun _ _ h => h)
theorem doneR {ops : Array Oper} {Q' : Act → World → Prop} {md : Region.Mode} {S : World → Prop} {listed : Array Bool} {a : Act} {w : World} (hr : Region.ready md ops listed = []) (fuel : Nat) (h : Q' a w) : wpAnyH Try.prog md ops (Well Q') S fuel listed a w := wpAnyH_done hr h fuel
section
variable {o : Oper} {w : World} {ev : Operand → Value}
theorem exec_eqi (x y : Operand) (t : TypeId) (a b : Int) (r : Bool) (ho : o.op = .binOp .eql 3 x y t) (hx : ev x = .int .i64 a) (hy : ev y = .int .i64 b) (hr : (a == b) = r) : (execOp ev o).run Try.prog w = .ok (.value (.bool r)) w := by
  unfold execOp
  simp [ho, hx, hy, go_sem, hr]
theorem exec_nei (x y : Operand) (t : TypeId) (a b : Int) (r : Bool) (ho : o.op = .binOp .neq 3 x y t) (hx : ev x = .int .i64 a) (hy : ev y = .int .i64 b) (hr : (!(a == b)) = r) : (execOp ev o).run Try.prog w = .ok (.value (.bool r)) w := by
  subst hr
  unfold execOp
  simp [ho, hx, hy, go_sem]
  rfl
theorem exec_lei (x y : Operand) (t : TypeId) (a b : Int) (r : Bool) (ho : o.op = .binOp .leq 3 x y t) (hx : ev x = .int .i64 a) (hy : ev y = .int .i64 b) (hr : decide (a ≤ b) = r) : (execOp ev o).run Try.prog w = .ok (.value (.bool r)) w := by
  subst hr
  unfold execOp
  simp [ho, hx, hy, go_sem]
theorem exec_lti (x y : Operand) (t : TypeId) (a b : Int) (r : Bool) (ho : o.op = .binOp .lss 3 x y t) (hx : ev x = .int .i64 a) (hy : ev y = .int .i64 b) (hr : decide (a < b) = r) : (execOp ev o).run Try.prog w = .ok (.value (.bool r)) w := by
  subst hr
  unfold execOp
  simp [ho, hx, hy, go_sem]
end
section
variable {ops : Array Oper} {Q : Exit → Act → World → Prop} {K : Act → World → Prop} {oi : Oper} {a : Act} {w w' : World}
theorem opD_val (i : Nat) (d : Tmp) (v : Value) (hi : ops[i]? = some oi) (hd : oi.dst = some d) (hw : Region.wanted oi (yielded ops a.tmps) = true) (hrun : (execOp a.eval oi).run Try.prog w = .ok (.value v) w') (h : K (a.put (some d) v) w') : wpOp Try.prog ops Q i K a w := by
  unfold Go.wpOp
  simp only [hi, hw, if_true, Oper.wp, hrun, Oper.upon, hd]
  exact .inl h
theorem opD_store (i : Nat) (hi : ops[i]? = some oi) (hd : oi.dst = none) (hw : Region.wanted oi (yielded ops a.tmps) = true) (hrun : (execOp a.eval oi).run Try.prog w = .ok .skip w') (h : K a w') : wpOp Try.prog ops Q i K a w := by
  unfold Go.wpOp
  simp only [hi, hw, if_true, Oper.wp, hrun, Oper.upon, hd, Act.put]
  exact .inl h
end
/-- an operation that yields a value, in the walk -/
theorem wpList_val {w w' : World} {ops : Array Oper} {rest : List Oper} {o : Oper} {a : Act} {Q : Exit → Act → World → Prop} (hgd : o.guard = none) {v : Value} (hrun : (execOp a.eval o).run Try.prog w = .ok (.value v) w') (h : wpList Try.prog ops Q rest (a.put o.dst v) w') : wpList Try.prog ops Q (o :: rest) a w :=
  wpList_plain hgd fun K hK => by
    unfold Oper.wp
    rw [hrun]
    exact hK _ _ h
section
variable {ops : Array Oper} {Q : Exit → Act → World → Prop} {K : Act → World → Prop} {oi : Oper} {a : Act} {w w' : World}
theorem opD_call (i : Nat) (d : Tmp) (hi : ops[i]? = some oi) (hd : oi.dst = some d) (hw : Region.wanted oi (yielded ops a.tmps) = true) (F : FuncId) (vals : Array Value) (hrun : (execOp a.eval oi).run Try.prog w = .ok (.enter F vals) w') (R : Value → World → Prop) (hC : Calls Try.prog F vals w' fun e w2 => ∃ v, e = .returned v ∧ R v w2) (h : ∀ v w2, R v w2 → K (a.put (some d) v) w2) : wpOp Try.prog ops Q i K a w := by
  unfold Go.wpOp
  simp only [hi, hw, if_true, Oper.wp, hrun, Oper.upon, hd]
  refine .inl (hC.mono ?_)
  rintro _ w2 ⟨v, rfl, hR⟩
  exact h v w2 hR
end
theorem exec_gti {o : Oper} {w : World} {ev : Operand → Value} (x y : Operand) (t : TypeId) (a b : Int) (r : Bool) (ho : o.op = .binOp .gtr 3 x y t) (hx : ev x = .int .i64 a) (hy : ev y = .int .i64 b) (hr : decide (b < a) = r) : (execOp ev o).run Try.prog w = .ok (.value (.bool r)) w := by
  unfold execOp
  simp [ho, hx, hy, go_sem, hr]
theorem exec_len {o : Oper} {w : World} {ev : Operand → Value} (x : Operand) (t : TypeId) (a : Option Addr) (n c : Nat) (ht : Try.prog.underlying t = some (.slice (Try.prog.elem t))) (ho : o.op = .call { callee := .builtin .len, args := #[x], argTypes := #[t] }) (hx : ev x = .slice a n c) : (execOp ev o).run Try.prog w = .ok (.value (.int .i64 (n : Int))) w := by
  have e := run_len_slice (P := Try.prog) (w := w) t o.type a n c ht
  unfold execOp
  simp only [ho, resolve, invoke, builtin, Sem.run_bind, Sem.run_pure, Result.andThen_ok, List.map_toArray, List.map_cons, List.map_nil, hx, e]
  rfl
theorem results_3 {fn : Func} {p a b : Tmp} {T : TypeId} (h : fn.results = #[.tmp a, .tmp b, .cell p T]) (tmps : Array Value) (w : World) (s : Nat) (v va vb : Value) (hp : tmps.getD p undef = .pointer (some ⟨s, 0, none⟩)) (ha : tmps.getD a undef = va) (hb : tmps.getD b undef = vb) (hL : (loadVar T ⟨s, 0, none⟩).run Try.prog w = .ok v w) : (results fn tmps).run Try.prog w = .ok (.tuple #[va, vb, v]) w := by
  have hp' : (asAddr (tmps.getD p undef)).run Try.prog w = .ok ⟨s, 0, none⟩ w := by rw [hp]; rfl
  have hp2 : (asAddr (tmps[p]?.getD undef)).run Try.prog w = .ok ⟨s, 0, none⟩ w := by simpa using hp'
  have ha' : tmps[a]?.getD undef = va := by simpa using ha
  have hb' : tmps[b]?.getD undef = vb := by simpa using hb
  simp only [results, h]
  simp [Sem.run_bind, Result.andThen, hp2, hL, ha', hb']
section
variable {o : Oper} {w : World} {ev : Operand → Value}
theorem exec_eqI (x y : Operand) (t : TypeId) (p q : I4) (r : Bool) (ho : o.op = .binOp .eql 23 x y t) (hx : ev x = .agg p.vals.toArray) (hy : ev y = .agg q.vals.toArray) (hr : eqI p q = r) : (execOp ev o).run Try.prog w = .ok (.value (.bool r)) w := by
  subst hr
  have EM := eq_ip
  unfold execOp
  simp [ho, hx, hy, go_sem, I4.vals, EM]
theorem exec_zI (ho : o.op = .build 23 #[]) : (execOp ev o).run Try.prog w = .ok (.value (.agg zI.vals.toArray)) w := by
  unfold execOp
  rw [ho]
  kernel_rfl
end
theorem wrapI (n : Int) (h0 : -9223372036854775808 ≤ n) (h1 : n ≤ 9223372036854775807) : IntKind.i64.wrap n = n := by simp [IntKind.wrap, IntKind.bits, IntKind.signed]; omega
theorem exec_addi {o : Oper} {w : World} {ev : Operand → Value} (x y : Operand) (t : TypeId) (a b : Int) (ho : o.op = .binOp .add 3 x y t) (hx : ev x = .int .i64 a) (hy : ev y = .int .i64 b) (h0 : -9223372036854775808 ≤ a + b) (h1 : a + b ≤ 9223372036854775807) : (execOp ev o).run Try.prog w = .ok (.value (.int .i64 (a + b))) w := by
  have hw := wrapI (a + b) h0 h1
  unfold execOp
  simp [ho, hx, hy, go_sem, hw]
theorem oneU (w : World) : (isAgg 5).run Try.prog w = .ok false w := by kernel_rfl
theorem exec_ext {o : Oper} {w : World} {ev : Operand → Value} (x : Operand) (k : Nat) (vs : List Value) (v : Value) (ho : o.op = .extract x k) (hx : ev x = .tuple vs.toArray) (hk : vs[k]? = some v) : (execOp ev o).run Try.prog w = .ok (.value v) w := by
  unfold execOp
  simp [ho, hx, go_sem, hk]
theorem exec_copy {o : Oper} {w : World} {ev : Operand → Value} (d s : Operand) (t t' : TypeId) (ho : o.op = .call { callee := .builtin .copy, args := #[d, s], argTypes := #[t, t'] }) (v u : Value) (hd : ev d = v) (hs : ev s = u) {v' : Value} {w' : World}
    (ty : TypeId) (hty : o.type = ty) (hr : (Builtin.copy_ #[t, t'] ty #[v, u]).run Try.prog w = .ok v' w') : (execOp ev o).run Try.prog w = .ok (.value v') w' := by
  subst hty
  unfold execOp
  simp only [ho, resolve, invoke, builtin, Sem.run_bind, Sem.run_pure, Result.andThen_ok, List.map_toArray, List.map_cons, List.map_nil, hd, hs, hr]
theorem exec_slI {o : Oper} {w : World} {ev : Operand → Value} (x : Operand) (b p : Nat) (ho : o.op = .slice 23 x none none none) (hx : ev x = .pointer (some ⟨b, p, none⟩)) : (execOp ev o).run Try.prog w = .ok (.value (.slice (some ⟨b, p, none⟩) 4 4)) w := by
  unfold execOp
  simp [ho, hx, go_sem]
theorem exec_slB {o : Oper} {w : World} {ev : Operand → Value} (x y : Operand) (b off n c k : Nat) (ho : o.op = .slice 24 x (some y) none none) (hx : ev x = .slice (some ⟨b, off, none⟩) n c) (hy : ev y = .int .i64 (k : Int)) (hk : k < n) (hc : n ≤ c) : (execOp ev o).run Try.prog w = .ok (.value (.slice (some ⟨b, off + k, none⟩) (n - k) (c - k))) w := by
  have h1 : (k : Int) ≤ n := by omega
  have h2 : ¬ c = k := by omega
  unfold execOp
  simp [ho, hx, hy, go_sem, h1, h2]
theorem exec_nee {o : Oper} {w : World} {ev : Operand → Value} (x y : Operand) (t : TypeId) (a b : Int) (r : Bool) (ho : o.op = .binOp .neq 29 x y t) (hx : ev x = .int .i64 a) (hy : ev y = .int .i64 b) (hr : (!(a == b)) = r) : (execOp ev o).run Try.prog w = .ok (.value (.bool r)) w := by
  unfold execOp
  simp [ho, hx, hy, go_sem]
  rw [← hr]
  rfl
theorem exec_slT {o : Oper} {w : World} {ev : Operand → Value} (x y : Operand) (b off n c k : Nat) (ho : o.op = .slice 24 x none (some y) none) (hx : ev x = .slice (some ⟨b, off, none⟩) n c) (hy : ev y = .int .i64 (k : Int)) (hk : k ≤ n) (hc : n ≤ c) (h0 : 0 < c) : (execOp ev o).run Try.prog w = .ok (.value (.slice (some ⟨b, off, none⟩) k c)) w := by
  have h1 : (k : Int) ≤ c := by omega
  have h2 : ¬ c = 0 := by omega
  unfold execOp
  simp [ho, hx, hy, go_sem, h1, h2]

end Go.Proofs.Ytgempelfamjabaa
