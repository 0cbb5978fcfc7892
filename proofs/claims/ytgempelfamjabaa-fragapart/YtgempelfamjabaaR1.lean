
/-
  A region that draws its order, and only reckons, reads, makes memory and calls: whatever the order, each operation's value is what it is to be. Told once for all orders.
-/
import Derived.Test.YtgempelfamjabaaI1
namespace Go.Proofs.Ytgempelfamjabaa
open Go.RowKit Go.Shelf

theorem countP_lt {α : Type} (p q : α → Bool) : ∀ (l : List α), (∀ x ∈ l, q x = true → p x = true) → (∃ x ∈ l, p x = true ∧ q x = false) → l.countP q < l.countP p
  | [], _, h => by obtain ⟨x, hx, _⟩ := h; cases hx
  | y :: l, hs, h => by
    have hle : l.countP q ≤ l.countP p := List.countP_mono_left (fun x hx hq => hs x (List.mem_cons_of_mem _ hx) hq)
    obtain ⟨x, hx, h1, h2⟩ := h
    rcases List.mem_cons.1 hx with rfl | hx
    · rw [List.countP_cons_of_pos h1, List.countP_cons_of_neg (by rw [h2]; simp)]; omega
    · have := countP_lt p q l (fun x hx hq => hs x (List.mem_cons_of_mem _ hx) hq) ⟨x, hx, h1, h2⟩
      rw [List.countP_cons, List.countP_cons]
      have := hs y (List.mem_cons_self ..)
      cases hq : q y <;> cases hp : p y <;> simp_all
      omega
/-- how many have not come up yet -/
def unl (n : Nat) (listed : Array Bool) : Nat := (List.range n).countP (fun i => listed.getD i true == false)
theorem unl_step {n i : Nat} {listed : Array Bool} (hi : i < n) (hs : listed.size = n) (hf : listed.getD i true = false) : unl n (listed.setIfInBounds i true) < unl n listed := by
  refine countP_lt _ _ _ (fun x _ hq => ?_) ⟨i, List.mem_range.2 hi, by simp [hf], ?_⟩
  · by_cases e : i = x
    · subst e
      simp [Array.getD, hs, hi] at hq
    · simp only [beq_iff_eq] at hq ⊢
      rw [← hq]
      simp [Array.getD_eq_getD_getElem?, Array.getElem?_setIfInBounds_ne e]
  · simp [Array.getD, hs, hi]

/-- what holds when those that are listed have come up: each has what Φ says; all else is as it was -/
structure MInv (ops : Array Oper) (Φ : Nat → Value → World → Prop) (n0 : Nat) (a0 : Act) (w0 : World) (listed : Array Bool) (a : Act) (W : World) : Prop where
  bel : Below n0 w0 W
  dfr : a.defers = a0.defers
  siz : a.tmps.size = a0.tmps.size
  lsz : listed.size = ops.size
  got : ∀ i o d, ops[i]? = some o → listed.getD i false = true → o.dst = some d → Φ i (a.tmps.getD d undef) W
  old : ∀ t, (∀ i o, ops[i]? = some o → listed.getD i false = true → o.dst ≠ some t) → a.tmps.getD t undef = a0.tmps.getD t undef
  clo : ∀ (j : Nat) (o : Oper), ops[j]? = some o → listed.getD j false = true → ∀ e ∈ o.after, Region.binds .any e = true → listed.getD e.on false = true
/-- what a region must be: each operation has a place of its own, in the frame, and waits for earlier ones alone -/
def tidy (ops : Array Oper) (n : Nat) : Bool := (List.range ops.size).all fun i => match ops[i]? with
  | none => true
  | some o => (match o.dst with
    | none => decide (i + 1 = ops.size)
    | some d => decide (d < n) && (List.range i).all (fun j => match ops[j]? with
      | none => true
      | some p => p.dst != some d)) && o.after.all (fun e => decide (e.on < i)) && (match o.guard with
    | none => true
    | some g => o.after.any (fun e => e.on == g.1 && Region.binds .any e))
section
variable {ops : Array Oper} {Φ : Nat → Value → World → Prop} {n0 : Nat} {a0 : Act} {w0 : World} {listed : Array Bool} {a : Act} {W W' : World} {Q : Exit → Act → World → Prop}
theorem tidy_at {n i : Nat} {o : Oper} (h : tidy ops n = true) (ho : ops[i]? = some o) : (∀ d, o.dst = some d → d < n ∧ ∀ j p, j < i → ops[j]? = some p → p.dst ≠ some d) ∧ (∀ e ∈ o.after, e.on < i) ∧ (∀ g b, o.guard = some (g, b) → ∃ e ∈ o.after, e.on = g ∧ Region.binds .any e = true) ∧ (o.dst = none → i + 1 = ops.size) := by
  have hi := (Array.getElem?_eq_some_iff.1 ho).1
  have h1 := List.all_eq_true.1 h i (List.mem_range.2 hi)
  rw [ho] at h1
  simp only [Bool.and_eq_true] at h1
  obtain ⟨⟨h1, h2⟩, h3⟩ := h1
  refine ⟨fun d hd => ?_, fun e he => ?_, fun g b hg => ?_, fun hd => ?_⟩
  · rw [hd] at h1
    simp only [Bool.and_eq_true, decide_eq_true_eq] at h1
    refine ⟨h1.1, fun j p hj hp => ?_⟩
    have := List.all_eq_true.1 h1.2 j (List.mem_range.2 hj)
    rw [hp] at this
    simpa using this
  · have := Array.all_eq_true'.1 h2 e he
    simpa using this
  · rw [hg] at h3
    obtain ⟨e, he, h4⟩ := Array.any_eq_true'.1 h3
    simp only [Bool.and_eq_true, beq_iff_eq] at h4
    exact ⟨e, he, h4.1, h4.2⟩
  · rw [hd] at h1
    simpa using h1
theorem tidy_inj {n i j : Nat} {o p : Oper} {d : Tmp} (h : tidy ops n = true) (ho : ops[i]? = some o) (hp : ops[j]? = some p) (h1 : o.dst = some d) (h2 : p.dst = some d) : i = j := by
  obtain ⟨k1, _⟩ := tidy_at h ho
  obtain ⟨k2, _⟩ := tidy_at h hp
  have k1 := (k1 d h1).2
  have k2 := (k2 d h2).2
  rcases Nat.lt_trichotomy i j with h | h | h
  · exact absurd h1 (k2 i o h ho)
  · exact h
  · exact absurd h2 (k1 j p h hp)
theorem MInv.put {i : Nat} {o : Oper} {d : Tmp} {v : Value} (hM : MInv ops Φ n0 a0 w0 listed a W) (ht : tidy ops a0.tmps.size = true) (hmono : ∀ i v W W', Φ i v W → Below W.heap.size W W' → Φ i v W') (hn : n0 ≤ W.heap.size) (ho : ops[i]? = some o) (hd : o.dst = some d) (hall : ∀ e ∈ o.after, Region.binds .any e = true → listed.getD e.on false = true) (hb : Below W.heap.size W W') (hΦ : Φ i v W') :
    MInv ops Φ n0 a0 w0 (listed.setIfInBounds i true) (a.put (some d) v) W' := by
  have hi := (Array.getElem?_eq_some_iff.1 ho).1
  have hdl := ((tidy_at ht ho).1 d hd).1
  have hset : ∀ j, j ≠ i → (listed.setIfInBounds i true).getD j false = listed.getD j false := fun j hj => by
    simp [Array.getD_eq_getD_getElem?, Array.getElem?_setIfInBounds_ne (Ne.symm hj)]
  have hself : (listed.setIfInBounds i true).getD i false = true := by
    simp [Array.getD, hM.lsz, hi]
  refine ⟨hM.bel.trans (hb.mono hn), hM.dfr, by simp [Act.put, hM.siz], by simp [hM.lsz], fun j p e hp hl he => ?_, fun t hold => ?_, fun j p hp hl e he hbe => ?_⟩
  · by_cases hj : j = i
    · subst hj
      rw [ho] at hp
      cases hp
      rw [hd] at he
      cases he
      have : (a.tmps.setIfInBounds d v).getD d undef = v := by simp [Array.getD, hM.siz, hdl]
      show Φ j ((a.tmps.setIfInBounds d v).getD d undef) W'
      rw [this]
      exact hΦ
    · rw [hset j hj] at hl
      have hne : d ≠ e := fun e2 => by
        subst e2
        exact hj (tidy_inj ht hp ho he hd)
      have : (a.tmps.setIfInBounds d v).getD e undef = a.tmps.getD e undef := by simp [Array.getD_eq_getD_getElem?, Array.getElem?_setIfInBounds_ne hne]
      show Φ j ((a.tmps.setIfInBounds d v).getD e undef) W'
      rw [this]
      exact hmono _ _ _ _ (hM.got j p e hp hl he) hb
  · have hne : d ≠ t := fun e2 => by
      subst e2
      exact hold i o ho hself hd
    have : (a.tmps.setIfInBounds d v).getD t undef = a.tmps.getD t undef := by simp [Array.getD_eq_getD_getElem?, Array.getElem?_setIfInBounds_ne hne]
    show (a.tmps.setIfInBounds d v).getD t undef = _
    rw [this]
    refine hM.old t (fun j p hp hl => ?_)
    by_cases hj : j = i
    · subst hj
      rw [ho] at hp
      cases hp
      rw [hd]
      intro e2
      cases e2
      exact hne rfl
    · exact hold j p hp (by rw [hset j hj]; exact hl)
  · have mono : ∀ q, listed.getD q false = true → (listed.setIfInBounds i true).getD q false = true := fun q hq => by
      by_cases e3 : q = i
      · rw [e3]; exact hself
      · rw [hset q e3]; exact hq
    by_cases hj : j = i
    · subst hj
      rw [ho] at hp
      cases hp
      exact mono _ (hall e he hbe)
    · rw [hset j hj] at hl
      exact mono _ (hM.clo j p hp hl e he hbe)
/-- an operation's value; a call's -/
def Step (Φ : Nat → Value → World → Prop) (i : Nat) (o : Oper) (a : Act) (W : World) : Prop :=
  (∃ v W', (execOp a.eval o).run Try.prog W = .ok (.value v) W' ∧ Below W.heap.size W W' ∧ Φ i v W') ∨
  ∃ F args, (execOp a.eval o).run Try.prog W = .ok (.enter F args) W ∧ Calls Try.prog F args W fun e W' => ∃ v, e = .returned v ∧ Φ i v W' ∧ Below W.heap.size W W'
theorem Step.of {i : Nat} {o oi : Oper} (hi : ops[i]? = some oi) (h : Step Φ i oi a W) (ho : ops[i]? = some o) : Step Φ i o a W := by
  rw [hi] at ho
  cases ho
  exact h
theorem MInv.step {i : Nat} {o : Oper} {K : Act → World → Prop} (hM : MInv ops Φ n0 a0 w0 listed a W) (ht : tidy ops a0.tmps.size = true) (hmono : ∀ i v W W', Φ i v W → Below W.heap.size W W' → Φ i v W') (hn : n0 ≤ W.heap.size) (ho : ops[i]? = some o) (hdn : o.dst ≠ none) (hr : i ∈ Region.ready .any ops listed) (hw : Region.wanted o (yielded ops a.tmps) = true) (hs : Step Φ i o a W)
    (hK : ∀ a' W', MInv ops Φ n0 a0 w0 (listed.setIfInBounds i true) a' W' → K a' W') : wpOp Try.prog ops Q i K a W := by
  obtain ⟨d, hd⟩ := Option.ne_none_iff_exists'.1 hdn
  have hall : ∀ e ∈ o.after, Region.binds .any e = true → listed.getD e.on false = true := by
    obtain ⟨_, o', ho', h⟩ := mem_ready.1 hr
    rw [ho] at ho'
    cases ho'
    exact h
  unfold Go.wpOp
  rcases hs with ⟨v, W', hrun, hb, hΦ⟩ | ⟨F, args, hrun, hC⟩
  · simp only [ho, hw, if_true, Oper.wp, hrun, Oper.upon, hd]
    exact .inl (hK _ _ (hM.put ht hmono hn ho hd hall hb hΦ))
  · simp only [ho, hw, if_true, Oper.wp, hrun, Oper.upon, hd]
    refine .inl (hC.mono ?_)
    rintro _ W' ⟨v, rfl, hΦ, hb⟩
    exact hK _ _ (hM.put ht hmono hn ho hd hall hb hΦ)
/-- each guard is met: what it reads says so -/
theorem MInv.wants {i : Nat} {o : Oper} (hM : MInv ops Φ n0 a0 w0 listed a W) (ht : tidy ops a0.tmps.size = true) (hgd : ∀ (i : Nat) (o : Oper) (g : Nat) (b : Bool), ops[i]? = some o → o.guard = some (g, b) → ∀ v W, Φ g v W → v = .bool b) (hr : i ∈ Region.ready .any ops listed) (ho : ops[i]? = some o) : Region.wanted o (yielded ops a.tmps) = true := by
  cases hg : o.guard with
  | none => simp [Region.wanted, hg]
  | some gb =>
    obtain ⟨g, b⟩ := gb
    obtain ⟨_, hbk, hgu, _⟩ := tidy_at ht ho
    obtain ⟨e, he, h1, h2⟩ := hgu g b hg
    obtain ⟨_, o', ho', hall⟩ := mem_ready.1 hr
    rw [ho] at ho'
    cases ho'
    have hl := hall e he h2
    have hlt := hbk e he
    rw [h1] at hl hlt
    have hi := (Array.getElem?_eq_some_iff.1 ho).1
    obtain ⟨p, hp⟩ : ∃ p, ops[g]? = some p := ⟨_, Array.getElem?_eq_getElem (by omega)⟩
    cases hd : p.dst with
    | none =>
      have := (tidy_at ht hp).2.2.2 hd
      omega
    | some d =>
      have hv := hgd i o g b ho hg _ _ (hM.got g p d hp hl hd)
      have hdl : d < a.tmps.size := by rw [hM.siz]; exact ((tidy_at ht hp).1 d hd).1
      have h3 : a.tmps[d]? = some (.bool b) := by
        rw [← hv]
        simp [Array.getD, hdl]
      simp [Region.wanted, hg, yielded, hp, hd, h3]
theorem MInv.all_listed {n : Nat} (hM : MInv ops Φ n0 a0 w0 listed a W) (ht : tidy ops n = true) (hr : Region.ready .any ops listed = []) : ∀ i, i < ops.size → listed.getD i false = true := by
  intro i
  induction i using Nat.strongRecOn with
  | ind i ih =>
    intro hi
    obtain ⟨o, ho⟩ : ∃ o, ops[i]? = some o := ⟨_, Array.getElem?_eq_getElem hi⟩
    obtain ⟨_, hbk, _⟩ := tidy_at ht ho
    cases hc : listed.getD i false with
    | true => rfl
    | false =>
      have hc2 : listed.getD i true = false := by
        simp [Array.getD, hM.lsz, hi] at hc ⊢
        exact hc
      have : i ∈ Region.ready .any ops listed := mem_ready.2 ⟨hc2, o, ho, fun e he _ => ih e.on (hbk e he) (by have := hbk e he; omega)⟩
      rw [hr] at this
      cases this
/-- a value that an operation reads: of another one of the region, or of the frame -/
theorem MInv.use {i j : Nat} {o p : Oper} {d : Tmp} (hM : MInv ops Φ n0 a0 w0 listed a W) (hr : i ∈ Region.ready .any ops listed) (ho : ops[i]? = some o) (hj : o.after.any (fun e => e.on == j && Region.binds .any e) = true) (hp : ops[j]? = some p) (hd : p.dst = some d) : Φ j (a.eval (.tmp d)) W := by
  obtain ⟨_, o', ho', hall⟩ := mem_ready.1 hr
  rw [ho] at ho'
  cases ho'
  obtain ⟨e, he, h2⟩ := Array.any_eq_true'.1 hj
  simp only [Bool.and_eq_true, beq_iff_eq] at h2
  have := hall e he h2.2
  rw [h2.1] at this
  exact hM.got j p d hp this hd
theorem MInv.keep {t : Tmp} (hM : MInv ops Φ n0 a0 w0 listed a W) (ht : ops.all (fun o => o.dst != some t) = true) : a.eval (.tmp t) = a0.eval (.tmp t) :=
  hM.old t (fun i o ho _ => by
    have := Array.all_eq_true'.1 ht o (Array.mem_of_getElem? ho)
    simpa using this)
/-- a slot that is written later alone -/
theorem MInv.keepB {i : Nat} {t : Tmp} (hM : MInv ops Φ n0 a0 w0 listed a W) (hr : i ∈ Region.ready .any ops listed) (ht : ops.all (fun o => o.dst != some t || o.after.any (fun e => e.on == i && Region.binds .any e)) = true) : a.eval (.tmp t) = a0.eval (.tmp t) :=
  hM.old t (fun j o ho hl hd => by
    have := Array.all_eq_true'.1 ht o (Array.mem_of_getElem? ho)
    rw [hd] at this
    simp only [bne_self_eq_false, Bool.false_or] at this
    obtain ⟨e, he, h2⟩ := Array.any_eq_true'.1 this
    simp only [Bool.and_eq_true, beq_iff_eq] at h2
    have h3 := hM.clo j o ho hl e he h2.2
    rw [h2.1] at h3
    obtain ⟨hf, o', ho', _⟩ := mem_ready.1 hr
    have hi := (Array.getElem?_eq_some_iff.1 ho').1
    simp [Array.getD, hM.lsz, hi] at hf h3
    rw [h3] at hf
    cases hf)
/-- the frame behind it -/
def fill (D : List Tmp) (a a0 : Act) : Act := D.foldl (fun (b : Act) d => b.put (some d) (a.tmps.getD d undef)) a0
theorem fill_siz (D : List Tmp) (a : Act) : ∀ b : Act, (D.foldl (fun (b : Act) d => b.put (some d) (a.tmps.getD d undef)) b).tmps.size = b.tmps.size := by
  induction D with
  | nil => intro b; rfl
  | cons d D ih => intro b; rw [List.foldl_cons, ih]; simp [Act.put]
theorem fill_dfr (D : List Tmp) (a : Act) : ∀ b : Act, (D.foldl (fun (b : Act) d => b.put (some d) (a.tmps.getD d undef)) b).defers = b.defers := by
  induction D with
  | nil => intro b; rfl
  | cons d D ih => intro b; rw [List.foldl_cons, ih]; simp [Act.put]
theorem fill_at (D : List Tmp) (a : Act) (t : Nat) : ∀ b : Act, (t ∉ D → a.tmps.getD t undef = b.tmps.getD t undef) → t < b.tmps.size → (D.foldl (fun (b : Act) d => b.put (some d) (a.tmps.getD d undef)) b).tmps.getD t undef = a.tmps.getD t undef := by
  induction D with
  | nil => intro b h _; exact (h (by simp)).symm
  | cons d D ih =>
    intro b h hl
    rw [List.foldl_cons]
    refine ih _ (fun hn => ?_) (by simpa [Act.put] using hl)
    by_cases e : t = d
    · subst e
      show _ = (b.tmps.setIfInBounds t (a.tmps.getD t undef)).getD t undef
      simp [Array.getD, hl]
    · rw [h (by simp [e, hn])]
      show _ = (b.tmps.setIfInBounds d (a.tmps.getD d undef)).getD t undef
      simp [Array.getD_eq_getD_getElem?, Array.getElem?_setIfInBounds_ne (Ne.symm e)]
theorem MInv.lit (hM : MInv ops Φ n0 a0 w0 listed a W) (D : List Tmp) (hD : ops.all (fun o => match o.dst with | none => true | some d => D.contains d) = true) : a = fill D a a0 := by
  obtain ⟨tm, df⟩ := a
  have h1 : (fill D ⟨tm, df⟩ a0).defers = df := (fill_dfr D _ a0).trans hM.dfr.symm
  have h2 : (fill D ⟨tm, df⟩ a0).tmps = tm := by
    have hs : (fill D ⟨tm, df⟩ a0).tmps.size = tm.size := (fill_siz D _ a0).trans hM.siz.symm
    refine Array.ext hs (fun t h3 h4 => ?_)
    have h5 := fill_at D ⟨tm, df⟩ t a0 (fun hn => hM.old t (fun i o ho _ e => hn (by
      have := Array.all_eq_true'.1 hD o (Array.mem_of_getElem? ho)
      rw [e] at this
      simpa using this))) (by have := hM.siz; show t < a0.tmps.size; have h6 : tm.size = a0.tmps.size := this; omega)
    have h7 : (fill D ⟨tm, df⟩ a0).tmps.getD t undef = tm.getD t undef := h5
    simpa [Array.getD, h3, h4] using h7
  cases hf : fill D ⟨tm, df⟩ a0 with
  | mk x y =>
    rw [hf] at h1 h2
    cases h1
    cases h2
    rfl
end
theorem exec_callF {o : Oper} {w : World} {ev : Operand → Value} (F : FuncId) (xs : Array Operand) (ts : Array TypeId) (vals : Array Value) (ho : o.op = .call { callee := .value (.func F), args := xs, argTypes := ts }) (hv : xs.map ev = vals) (eg : ∀ args w, (callFunc F args).run Try.prog w = .ok (.enter F args) w) (hf : ev (.func F) = .func (.func F) #[] #[] := by rfl) : (execOp ev o).run Try.prog w = .ok (.enter F vals) w := by
  unfold execOp
  simp [ho, resolve, invoke, go_sem, eg, hv, hf]
theorem map1 {ev : Operand → Value} {x : Operand} {a : Value} (h : ev x = a) : (#[x] : Array Operand).map ev = #[a] := by simp [h]
theorem map2 {ev : Operand → Value} {x y : Operand} {a b : Value} (h : ev x = a) (h2 : ev y = b) : (#[x, y] : Array Operand).map ev = #[a, b] := by simp [h, h2]
theorem map3 {ev : Operand → Value} {x y z : Operand} {a b c : Value} (h : ev x = a) (h2 : ev y = b) (h3 : ev z = c) : (#[x, y, z] : Array Operand).map ev = #[a, b, c] := by simp [h, h2, h3]
theorem map4 {ev : Operand → Value} {x y z u : Operand} {a b c d : Value} (h : ev x = a) (h2 : ev y = b) (h3 : ev z = c) (h4 : ev u = d) : (#[x, y, z, u] : Array Operand).map ev = #[a, b, c, d] := by simp [h, h2, h3, h4]
theorem no_guard {ops : Array Oper} {Φ : Nat → Value → World → Prop} (h : ops.all (fun o => o.guard.isNone) = true) : ∀ (i : Nat) (o : Oper) (g : Nat) (b : Bool), ops[i]? = some o → o.guard = some (g, b) → ∀ v W, Φ g v W → v = .bool b := fun i o g b ho hg => by
  have := Array.all_eq_true'.1 h o (Array.mem_of_getElem? ho)
  rw [hg] at this
  cases this
theorem some_guard {ops : Array Oper} {Φ : Nat → Value → World → Prop} (G : List (Nat × Bool)) (h : ops.all (fun o => match o.guard with | none => true | some p => G.contains p) = true) (hG : ∀ p ∈ G, ∀ v W, Φ p.1 v W → v = .bool p.2) : ∀ (i : Nat) (o : Oper) (g : Nat) (b : Bool), ops[i]? = some o → o.guard = some (g, b) → ∀ v W, Φ g v W → v = .bool b := fun i o g b ho hg => by
  have := Array.all_eq_true'.1 h o (Array.mem_of_getElem? ho)
  rw [hg] at this
  exact hG (g, b) (by simpa using this)
/-- WHATEVER THE ORDER -/
theorem region_grow {id : Nat} {ops : Array Oper} {Q : Exit → Act → World → Prop} {a0 : Act} {w : World} (Φ : Nat → Value → World → Prop) (hm : Try.prog.follows .mixedOrders = true) (ht : tidy ops a0.tmps.size = true) (hnl : ops.all (fun o => o.dst.isSome) = true) (hgd : ∀ (i : Nat) (o : Oper) (g : Nat) (b : Bool), ops[i]? = some o → o.guard = some (g, b) → ∀ v W, Φ g v W → v = .bool b) (hmono : ∀ i v W W', Φ i v W → Below W.heap.size W W' → Φ i v W')
    (hstep : ∀ listed a W, MInv ops Φ w.heap.size a0 w.drew listed a W → w.heap.size ≤ W.heap.size → ∀ i o, ops[i]? = some o → i ∈ Region.ready .any ops listed → Step Φ i o a W)
    (hdone : ∀ listed a W, MInv ops Φ w.heap.size a0 w.drew listed a W → (∀ i, i < ops.size → listed.getD i false = true) → Q .normal a W) : (Code.region id ops true).wp Try.prog Q a0 w := by
  refine wp_region_any hm ?_
  have key : ∀ (fuel : Nat) (listed : Array Bool) (a : Act) (W : World), unl ops.size listed ≤ fuel → MInv ops Φ w.heap.size a0 w.drew listed a W → wpAny Try.prog .any ops Q fuel listed a W := by
    intro fuel
    induction fuel with
    | zero =>
      intro listed a W hu hM
      have hr : Region.ready .any ops listed = [] := by
        cases hq : Region.ready .any ops listed with
        | nil => rfl
        | cons i r =>
          have hi : i ∈ Region.ready .any ops listed := by rw [hq]; simp
          obtain ⟨hf, o, ho, _⟩ := mem_ready.1 hi
          have := unl_step (Array.getElem?_eq_some_iff.1 ho).1 hM.lsz hf
          omega
      exact ⟨hr, hdone listed a W hM (hM.all_listed ht hr)⟩
    | succ fuel ih =>
      intro listed a W hu hM
      refine ⟨fun hr => hdone listed a W hM (hM.all_listed ht hr), fun i hi => ?_⟩
      obtain ⟨hf, o, ho, _⟩ := mem_ready.1 hi
      have hn : w.heap.size ≤ W.heap.size := hM.bel.size
      refine hM.step ht hmono hn ho (by have := Array.all_eq_true'.1 hnl o (Array.mem_of_getElem? ho); intro e; rw [e] at this; cases this) hi (hM.wants ht hgd hi ho) (hstep listed a W hM hn i o ho hi) (fun a' W' hM' => ih _ a' W' ?_ hM')
      have := unl_step (Array.getElem?_eq_some_iff.1 ho).1 hM.lsz hf
      omega
  refine key _ _ _ _ ?_ ⟨Below.refl _ _, rfl, rfl, by simp, fun i o d ho hl _ => ?_, fun t _ => rfl, fun j o ho hl => ?_⟩
  · unfold unl
    exact Nat.le_trans List.countP_le_length (by simp)
  · have hi := (Array.getElem?_eq_some_iff.1 ho).1
    simp [Array.getD, hi] at hl
  · have hi := (Array.getElem?_eq_some_iff.1 ho).1
    simp [Array.getD, hi] at hl
/-- each operation but the last is waited for by a later one -/
def fed (ops : Array Oper) : Bool := (List.range ops.size).all fun i => decide (i + 1 = ops.size) || (List.range ops.size).any fun j => decide (i < j) && match ops[j]? with
  | none => false
  | some o => o.after.any (fun e => e.on == i && Region.binds .any e)
theorem fed_at {ops : Array Oper} {i : Nat} (h : fed ops = true) (hi : i + 1 < ops.size) : ∃ j o e, i < j ∧ ops[j]? = some o ∧ e ∈ o.after ∧ e.on = i ∧ Region.binds .any e = true := by
  have h1 := List.all_eq_true.1 h i (List.mem_range.2 (by omega))
  rw [decide_eq_false (by omega), Bool.false_or] at h1
  obtain ⟨j, hj, h2⟩ := List.any_eq_true.1 h1
  simp only [Bool.and_eq_true, decide_eq_true_eq] at h2
  cases ho : ops[j]? with
  | none => rw [ho] at h2; cases h2.2
  | some o =>
    rw [ho] at h2
    obtain ⟨e, he, h3⟩ := Array.any_eq_true'.1 h2.2
    simp only [Bool.and_eq_true, beq_iff_eq] at h3
    exact ⟨j, o, e, h2.1, ho, he, h3.1, h3.2⟩
/-- the same, with a store that comes last -/
theorem region_grow_store {id : Nat} {ops : Array Oper} {Q : Exit → Act → World → Prop} {a0 : Act} {w : World} (Φ : Nat → Value → World → Prop) (hm : Try.prog.follows .mixedOrders = true) (ht : tidy ops a0.tmps.size = true) (hfed : fed ops = true) (L : Nat) (hL : ops.size = L + 1) (oL : Oper) (hoL : ops[L]? = some oL) (hdL : oL.dst = none) (hgd : ∀ (i : Nat) (o : Oper) (g : Nat) (b : Bool), ops[i]? = some o → o.guard = some (g, b) → ∀ v W, Φ g v W → v = .bool b) (hmono : ∀ i v W W', Φ i v W → Below W.heap.size W W' → Φ i v W')
    (hstep : ∀ listed a W, MInv ops Φ w.heap.size a0 w.drew listed a W → w.heap.size ≤ W.heap.size → ∀ i o, ops[i]? = some o → i < L → i ∈ Region.ready .any ops listed → Step Φ i o a W)
    (hdone : ∀ listed a W, MInv ops Φ w.heap.size a0 w.drew listed a W → (∀ i, i < L → listed.getD i false = true) → ∃ W', (execOp a.eval oL).run Try.prog W = .ok .skip W' ∧ Q .normal a W') : (Code.region id ops true).wp Try.prog Q a0 w := by
  refine wp_region_any hm ?_
  have hL1 : L < ops.size := by omega
  have allL : ∀ listed : Array Bool, listed.size = ops.size → (∀ j o, ops[j]? = some o → listed.getD j false = true → ∀ e ∈ o.after, Region.binds .any e = true → listed.getD e.on false = true) → L ∈ Region.ready .any ops listed → ∀ k i, i + k = L → i < L → listed.getD i false = true := by
    intro listed hs hcl hr k
    induction k using Nat.strongRecOn with
    | ind k ih =>
      intro i hk hi
      obtain ⟨j, o, e, hij, ho, he, hei, hbe⟩ := fed_at hfed (i := i) (by omega)
      have hj := (Array.getElem?_eq_some_iff.1 ho).1
      by_cases e2 : j = L
      · subst e2
        obtain ⟨_, o', ho', hall⟩ := mem_ready.1 hr
        rw [ho] at ho'
        cases ho'
        have := hall e he hbe
        rw [hei] at this
        exact this
      · have := ih (L - j) (by omega) j (by omega) (by omega)
        have := hcl j o ho this e he hbe
        rw [hei] at this
        exact this
  have key : ∀ (fuel : Nat) (listed : Array Bool) (a : Act) (W : World), unl ops.size listed ≤ fuel → listed.getD L true = false → (∀ j o, ops[j]? = some o → listed.getD j false = true → ∀ e ∈ o.after, Region.binds .any e = true → listed.getD e.on false = true) → MInv ops Φ w.heap.size a0 w.drew listed a W → wpAny Try.prog .any ops Q fuel listed a W := by
    intro fuel
    induction fuel with
    | zero =>
      intro listed a W hu hLf _ hM
      have h0 := unl_step hL1 hM.lsz hLf
      omega
    | succ fuel ih =>
      intro listed a W hu hLf hcl hM
      refine ⟨fun hr => ?_, fun i hi => ?_⟩
      · have := hM.all_listed ht hr L hL1
        simp [Array.getD, hM.lsz, hL1] at this hLf
        rw [this] at hLf
        cases hLf
      obtain ⟨hf, o, ho, hall⟩ := mem_ready.1 hi
      have hn : w.heap.size ≤ W.heap.size := hM.bel.size
      have hio := (Array.getElem?_eq_some_iff.1 ho).1
      by_cases e : i = L
      · subst e
        rw [hoL] at ho
        cases ho
        have hl : ∀ j, j < i → listed.getD j false = true := fun j hj => allL listed hM.lsz hcl hi (i - j) j (by omega) hj
        obtain ⟨W', hrun, hQ⟩ := hdone listed a W hM hl
        have hw : Region.wanted oL (yielded ops a.tmps) = true := hM.wants ht hgd hi hoL
        have hr0 : Region.ready .any ops (listed.setIfInBounds i true) = [] := by
          cases hq : Region.ready .any ops (listed.setIfInBounds i true) with
          | nil => rfl
          | cons j r =>
            have hj : j ∈ Region.ready .any ops (listed.setIfInBounds i true) := by rw [hq]; simp
            obtain ⟨hjf, oj, hoj, _⟩ := mem_ready.1 hj
            have hjs := (Array.getElem?_eq_some_iff.1 hoj).1
            by_cases e2 : j = i
            · subst e2
              simp [Array.getD, hM.lsz, hjs] at hjf
            · have h5 := hl j (by omega)
              simp [Array.getD_eq_getD_getElem?, Array.getElem?_setIfInBounds_ne (Ne.symm e2)] at hjf
              simp [Array.getD_eq_getD_getElem?] at h5
              cases hx : listed[j]? with
              | none => rw [hx] at hjf; simp at hjf
              | some b => rw [hx] at hjf h5; simp at hjf h5; rw [h5] at hjf; cases hjf
        unfold Go.wpOp
        simp only [hoL, hw, if_true, Oper.wp, hrun, Oper.upon, hdL, Act.put]
        refine .inl ?_
        cases fuel with
        | zero => exact ⟨hr0, hQ⟩
        | succ f => exact ⟨fun _ => hQ, by rw [hr0]; simp⟩
      · have hdn : o.dst ≠ none := fun e2 => by
          have := (tidy_at ht ho).2.2.2 e2
          omega
        refine hM.step ht hmono hn ho hdn hi (hM.wants ht hgd hi ho) (hstep listed a W hM hn i o ho (by omega) hi) (fun a' W' hM' => ih _ a' W' ?_ ?_ (fun j oj hoj hlj => ?_) hM')
        · have := unl_step hio hM.lsz hf
          omega
        · rw [← hLf]
          simp [Array.getD_eq_getD_getElem?, Array.getElem?_setIfInBounds_ne e]
        · have mono : ∀ q, listed.getD q false = true → (listed.setIfInBounds i true).getD q false = true := fun q hq => by
            by_cases e3 : i = q
            · subst e3
              simp [Array.getD, hM.lsz, hio]
            · rw [← hq]
              simp [Array.getD_eq_getD_getElem?, Array.getElem?_setIfInBounds_ne e3]
          intro x hx hb
          by_cases e3 : j = i
          · subst e3
            rw [ho] at hoj
            cases hoj
            exact mono _ (hall x hx hb)
          · refine mono _ (hcl j oj hoj ?_ x hx hb)
            rw [← hlj]
            simp [Array.getD_eq_getD_getElem?, Array.getElem?_setIfInBounds_ne (Ne.symm e3)]
  refine key _ _ _ _ ?_ ?_ (fun j o ho hl => ?_) ⟨Below.refl _ _, rfl, rfl, by simp, fun i o d ho hl _ => ?_, fun t _ => rfl, fun j o ho hl => ?_⟩
  · unfold unl
    exact Nat.le_trans List.countP_le_length (by simp)
  · simp [Array.getD, hL1]
  · have hi := (Array.getElem?_eq_some_iff.1 ho).1
    simp [Array.getD, hi] at hl
  · have hi := (Array.getElem?_eq_some_iff.1 ho).1
    simp [Array.getD, hi] at hl
  · have hi := (Array.getElem?_eq_some_iff.1 ho).1
    simp [Array.getD, hi] at hl
end Go.Proofs.Ytgempelfamjabaa
