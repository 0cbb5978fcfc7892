
/-
  Regions that draw their order: loads whose cells a last store turns. Package arp: one neighbour more; literals.
-/
import Derived.Test.YtdcpnjlldocdcaaA20
namespace Go.Proofs.Ytdcpnjlldocdcaa
open Go.RowKit Go.Shelf

/-! A load may be taken first although a later store turns its cell, if that store waits for the load: S is asked behind those operations alone that may come ahead of it (D). -/
section
variable {ops : Array Oper} {Q : Exit → Act → World → Prop} {md : Region.Mode} {S : World → Prop} {D : Nat → Bool}
def wpAnyJ (D : Nat → Bool) (md : Region.Mode) (ops : Array Oper) (Q : Exit → Act → World → Prop) (S : World → Prop) : Nat → Array Bool → Act → World → Prop
  | 0, listed, a, w => Region.ready md ops listed = [] ∧ Q .normal a w
  | fuel + 1, listed, a, w => (Region.ready md ops listed = [] → Q .normal a w) ∧ ∀ i ∈ Region.ready md ops listed, wpOp Try.prog ops Q i (fun a' w' => (D i = true → S w') ∧ wpAnyJ D md ops Q S fuel (listed.setIfInBounds i true) a' w') a w
theorem wpAny_of_J : ∀ (fuel : Nat) (listed : Array Bool) (a : Act) (w : World), wpAnyJ D md ops Q S fuel listed a w → wpAny Try.prog md ops Q fuel listed a w
  | 0, _, _, _, h => h
  | fuel + 1, _, _, _, h => ⟨h.1, fun i hi => wpOp_mono (fun a' w' h' => wpAny_of_J fuel _ a' w' h'.2) (h.2 i hi)⟩
/-- whoever is ready while i is not listed does not wait for i -/
theorem not_after {i j : Nat} {listed : Array Bool} {oj : Oper} (hi : i ∈ Region.ready md ops listed) (hj : j ∈ Region.ready md ops listed) (hoj : ops[j]? = some oj) : ∀ e ∈ oj.after, Region.binds md e = true → e.on ≠ i := by
  intro e he hb heq
  obtain ⟨_, o', ho', hall⟩ := mem_ready.1 hj
  rw [hoj] at ho'
  cases ho'
  have h1 := hall e he hb
  have h0 := (mem_ready.1 hi).1
  rw [heq] at h1
  by_cases hl : i < listed.size
  · simp [hl] at h0 h1
    rw [h0] at h1
    cases h1
  · simp [Array.getElem?_eq_none (Nat.le_of_not_lt hl)] at h1
theorem takeJ_first {i : Nat} {oi : Oper} {v : Value} (hi : ops[i]? = some oi) (hsel : ∀ (j : Nat) (o : Oper) cs b, ops[j]? = some o → o.op ≠ .select cs b) (hQ : ∀ c a w, Q (.panic c) (a.put oi.dst v) w → Q (.panic c) a w)
    (hD : ∀ j oj, ops[j]? = some oj → D j = false → ∃ e ∈ oj.after, Region.binds md e = true ∧ e.on = i) : ∀ (fuel : Nat) (listed : Array Bool) (a : Act) (w : World),
      (∀ j oj, ops[j]? = some oj → j ≠ i → listed.getD j true = false → (∀ e ∈ oj.after, Region.binds md e = true → e.on ≠ i) → oi.apart ops oj = true) →
      i ∈ Region.ready md ops listed → YieldsIf Try.prog ops S oi v a → S w → wpAnyJ D md ops Q S fuel (listed.setIfInBounds i true) (a.put oi.dst v) w → wpAnyJ D md ops Q S (fuel + 1) listed a w
  | fuel, listed, a, w, hap, hr, hy, hS, H => by
    refine ⟨fun h0 => (by rw [h0] at hr; cases hr), fun j hj => ?_⟩
    by_cases hji : j = i
    · subst hji
      exact hy.wpOp hi hS ⟨fun _ => hS, H⟩
    · obtain ⟨hun, oj, hoj, _⟩ := mem_ready.1 hj
      have hna := not_after hr hj hoj
      have hDj : D j = true := by
        cases hd : D j with
        | true => rfl
        | false =>
          obtain ⟨e, he, hb, heq⟩ := hD j oj hoj hd
          exact absurd heq (hna e he hb)
      cases fuel with
      | zero =>
        have hm := ready_mono hj hji
        rw [H.1] at hm
        cases hm
      | succ fuel =>
        have h1 := wpOp_putIf hoj (hap j oj hoj hji hun hna) (fun cs b => hsel i oi cs b hi) (fun cs b => hsel j oj cs b hoj) hQ hy (H.2 j (ready_mono hj hji))
        refine wpOp_mono (fun a' w' h2 => ⟨h2.2.1, takeJ_first hi hsel hQ hD fuel _ a' w' (fun q oq hq hqi hu hn => hap q oq hq hqi ?_ hn) (ready_mono hr (Ne.symm hji)) h2.1 (h2.2.1 hDj) ?_⟩) h1
        · by_cases hjq : j = q
          · rw [← hjq]; exact hun
          · rw [getD_set_ne true hjq] at hu; exact hu
        · rw [Array.setIfInBounds_comm _ _ hji]; exact h2.2.2
/-- does everything that D leaves out wait for i? -/
def waits (D : Nat → Bool) (md : Region.Mode) (ops : Array Oper) (i : Nat) : Bool := (List.range ops.size).all fun j => D j || match ops[j]? with
  | some o => o.after.any fun e => Region.binds md e && e.on == i
  | none => true
theorem waits_spec {i : Nat} (h : waits D md ops i = true) : ∀ j oj, ops[j]? = some oj → D j = false → ∃ e ∈ oj.after, Region.binds md e = true ∧ e.on = i := by
  intro j oj hoj hd
  have hj : j < ops.size := (Array.getElem?_eq_some_iff.1 hoj).1
  have := List.all_eq_true.1 h j (List.mem_range.2 hj)
  rw [hd, hoj] at this
  simp only [Bool.false_or] at this
  obtain ⟨e, he, hh⟩ := Array.any_eq_true'.1 this
  simp only [Bool.and_eq_true, beq_iff_eq] at hh
  exact ⟨e, he, hh.1, hh.2⟩
theorem takeJ {i : Nat} {oi : Oper} {v : Value} (d : Tmp) {fuel : Nat} {listed : Array Bool} {a : Act} {w : World} (hi : ops[i]? = some oi) (hd : oi.dst = some d) (hs : Region.noSelect ops = true) (hf : Region.free md ops listed i = true) (hr : (Region.ready md ops listed).contains i = true) (hw : waits D md ops i = true)
    (hQ : ∀ c a w, Q (.panic c) (a.put (some d) v) w → Q (.panic c) a w) (hy : YieldsIf Try.prog ops S oi v a) (hS : S w)
    (h : wpAnyJ D md ops Q S fuel (listed.setIfInBounds i true) (a.put (some d) v) w) : wpAnyJ D md ops Q S (fuel + 1) listed a w :=
  takeJ_first hi (Region.noSelect_spec hs) (by rw [hd]; exact hQ) (waits_spec hw) fuel listed a w (Region.free_spec hi hf) (by simpa using hr) hy hS (by rw [hd]; exact h)
theorem nextJ {oi : Oper} {fuel : Nat} {listed : Array Bool} {a : Act} {w w' : World} (i : Nat) (d : Tmp) (v : Value) (hr : Region.ready md ops listed = [i]) (hi : ops[i]? = some oi) (hd : oi.dst = some d) (hw : Region.wanted oi (yielded ops a.tmps) = true)
    (hrun : (execOp a.eval oi).run Try.prog w = .ok (.value v) w') (hS : S w') (h : wpAnyJ D md ops Q S fuel (listed.setIfInBounds i true) (a.put (some d) v) w') : wpAnyJ D md ops Q S (fuel + 1) listed a w := by
  refine ⟨fun h0 => (by rw [hr] at h0; cases h0), fun k hk => ?_⟩
  obtain rfl : k = i := by rw [hr] at hk; simpa using hk
  unfold Go.wpOp
  simp only [hi, hw, if_true, Oper.wp, hrun, Oper.upon, hd]
  exact .inl ⟨fun _ => hS, h⟩
theorem nextF {oi : Oper} {fuel : Nat} {listed : Array Bool} {a : Act} {w w' : World} (i : Nat) (d : Tmp) (v : Value) (hr : Region.ready md ops listed = [i]) (hi : ops[i]? = some oi) (hd : oi.dst = some d) (hw : Region.wanted oi (yielded ops a.tmps) = true)
    (hrun : (execOp a.eval oi).run Try.prog w = .ok (.value v) w') (hD : D i = false) (h : wpAnyJ D md ops Q S fuel (listed.setIfInBounds i true) (a.put (some d) v) w') : wpAnyJ D md ops Q S (fuel + 1) listed a w := by
  refine ⟨fun h0 => (by rw [hr] at h0; cases h0), fun k hk => ?_⟩
  obtain rfl : k = i := by rw [hr] at hk; simpa using hk
  unfold Go.wpOp
  simp only [hi, hw, if_true, Oper.wp, hrun, Oper.upon, hd]
  exact .inl ⟨fun e => absurd e (by rw [hD]; simp), h⟩
theorem storeJ {oi : Oper} {fuel : Nat} {listed : Array Bool} {a : Act} {w w' : World} (i : Nat) (hr : Region.ready md ops listed = [i]) (hi : ops[i]? = some oi) (hd : oi.dst = none) (hw : Region.wanted oi (yielded ops a.tmps) = true)
    (hrun : (execOp a.eval oi).run Try.prog w = .ok .skip w') (hS : D i = true → S w') (h : wpAnyJ D md ops Q S fuel (listed.setIfInBounds i true) a w') : wpAnyJ D md ops Q S (fuel + 1) listed a w := by
  refine ⟨fun h0 => (by rw [hr] at h0; cases h0), fun k hk => ?_⟩
  obtain rfl : k = i := by rw [hr] at hk; simpa using hk
  unfold Go.wpOp
  simp only [hi, hw, if_true, Oper.wp, hrun, Oper.upon, hd, Act.put]
  exact .inl ⟨hS, h⟩
theorem callJ {oi : Oper} {fuel : Nat} {listed : Array Bool} {a : Act} {w w' : World} (i : Nat) (d : Tmp) (hr : Region.ready md ops listed = [i]) (hi : ops[i]? = some oi) (hd : oi.dst = some d) (hw : Region.wanted oi (yielded ops a.tmps) = true) (F : FuncId) (vals : Array Value)
    (hrun : (execOp a.eval oi).run Try.prog w = .ok (.enter F vals) w') (R : Value → World → Prop) (hC : Calls Try.prog F vals w' fun e w2 => ∃ v, e = .returned v ∧ R v w2)
    (h : ∀ v w2, R v w2 → S w2 ∧ wpAnyJ D md ops Q S fuel (listed.setIfInBounds i true) (a.put (some d) v) w2) : wpAnyJ D md ops Q S (fuel + 1) listed a w := by
  refine ⟨fun h0 => (by rw [hr] at h0; cases h0), fun k hk => ?_⟩
  obtain rfl : k = i := by rw [hr] at hk; simpa using hk
  unfold Go.wpOp
  simp only [hi, hw, if_true, Oper.wp, hrun, Oper.upon, hd]
  refine .inl (hC.mono ?_)
  rintro _ w2 ⟨v, rfl, hR⟩
  exact ⟨fun _ => (h v w2 hR).1, (h v w2 hR).2⟩
theorem doneJ {listed : Array Bool} {a : Act} {w : World} (hr : Region.ready md ops listed = []) (h : Q .normal a w) : ∀ fuel, wpAnyJ D md ops Q S fuel listed a w
  | 0 => ⟨hr, h⟩
  | _ + 1 => ⟨fun _ => h, by rw [hr]; simp⟩
theorem doneJW {Q' : Act → World → Prop} {listed : Array Bool} {a : Act} {w : World} (hr : Region.ready md ops listed = []) (fuel : Nat) (h : Q' a w) : wpAnyJ D md ops (Well Q') S fuel listed a w := doneJ hr h fuel
theorem regionJ {id : Nat} {a : Act} {w : World} (D : Nat → Bool) (S : World → Prop) (hm : Try.prog.follows .mixedOrders = true) (h : wpAnyJ D .any ops Q S ops.size (Array.replicate ops.size false) a w.drew) : (Code.region id ops true).wp Try.prog Q a w :=
  wp_region_any hm (wpAny_of_J _ _ _ _ h)
theorem regionJ_in {l n id : Nat} {a : Act} {w : World} (D : Nat → Bool) (S : World → Prop) (hm : Try.prog.follows .mixedOrders = true) (hnd : ops.all noDefer = true)
    (h : wpAnyJ D .any ops (Well fun a' w' => Q .normal a' w') S ops.size (Array.replicate ops.size false) a w.drew) : (Code.region id ops true).wpIn (Fence.wide.inRound l) n Try.prog Q a w := by
  refine wpIn_mono (Q := Well fun a' w' => Q .normal a' w') (wpIn_region_any hm (wpAnyIn_of (noDefer_of hnd) (fun _ _ h => h) _ _ _ _ (wpAny_of_J _ _ _ _ h))) ?_
  intro e a' w' h'
  cases e with
  | normal => exact h'
  | _ => exact h'.elim
end

section
variable {o : Oper} {w : World} {ev : Operand → Value}
theorem exec_bsI (x : Operand) (v : Int) (ho : o.op = .buildSlice 54 1 #[(0, x)]) (hx : ev x = .int .i64 v) : (execOp ev o).run Try.prog w = .ok (.value (.slice (some ⟨w.heap.size, 0, none⟩) 1 1)) (w.alloc (.cells #[.int .i64 v] 3)) := by
  unfold execOp
  rw [ho]
  simp only [List.map_toArray, List.map_cons, List.map_nil, hx]
  kernel_rfl
theorem exec_bsN (x : Operand) (y : Nb) (a : Option Addr) (l c : Nat) (ho : o.op = .buildSlice 41 1 #[(0, x)]) (hx : ev x = .agg (y.cells (.slice a l c)).toArray) : (execOp ev o).run Try.prog w = .ok (.value (.slice (some ⟨w.heap.size, 0, none⟩) 1 1)) (w.alloc (.cells (y.cells (.slice a l c)).toArray 66)) := by
  unfold execOp
  rw [ho]
  simp only [List.map_toArray, List.map_cons, List.map_nil, hx]
  kernel_rfl
theorem exec_bsA (x : Operand) (y : Ar) (ho : o.op = .buildSlice 53 1 #[(0, x)]) (hx : ev x = .agg y.vals.toArray) : (execOp ev o).run Try.prog w = .ok (.value (.slice (some ⟨w.heap.size, 0, none⟩) 1 1)) (w.alloc (.cells y.vals.toArray 27)) := by
  unfold execOp
  rw [ho]
  simp only [List.map_toArray, List.map_cons, List.map_nil, hx]
  kernel_rfl
/-- a neighbour's literal -/
theorem exec_bldN (x y u z : Operand) (i0 i1 i2 i3 now n2 : Int) (a : Option Addr) (l c : Nat) (ho : o.op = .build 66 #[(0, x), (1, .const (.int .i64 1)), (3, y), (4, u), (5, .const (.int .i64 1)), (6, z)]) (hx : ev x = .agg #[.int .u8 i0, .int .u8 i1, .int .u8 i2, .int .u8 i3]) (hy : ev y = .int .i64 now) (hu : ev u = .int .i64 n2) (hz : ev z = .slice a l c) (hc : ∀ v, ev (.const v) = v) :
    (execOp ev o).run Try.prog w = .ok (.value (.agg (Nb.cells ⟨⟨i0, i1, i2, i3⟩, 1, zM, now, n2, 1, []⟩ (.slice a l c)).toArray)) w := by
  unfold execOp
  rw [ho]
  simp only [List.map_toArray, List.map_cons, List.map_nil, hx, hy, hu, hz, hc]
  kernel_rfl
theorem exec_bldK (x y u z : Operand) (i0 i1 i2 i3 m0 m1 m2 m3 m4 m5 now n2 : Int) (ho : o.op = .build 66 #[(0, x), (1, .const (.int .i64 2)), (2, y), (3, u), (4, z)]) (hx : ev x = .agg #[.int .u8 i0, .int .u8 i1, .int .u8 i2, .int .u8 i3]) (hy : ev y = .agg #[.int .u8 m0, .int .u8 m1, .int .u8 m2, .int .u8 m3, .int .u8 m4, .int .u8 m5]) (hu : ev u = .int .i64 now) (hz : ev z = .int .i64 n2) (hc : ∀ v, ev (.const v) = v) :
    (execOp ev o).run Try.prog w = .ok (.value (.agg (Nb.cells ⟨⟨i0, i1, i2, i3⟩, 2, ⟨m0, m1, m2, m3, m4, m5⟩, now, n2, 0, []⟩ (.slice none 0 0)).toArray)) w := by
  unfold execOp
  rw [ho]
  simp only [List.map_toArray, List.map_cons, List.map_nil, hx, hy, hu, hz, hc]
  kernel_rfl
end

section
variable {ρ : Nat → Role} {k : Nat} {W w6 : World} {b : Nat} {m : M6} {i : I4} {lv : Value} {Lt : List (Nat × Nb)}
/-- one neighbour more is the last one: 'c.list = append(c.list, x)', x's literal in the row at s6 -/
theorem CAt.add (h : CAt ρ k W b m i lv Lt) (hF : Fit ρ W) (hl : Lt.length ≤ 8) (x : Nb) (v : Value) (hb6 : Below W.heap.size W w6) (s6 p : Nat) (hc6 : CellsAt w6 s6 0 (x.cells v)) (hv : RowN (fun g => g = p) w6 v x.pd) (hn : x.pd = [] → v = .slice none 0 0) (hp : W.heap.size ≤ p) (hp6 : p < w6.heap.size) :
    ∃ a' c' w7, (Builtin.append_ #[41, 41] 41 #[lv, .slice (some ⟨s6, 0, none⟩) 1 1]).run Try.prog w6 = .ok (.slice a' (Lt.length + 1) c') w7 ∧ But (fun g => (ρ g).1 = k ∧ g ≠ b) w6 w7 ∧ w7.cell? ⟨b, 10, none⟩ = some lv ∧ w7.frozen? ⟨b, 10, none⟩ = false ∧
      ∃ ρ' t, CAt ρ' k (w7.setCell ⟨b, 10, none⟩ (.slice a' (Lt.length + 1) c')) b m i (.slice a' (Lt.length + 1) c') (Lt ++ [(t, x)]) ∧ Fit ρ' w7 ∧ Mv k ρ ρ' W (w7.setCell ⟨b, 10, none⟩ (.slice a' (Lt.length + 1) c')) ∧ ∀ g, g ≠ p → g ≠ w6.heap.size → ρ' g = ρ g := by
  have h6 := h.later hb6
  obtain ⟨V, hR, hP⟩ := h6.row.parts
  obtain ⟨t, ht⟩ := fresh (Lt.map Prod.fst)
  obtain ⟨a', c', w7, hrun, hR7, hb7⟩ := nb_push hR hP t x v hv.one s6 hc6 (by omega)
  have kl : ∀ g, (ρ g).1 = k → g < W.heap.size := fun g e => Classical.byContradiction fun hn => by
    rw [hF g (by omega)] at e
    have e : 0 = k := e
    have := h.pos
    omega
  have hb6s := hb6.size
  have bW : But (fun g => ρ g = (k, 1, 0)) W w7 := (But.of_below hb6).trans hb7
  have nb : ¬ ρ b = (k, 1, 0) := by rw [h.rb]; simp
  obtain ⟨ρ', hρ'⟩ : ∃ ρ' : Nat → Role, ∀ g, ρ' g = if g = p then (k, 2, t) else if g = w6.heap.size ∧ g < w7.heap.size then (k, 1, 0) else ρ g := ⟨_, fun _ => rfl⟩
  have kp : ∀ g, g ≠ p → g ≠ w6.heap.size → ρ' g = ρ g := fun g e1 e2 => by rw [hρ', if_neg e1, if_neg (fun e => e2 e.1)]
  have ko : ∀ g, g < W.heap.size → ρ' g = ρ g := fun g hg => kp g (by omega) (by omega)
  have kk : ∀ g, (ρ g).1 = k → ρ' g = ρ g := fun g e => ko g (kl g e)
  refine ⟨a', c', w7, hrun, hb7.mono (fun g e => ⟨by rw [e], fun e2 => nb (e2 ▸ e)⟩), (bW.cell (p := ⟨b, 10, none⟩) h.lt nb).trans h.lst, (bW.frozen (p := ⟨b, 10, none⟩) h.lt nb).trans (h.fz 10), ρ', t, ?_, ?_, ?_, kp⟩
  · refine h.relist bW nb (NbRow.of hR7 (fun g hg e => ?_) (fun q t' y hy => ?_)) ((kk b (by rw [h.rb])).trans h.rb) ?_
    · rcases e with e | e
      · rw [kk g (by rw [e])]; exact e
      · rw [hρ', if_neg (by omega), if_pos ⟨e, hg⟩]
    · by_cases e : q < Lt.length
      · rw [List.getElem?_append_left e] at hy
        simp only [if_pos e]
        exact ⟨((hP q t' y hy).1.but hb7 (fun g e1 e2 => by rw [e1] at e2; simp at e2)).own (fun g _ e1 => (kk g (by rw [e1])).trans e1), (hP q t' y hy).2⟩
      · rw [List.getElem?_append_right (by omega)] at hy
        have : q - Lt.length = 0 := by
          cases hq : q - Lt.length with
          | zero => rfl
          | succ n => rw [hq] at hy; simp at hy
        rw [this] at hy
        cases hy
        simp only [if_neg e]
        exact ⟨(hv.but hb7 (fun g e1 e2 => by
          have := kl g (by rw [e2])
          omega)).own (fun g _ e1 => by rw [hρ', if_pos e1]), hn⟩
    · rw [List.map_append, List.map_cons, List.map_nil, List.nodup_append]
      refine ⟨h.tags, by simp, fun a ha b hb => ?_⟩
      rw [List.mem_singleton.1 hb]
      rintro rfl
      exact ht ha
  · intro g hg
    have := hb7.size
    rw [hρ', if_neg (by omega), if_neg (fun e => by omega)]
    exact hF g (by omega)
  · refine ⟨fun g hg _ => ko g hg, (bW.mono (fun g e => by rw [e])).setCell (p := ⟨b, 10, none⟩) (.inr ?_) _⟩
    show (ρ b).1 = k
    rw [h.rb]
end
end Go.Proofs.Ytdcpnjlldocdcaa
