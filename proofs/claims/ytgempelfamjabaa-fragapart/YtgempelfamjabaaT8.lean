
/-
  Package icmp: an address more, and the first one gone.
-/
import Derived.Test.YtgempelfamjabaaT7
import Derived.Deep.RegionLaw
namespace Go.Proofs.Ytgempelfamjabaa
open Go.RowKit Go.Shelf
open Go.ChangeMaps (setBlock)

/-! A load may be taken first although a later store turns its cell, if that store waits for the load: S is asked behind those operations alone that may come ahead of it (D). -/
section
variable {ops : Array Oper} {Q : Exit → Act → World → Prop} {md : Region.Mode} {S : World → Prop} {D : Nat → Bool}
def wpAnyJ (D : Nat → Bool) (md : Region.Mode) (ops : Array Oper) (Q : Exit → Act → World → Prop) (S : World → Prop) : Nat → Array Bool → Act → World → Prop
  | 0, listed, a, w => Region.ready md ops listed = [] ∧ Q .normal a w
  | fuel + 1, listed, a, w => (Region.ready md ops listed = [] → Q .normal a w) ∧ ∀ i ∈ Region.ready md ops listed, wpOp Try.prog ops Q i (fun a' w' => (D i = true → S w') ∧ wpAnyJ D md ops Q S fuel (listed.setIfInBounds i true) a' w') a w
theorem wpAny_of_J : ∀ (fuel : Nat) (listed : Array Bool) (a : Act) (w : World), wpAnyJ D md ops Q S fuel listed a w → wpAny Try.prog md ops Q fuel listed a w
  | 0, _, _, _, h => h
  | fuel + 1, _, _, _, h => ⟨h.1, fun i hi => wpOp_mono (fun a' w' h' => wpAny_of_J fuel _ a' w' h'.2) (h.2 i hi)⟩
/-- whoever is ready while i is not listed does not wait for i -/
theorem not_after {i j : Nat} {listed : Array Bool} {oj : Oper} (hi : i ∈ Region.ready md ops listed) (hj : j ∈ Region.ready md ops listed) (hoj : ops[j]? = some oj) : ∀ e ∈ oj.after, Region.binds md e = true → e.on ≠ i := by
  intro e he hb heq
  obtain ⟨_, o', ho', hall⟩ := mem_ready.1 hj
  rw [hoj] at ho'
  cases ho'
  have h1 := hall e he hb
  have h0 := (mem_ready.1 hi).1
  rw [heq] at h1
  by_cases hl : i < listed.size
  · simp [hl] at h0 h1
    rw [h0] at h1
    cases h1
  · simp [Array.getElem?_eq_none (Nat.le_of_not_lt hl)] at h1
theorem takeJ_first {i : Nat} {oi : Oper} {v : Value} (hi : ops[i]? = some oi) (hsel : ∀ (j : Nat) (o : Oper) cs b, ops[j]? = some o → o.op ≠ .select cs b) (hQ : ∀ c a w, Q (.panic c) (a.put oi.dst v) w → Q (.panic c) a w)
    (hD : ∀ j oj, ops[j]? = some oj → D j = false → ∃ e ∈ oj.after, Region.binds md e = true ∧ e.on = i) : ∀ (fuel : Nat) (listed : Array Bool) (a : Act) (w : World),
      (∀ j oj, ops[j]? = some oj → j ≠ i → listed.getD j true = false → (∀ e ∈ oj.after, Region.binds md e = true → e.on ≠ i) → oi.apart ops oj = true) →
      i ∈ Region.ready md ops listed → YieldsIf Try.prog ops S oi v a → S w → wpAnyJ D md ops Q S fuel (listed.setIfInBounds i true) (a.put oi.dst v) w → wpAnyJ D md ops Q S (fuel + 1) listed a w
  | fuel, listed, a, w, hap, hr, hy, hS, H => by
    refine ⟨fun h0 => (by rw [h0] at hr; cases hr), fun j hj => ?_⟩
    by_cases hji : j = i
    · subst hji
      exact hy.wpOp hi hS ⟨fun _ => hS, H⟩
    · obtain ⟨hun, oj, hoj, _⟩ := mem_ready.1 hj
      have hna := not_after hr hj hoj
      have hDj : D j = true := by
        cases hd : D j with
        | true => rfl
        | false =>
          obtain ⟨e, he, hb, heq⟩ := hD j oj hoj hd
          exact absurd heq (hna e he hb)
      cases fuel with
      | zero =>
        have hm := ready_mono hj hji
        rw [H.1] at hm
        cases hm
      | succ fuel =>
        have h1 := wpOp_putIf hoj (hap j oj hoj hji hun hna) (fun cs b => hsel i oi cs b hi) (fun cs b => hsel j oj cs b hoj) hQ hy (H.2 j (ready_mono hj hji))
        refine wpOp_mono (fun a' w' h2 => ⟨h2.2.1, takeJ_first hi hsel hQ hD fuel _ a' w' (fun q oq hq hqi hu hn => hap q oq hq hqi ?_ hn) (ready_mono hr (Ne.symm hji)) h2.1 (h2.2.1 hDj) ?_⟩) h1
        · by_cases hjq : j = q
          · rw [← hjq]; exact hun
          · rw [getD_set_ne true hjq] at hu; exact hu
        · rw [Array.setIfInBounds_comm _ _ hji]; exact h2.2.2
/-- does everything that D leaves out wait for i? -/
def waits (D : Nat → Bool) (md : Region.Mode) (ops : Array Oper) (i : Nat) : Bool := (List.range ops.size).all fun j => D j || match ops[j]? with
  | some o => o.after.any fun e => Region.binds md e && e.on == i
  | none => true
theorem waits_spec {i : Nat} (h : waits D md ops i = true) : ∀ j oj, ops[j]? = some oj → D j = false → ∃ e ∈ oj.after, Region.binds md e = true ∧ e.on = i := by
  intro j oj hoj hd
  have hj : j < ops.size := (Array.getElem?_eq_some_iff.1 hoj).1
  have := List.all_eq_true.1 h j (List.mem_range.2 hj)
  rw [hd, hoj] at this
  simp only [Bool.false_or] at this
  obtain ⟨e, he, hh⟩ := Array.any_eq_true'.1 this
  simp only [Bool.and_eq_true, beq_iff_eq] at hh
  exact ⟨e, he, hh.1, hh.2⟩
theorem takeJ {i : Nat} {oi : Oper} {v : Value} (d : Tmp) {fuel : Nat} {listed : Array Bool} {a : Act} {w : World} (hi : ops[i]? = some oi) (hd : oi.dst = some d) (hs : Region.noSelect ops = true) (hf : Region.free md ops listed i = true) (hr : (Region.ready md ops listed).contains i = true) (hw : waits D md ops i = true)
    (hQ : ∀ c a w, Q (.panic c) (a.put (some d) v) w → Q (.panic c) a w) (hy : YieldsIf Try.prog ops S oi v a) (hS : S w)
    (h : wpAnyJ D md ops Q S fuel (listed.setIfInBounds i true) (a.put (some d) v) w) : wpAnyJ D md ops Q S (fuel + 1) listed a w :=
  takeJ_first hi (Region.noSelect_spec hs) (by rw [hd]; exact hQ) (waits_spec hw) fuel listed a w (Region.free_spec hi hf) (by simpa using hr) hy hS (by rw [hd]; exact h)
theorem nextJ {oi : Oper} {fuel : Nat} {listed : Array Bool} {a : Act} {w w' : World} (i : Nat) (d : Tmp) (v : Value) (hr : Region.ready md ops listed = [i]) (hi : ops[i]? = some oi) (hd : oi.dst = some d) (hw : Region.wanted oi (yielded ops a.tmps) = true)
    (hrun : (execOp a.eval oi).run Try.prog w = .ok (.value v) w') (hS : S w') (h : wpAnyJ D md ops Q S fuel (listed.setIfInBounds i true) (a.put (some d) v) w') : wpAnyJ D md ops Q S (fuel + 1) listed a w := by
  refine ⟨fun h0 => (by rw [hr] at h0; cases h0), fun k hk => ?_⟩
  obtain rfl : k = i := by rw [hr] at hk; simpa using hk
  unfold Go.wpOp
  simp only [hi, hw, if_true, Oper.wp, hrun, Oper.upon, hd]
  exact .inl ⟨fun _ => hS, h⟩
theorem nextF {oi : Oper} {fuel : Nat} {listed : Array Bool} {a : Act} {w w' : World} (i : Nat) (d : Tmp) (v : Value) (hr : Region.ready md ops listed = [i]) (hi : ops[i]? = some oi) (hd : oi.dst = some d) (hw : Region.wanted oi (yielded ops a.tmps) = true)
    (hrun : (execOp a.eval oi).run Try.prog w = .ok (.value v) w') (hD : D i = false) (h : wpAnyJ D md ops Q S fuel (listed.setIfInBounds i true) (a.put (some d) v) w') : wpAnyJ D md ops Q S (fuel + 1) listed a w := by
  refine ⟨fun h0 => (by rw [hr] at h0; cases h0), fun k hk => ?_⟩
  obtain rfl : k = i := by rw [hr] at hk; simpa using hk
  unfold Go.wpOp
  simp only [hi, hw, if_true, Oper.wp, hrun, Oper.upon, hd]
  exact .inl ⟨fun e => absurd e (by rw [hD]; simp), h⟩
theorem storeJ {oi : Oper} {fuel : Nat} {listed : Array Bool} {a : Act} {w w' : World} (i : Nat) (hr : Region.ready md ops listed = [i]) (hi : ops[i]? = some oi) (hd : oi.dst = none) (hw : Region.wanted oi (yielded ops a.tmps) = true)
    (hrun : (execOp a.eval oi).run Try.prog w = .ok .skip w') (hS : D i = true → S w') (h : wpAnyJ D md ops Q S fuel (listed.setIfInBounds i true) a w') : wpAnyJ D md ops Q S (fuel + 1) listed a w := by
  refine ⟨fun h0 => (by rw [hr] at h0; cases h0), fun k hk => ?_⟩
  obtain rfl : k = i := by rw [hr] at hk; simpa using hk
  unfold Go.wpOp
  simp only [hi, hw, if_true, Oper.wp, hrun, Oper.upon, hd, Act.put]
  exact .inl ⟨hS, h⟩
theorem callJ {oi : Oper} {fuel : Nat} {listed : Array Bool} {a : Act} {w w' : World} (i : Nat) (d : Tmp) (hr : Region.ready md ops listed = [i]) (hi : ops[i]? = some oi) (hd : oi.dst = some d) (hw : Region.wanted oi (yielded ops a.tmps) = true) (F : FuncId) (vals : Array Value)
    (hrun : (execOp a.eval oi).run Try.prog w = .ok (.enter F vals) w') (R : Value → World → Prop) (hC : Calls Try.prog F vals w' fun e w2 => ∃ v, e = .returned v ∧ R v w2)
    (h : ∀ v w2, R v w2 → S w2 ∧ wpAnyJ D md ops Q S fuel (listed.setIfInBounds i true) (a.put (some d) v) w2) : wpAnyJ D md ops Q S (fuel + 1) listed a w := by
  refine ⟨fun h0 => (by rw [hr] at h0; cases h0), fun k hk => ?_⟩
  obtain rfl : k = i := by rw [hr] at hk; simpa using hk
  unfold Go.wpOp
  simp only [hi, hw, if_true, Oper.wp, hrun, Oper.upon, hd]
  refine .inl (hC.mono ?_)
  rintro _ w2 ⟨v, rfl, hR⟩
  exact ⟨fun _ => (h v w2 hR).1, (h v w2 hR).2⟩
theorem doneJ {listed : Array Bool} {a : Act} {w : World} (hr : Region.ready md ops listed = []) (h : Q .normal a w) : ∀ fuel, wpAnyJ D md ops Q S fuel listed a w
  | 0 => ⟨hr, h⟩
  | _ + 1 => ⟨fun _ => h, by rw [hr]; simp⟩
theorem doneJW {Q' : Act → World → Prop} {listed : Array Bool} {a : Act} {w : World} (hr : Region.ready md ops listed = []) (fuel : Nat) (h : Q' a w) : wpAnyJ D md ops (Well Q') S fuel listed a w := doneJ hr h fuel
theorem regionJ {id : Nat} {a : Act} {w : World} (D : Nat → Bool) (S : World → Prop) (hm : Try.prog.follows .mixedOrders = true) (h : wpAnyJ D .any ops Q S ops.size (Array.replicate ops.size false) a w.drew) : (Code.region id ops true).wp Try.prog Q a w :=
  wp_region_any hm (wpAny_of_J _ _ _ _ h)
end
theorem info_ip : (Try.prog.info? 23).map (fun i => (i.zero, i.size, i.bytes)) = some (some (.agg zI.vals.toArray), 4, 4) := by kernel_rfl
theorem ipc_len (L : List Pt) (j : Nat) : (ipc L j).length = 4 := rfl
theorem ip_oneC (x : I4) : ∀ u ∈ x.vals, u.oneCell' = true := by
  intro u hu
  simp only [I4.vals, List.mem_cons, List.not_mem_nil, or_false] at hu
  rcases hu with rfl | rfl | rfl | rfl <;> rfl
theorem seven_at (f : Nat → List Value) (hf : ∀ j, (f j).length = 4) : ∀ j, j < 28 → ((List.range 7).flatMap f)[j]? = (f (j / 4))[j % 4]? := by
  have e : (List.range 7).flatMap f = f 0 ++ (f 1 ++ (f 2 ++ (f 3 ++ (f 4 ++ (f 5 ++ f 6))))) := by simp [List.range, List.range.loop]
  intro j hj
  rw [e]
  have key : ∀ (k : Nat) (x r : List Value) (j : Nat), x.length = 4 → (x ++ r)[j]? = if j < 4 then x[j]? else r[j - 4]? := fun k x r j h => by
    rw [List.getElem?_append, h]
  rw [key 0 _ _ _ (hf 0)]
  by_cases h0 : j < 4
  · rw [if_pos h0, show j / 4 = 0 by omega, show j % 4 = j by omega]
  rw [if_neg h0, key 0 _ _ _ (hf 1)]
  by_cases h1 : j - 4 < 4
  · rw [if_pos h1, show j / 4 = 1 by omega, show j % 4 = j - 4 by omega]
  rw [if_neg h1, key 0 _ _ _ (hf 2)]
  by_cases h2 : j - 4 - 4 < 4
  · rw [if_pos h2, show j / 4 = 2 by omega, show j % 4 = j - 4 - 4 by omega]
  rw [if_neg h2, key 0 _ _ _ (hf 3)]
  by_cases h3 : j - 4 - 4 - 4 < 4
  · rw [if_pos h3, show j / 4 = 3 by omega, show j % 4 = j - 4 - 4 - 4 by omega]
  rw [if_neg h3, key 0 _ _ _ (hf 4)]
  by_cases h4 : j - 4 - 4 - 4 - 4 < 4
  · rw [if_pos h4, show j / 4 = 4 by omega, show j % 4 = j - 4 - 4 - 4 - 4 by omega]
  rw [if_neg h4, key 0 _ _ _ (hf 5)]
  by_cases h5 : j - 4 - 4 - 4 - 4 - 4 < 4
  · rw [if_pos h5, show j / 4 = 5 by omega, show j % 4 = j - 4 - 4 - 4 - 4 - 4 by omega]
  rw [if_neg h5, show j / 4 = 6 by omega, show j % 4 = j - 4 - 4 - 4 - 4 - 4 - 4 by omega]
theorem seven_len (f : Nat → List Value) (hf : ∀ j, (f j).length = 4) : ((List.range 7).flatMap f).length = 28 := by
  have e : (List.range 7).flatMap f = f 0 ++ (f 1 ++ (f 2 ++ (f 3 ++ (f 4 ++ (f 5 ++ f 6))))) := by simp [List.range, List.range.loop]
  rw [e]
  simp only [List.length_append, hf]
/-- 'append' as one step of a region that draws, by its run -/
theorem step_app {ops : Array Oper} {o : Oper} {a : Act} {w : World} {K : Act → World → Prop} {Q : Exit → Act → World → Prop} {E : Prop} (hg : o.guard = none) (T : TypeId) (s x : Operand)
    (hop : o.op = Op.call { callee := Callee.builtin Builtin.append, args := #[s, x], argTypes := #[T, T] }) (hty : o.type = T) (v1 v2 v' : Value) (w' : World) (hs : a.eval s = v1) (hx : a.eval x = v2)
    (hrun : (Builtin.append_ #[T, T] T #[v1, v2]).run Try.prog w = .ok v' w') (hK : K (a.put o.dst v') w') :
    if Region.wanted o (yielded ops a.tmps) = true then Oper.wp Try.prog o a w K Q else E := by
  have hw : Region.wanted o (yielded ops a.tmps) = true := by simp [Region.wanted, hg]
  rw [if_pos hw]
  unfold Oper.wp
  simp only [execOp, hop, hty]
  simp [resolve, invoke, builtin, hs, hx, hrun, Result.andThen]
  exact hK
end Go.Proofs.Ytgempelfamjabaa
