
/-
  Regions that draw their order: loads whose cells a last store turns. The sort of rows by their places.
-/
import Derived.Test.YtlfacppkgamkgaaM11
namespace Go.Proofs.Ytlfacppkgamkgaa
open Go.RowKit Go.Shelf

/-! A load may be taken first although a later store turns its cell, if that store waits for the load: S is asked behind those operations alone that may come ahead of it (D). -/
section
variable {ops : Array Oper} {Q : Exit → Act → World → Prop} {md : Region.Mode} {S : World → Prop} {D : Nat → Bool}
def wpAnyJ (D : Nat → Bool) (md : Region.Mode) (ops : Array Oper) (Q : Exit → Act → World → Prop) (S : World → Prop) : Nat → Array Bool → Act → World → Prop
  | 0, listed, a, w => Region.ready md ops listed = [] ∧ Q .normal a w
  | fuel + 1, listed, a, w => (Region.ready md ops listed = [] → Q .normal a w) ∧ ∀ i ∈ Region.ready md ops listed, wpOp Try.prog ops Q i (fun a' w' => (D i = true → S w') ∧ wpAnyJ D md ops Q S fuel (listed.setIfInBounds i true) a' w') a w
theorem wpAny_of_J : ∀ (fuel : Nat) (listed : Array Bool) (a : Act) (w : World), wpAnyJ D md ops Q S fuel listed a w → wpAny Try.prog md ops Q fuel listed a w
  | 0, _, _, _, h => h
  | fuel + 1, _, _, _, h => ⟨h.1, fun i hi => wpOp_mono (fun a' w' h' => wpAny_of_J fuel _ a' w' h'.2) (h.2 i hi)⟩
/-- whoever is ready while i is not listed does not wait for i -/
theorem not_after {i j : Nat} {listed : Array Bool} {oj : Oper} (hi : i ∈ Region.ready md ops listed) (hj : j ∈ Region.ready md ops listed) (hoj : ops[j]? = some oj) : ∀ e ∈ oj.after, Region.binds md e = true → e.on ≠ i := by
  intro e he hb heq
  obtain ⟨_, o', ho', hall⟩ := mem_ready.1 hj
  rw [hoj] at ho'
  cases ho'
  have h1 := hall e he hb
  have h0 := (mem_ready.1 hi).1
  rw [heq] at h1
  by_cases hl : i < listed.size
  · simp [hl] at h0 h1
    rw [h0] at h1
    cases h1
  · simp [Array.getElem?_eq_none (Nat.le_of_not_lt hl)] at h1
theorem takeJ_first {i : Nat} {oi : Oper} {v : Value} (hi : ops[i]? = some oi) (hsel : ∀ (j : Nat) (o : Oper) cs b, ops[j]? = some o → o.op ≠ .select cs b) (hQ : ∀ c a w, Q (.panic c) (a.put oi.dst v) w → Q (.panic c) a w)
    (hD : ∀ j oj, ops[j]? = some oj → D j = false → ∃ e ∈ oj.after, Region.binds md e = true ∧ e.on = i) : ∀ (fuel : Nat) (listed : Array Bool) (a : Act) (w : World),
      (∀ j oj, ops[j]? = some oj → j ≠ i → listed.getD j true = false → (∀ e ∈ oj.after, Region.binds md e = true → e.on ≠ i) → oi.apart ops oj = true) →
      i ∈ Region.ready md ops listed → YieldsIf Try.prog ops S oi v a → S w → wpAnyJ D md ops Q S fuel (listed.setIfInBounds i true) (a.put oi.dst v) w → wpAnyJ D md ops Q S (fuel + 1) listed a w
  | fuel, listed, a, w, hap, hr, hy, hS, H => by
    refine ⟨fun h0 => (by rw [h0] at hr; cases hr), fun j hj => ?_⟩
    by_cases hji : j = i
    · subst hji
      exact hy.wpOp hi hS ⟨fun _ => hS, H⟩
    · obtain ⟨hun, oj, hoj, _⟩ := mem_ready.1 hj
      have hna := not_after hr hj hoj
      have hDj : D j = true := by
        cases hd : D j with
        | true => rfl
        | false =>
          obtain ⟨e, he, hb, heq⟩ := hD j oj hoj hd
          exact absurd heq (hna e he hb)
      cases fuel with
      | zero =>
        have hm := ready_mono hj hji
        rw [H.1] at hm
        cases hm
      | succ fuel =>
        have h1 := wpOp_putIf hoj (hap j oj hoj hji hun hna) (fun cs b => hsel i oi cs b hi) (fun cs b => hsel j oj cs b hoj) hQ hy (H.2 j (ready_mono hj hji))
        refine wpOp_mono (fun a' w' h2 => ⟨h2.2.1, takeJ_first hi hsel hQ hD fuel _ a' w' (fun q oq hq hqi hu hn => hap q oq hq hqi ?_ hn) (ready_mono hr (Ne.symm hji)) h2.1 (h2.2.1 hDj) ?_⟩) h1
        · by_cases hjq : j = q
          · rw [← hjq]; exact hun
          · rw [getD_set_ne true hjq] at hu; exact hu
        · rw [Array.setIfInBounds_comm _ _ hji]; exact h2.2.2
/-- does everything that D leaves out wait for i? -/
def waits (D : Nat → Bool) (md : Region.Mode) (ops : Array Oper) (i : Nat) : Bool := (List.range ops.size).all fun j => D j || match ops[j]? with
  | some o => o.after.any fun e => Region.binds md e && e.on == i
  | none => true
theorem waits_spec {i : Nat} (h : waits D md ops i = true) : ∀ j oj, ops[j]? = some oj → D j = false → ∃ e ∈ oj.after, Region.binds md e = true ∧ e.on = i := by
  intro j oj hoj hd
  have hj : j < ops.size := (Array.getElem?_eq_some_iff.1 hoj).1
  have := List.all_eq_true.1 h j (List.mem_range.2 hj)
  rw [hd, hoj] at this
  simp only [Bool.false_or] at this
  obtain ⟨e, he, hh⟩ := Array.any_eq_true'.1 this
  simp only [Bool.and_eq_true, beq_iff_eq] at hh
  exact ⟨e, he, hh.1, hh.2⟩
theorem takeJ {i : Nat} {oi : Oper} {v : Value} (d : Tmp) {fuel : Nat} {listed : Array Bool} {a : Act} {w : World} (hi : ops[i]? = some oi) (hd : oi.dst = some d) (hs : Region.noSelect ops = true) (hf : Region.free md ops listed i = true) (hr : (Region.ready md ops listed).contains i = true) (hw : waits D md ops i = true)
    (hQ : ∀ c a w, Q (.panic c) (a.put (some d) v) w → Q (.panic c) a w) (hy : YieldsIf Try.prog ops S oi v a) (hS : S w)
    (h : wpAnyJ D md ops Q S fuel (listed.setIfInBounds i true) (a.put (some d) v) w) : wpAnyJ D md ops Q S (fuel + 1) listed a w :=
  takeJ_first hi (Region.noSelect_spec hs) (by rw [hd]; exact hQ) (waits_spec hw) fuel listed a w (Region.free_spec hi hf) (by simpa using hr) hy hS (by rw [hd]; exact h)
theorem nextJ {oi : Oper} {fuel : Nat} {listed : Array Bool} {a : Act} {w w' : World} (i : Nat) (d : Tmp) (v : Value) (hr : Region.ready md ops listed = [i]) (hi : ops[i]? = some oi) (hd : oi.dst = some d) (hw : Region.wanted oi (yielded ops a.tmps) = true)
    (hrun : (execOp a.eval oi).run Try.prog w = .ok (.value v) w') (hS : S w') (h : wpAnyJ D md ops Q S fuel (listed.setIfInBounds i true) (a.put (some d) v) w') : wpAnyJ D md ops Q S (fuel + 1) listed a w := by
  refine ⟨fun h0 => (by rw [hr] at h0; cases h0), fun k hk => ?_⟩
  obtain rfl : k = i := by rw [hr] at hk; simpa using hk
  unfold Go.wpOp
  simp only [hi, hw, if_true, Oper.wp, hrun, Oper.upon, hd]
  exact .inl ⟨fun _ => hS, h⟩
theorem nextF {oi : Oper} {fuel : Nat} {listed : Array Bool} {a : Act} {w w' : World} (i : Nat) (d : Tmp) (v : Value) (hr : Region.ready md ops listed = [i]) (hi : ops[i]? = some oi) (hd : oi.dst = some d) (hw : Region.wanted oi (yielded ops a.tmps) = true)
    (hrun : (execOp a.eval oi).run Try.prog w = .ok (.value v) w') (hD : D i = false) (h : wpAnyJ D md ops Q S fuel (listed.setIfInBounds i true) (a.put (some d) v) w') : wpAnyJ D md ops Q S (fuel + 1) listed a w := by
  refine ⟨fun h0 => (by rw [hr] at h0; cases h0), fun k hk => ?_⟩
  obtain rfl : k = i := by rw [hr] at hk; simpa using hk
  unfold Go.wpOp
  simp only [hi, hw, if_true, Oper.wp, hrun, Oper.upon, hd]
  exact .inl ⟨fun e => absurd e (by rw [hD]; simp), h⟩
theorem storeJ {oi : Oper} {fuel : Nat} {listed : Array Bool} {a : Act} {w w' : World} (i : Nat) (hr : Region.ready md ops listed = [i]) (hi : ops[i]? = some oi) (hd : oi.dst = none) (hw : Region.wanted oi (yielded ops a.tmps) = true)
    (hrun : (execOp a.eval oi).run Try.prog w = .ok .skip w') (hS : D i = true → S w') (h : wpAnyJ D md ops Q S fuel (listed.setIfInBounds i true) a w') : wpAnyJ D md ops Q S (fuel + 1) listed a w := by
  refine ⟨fun h0 => (by rw [hr] at h0; cases h0), fun k hk => ?_⟩
  obtain rfl : k = i := by rw [hr] at hk; simpa using hk
  unfold Go.wpOp
  simp only [hi, hw, if_true, Oper.wp, hrun, Oper.upon, hd, Act.put]
  exact .inl ⟨hS, h⟩
theorem callJ {oi : Oper} {fuel : Nat} {listed : Array Bool} {a : Act} {w w' : World} (i : Nat) (d : Tmp) (hr : Region.ready md ops listed = [i]) (hi : ops[i]? = some oi) (hd : oi.dst = some d) (hw : Region.wanted oi (yielded ops a.tmps) = true) (F : FuncId) (vals : Array Value)
    (hrun : (execOp a.eval oi).run Try.prog w = .ok (.enter F vals) w') (R : Value → World → Prop) (hC : Calls Try.prog F vals w' fun e w2 => ∃ v, e = .returned v ∧ R v w2)
    (h : ∀ v w2, R v w2 → S w2 ∧ wpAnyJ D md ops Q S fuel (listed.setIfInBounds i true) (a.put (some d) v) w2) : wpAnyJ D md ops Q S (fuel + 1) listed a w := by
  refine ⟨fun h0 => (by rw [hr] at h0; cases h0), fun k hk => ?_⟩
  obtain rfl : k = i := by rw [hr] at hk; simpa using hk
  unfold Go.wpOp
  simp only [hi, hw, if_true, Oper.wp, hrun, Oper.upon, hd]
  refine .inl (hC.mono ?_)
  rintro _ w2 ⟨v, rfl, hR⟩
  exact ⟨fun _ => (h v w2 hR).1, (h v w2 hR).2⟩
theorem doneJ {listed : Array Bool} {a : Act} {w : World} (hr : Region.ready md ops listed = []) (h : Q .normal a w) : ∀ fuel, wpAnyJ D md ops Q S fuel listed a w
  | 0 => ⟨hr, h⟩
  | _ + 1 => ⟨fun _ => h, by rw [hr]; simp⟩
theorem doneJW {Q' : Act → World → Prop} {listed : Array Bool} {a : Act} {w : World} (hr : Region.ready md ops listed = []) (fuel : Nat) (h : Q' a w) : wpAnyJ D md ops (Well Q') S fuel listed a w := doneJ hr h fuel
theorem regionJ {id : Nat} {a : Act} {w : World} (D : Nat → Bool) (S : World → Prop) (hm : Try.prog.follows .mixedOrders = true) (h : wpAnyJ D .any ops Q S ops.size (Array.replicate ops.size false) a w.drew) : (Code.region id ops true).wp Try.prog Q a w :=
  wp_region_any hm (wpAny_of_J _ _ _ _ h)
theorem regionJ_in {l n id : Nat} {a : Act} {w : World} (D : Nat → Bool) (S : World → Prop) (hm : Try.prog.follows .mixedOrders = true) (hnd : ops.all noDefer = true)
    (h : wpAnyJ D .any ops (Well fun a' w' => Q .normal a' w') S ops.size (Array.replicate ops.size false) a w.drew) : (Code.region id ops true).wpIn (Fence.wide.inRound l) n Try.prog Q a w := by
  refine wpIn_mono (Q := Well fun a' w' => Q .normal a' w') (wpIn_region_any hm (wpAnyIn_of (noDefer_of hnd) (fun _ _ h => h) _ _ _ _ (wpAny_of_J _ _ _ _ h))) ?_
  intro e a' w' h'
  cases e with
  | normal => exact h'
  | _ => exact h'.elim
end
/-- rows from the beginning of block g on -/
structure RowR (W : World) (g : Nat) (X : List Rw) : Prop where
  at_ : ∀ q r, X[q]? = some r → CellsAt W g (q * 11) r.cells
  fz : ∀ j, W.frozen? ⟨g, j, none⟩ = false
theorem RowR.lt {W : World} {g : Nat} {X : List Rw} (h : RowR W g X) (h0 : 0 < X.length) : g < W.heap.size := (h.at_ 0 _ (List.getElem?_eq_getElem h0)).lt (Nat.succ_pos _)
theorem RowR.but {K : Nat → Prop} {W W' : World} {g : Nat} {X : List Rw} (h : RowR W g X) (hb : But K W W') (hg : g < W.heap.size) (hk : ¬ K g) : RowR W' g X :=
  ⟨fun q r hq => (h.at_ q r hq).but hg hb hk, fun j => (hb.frozen (p := ⟨g, j, none⟩) hg hk).trans (h.fz j)⟩
theorem RowR.later {W W' : World} {g : Nat} {X : List Rw} (h : RowR W g X) (hb : Below W.heap.size W W') (hg : g < W.heap.size) : RowR W' g X := h.but (K := fun _ => False) (But.of_below hb) hg id
/-- one row stored anew -/
theorem RowR.set {W : World} {g : Nat} {X : List Rw} (h : RowR W g X) {i : Nat} (hi : i < X.length) (r : Rw) : RowR (W.setCells g (i * 11) r.cells) g (X.set i r) := by
  refine ⟨fun q s hq => ?_, fun j => by rw [World.frozen?_setCells]; exact h.fz j⟩
  rw [List.getElem?_set] at hq
  by_cases e : i = q
  · subst e
    rw [if_pos rfl, if_pos hi] at hq
    cases hq
    exact (h.at_ i _ (List.getElem?_eq_getElem hi)).stored rfl
  · rw [if_neg e] at hq
    refine (h.at_ q s hq).other ?_
    show q * 11 + 11 ≤ i * 11 ∨ i * 11 + 11 ≤ q * 11
    omega
/-- between the inner rounds: x is on its way down -/
structure Ins (X : List Rw) (i j : Nat) (P : List Rw) (x : Rw) (Q R : List Rw) : Prop where
  eq : X = P ++ x :: (Q ++ R)
  lp : P.length = j
  lq : P.length + Q.length = i
  srt : (P ++ Q).Pairwise (fun r s => r.pl ≤ s.pl)
  up : ∀ s ∈ Q, x.pl < s.pl
theorem Ins.done {X : List Rw} {i j : Nat} {P : List Rw} {x : Rw} {Q R : List Rw} (h : Ins X i j P x Q R) (hl : ∀ s ∈ P, s.pl ≤ x.pl) : (X.take (i + 1)).Pairwise (fun r s => r.pl ≤ s.pl) := by
  have e : X.take (i + 1) = P ++ x :: Q := by
    rw [h.eq, show P ++ x :: (Q ++ R) = (P ++ x :: Q) ++ R by simp, List.take_left' (by simp; have := h.lq; omega)]
  rw [e]
  obtain ⟨s1, s2, s3⟩ := List.pairwise_append.1 h.srt
  refine List.pairwise_append.2 ⟨s1, List.pairwise_cons.2 ⟨fun s hs => Int.le_of_lt (h.up s hs), s2⟩, fun r hr s hs => ?_⟩
  rcases List.mem_cons.1 hs with rfl | hs
  · exact hl r hr
  · exact s3 r hr s hs
theorem last_le {P : List Rw} {y : Rw} {x : Rw} (h : (P ++ [y]).Pairwise (fun r s => r.pl ≤ s.pl)) (hy : y.pl ≤ x.pl) : ∀ s ∈ P ++ [y], s.pl ≤ x.pl := by
  intro s hs
  rcases List.mem_append.1 hs with hs | hs
  · exact Int.le_trans ((List.pairwise_append.1 h).2.2 s hs y (by simp)) hy
  · rw [List.mem_singleton.1 hs]; exact hy
theorem Ins.step {X : List Rw} {i k : Nat} {P : List Rw} {x y : Rw} {Q R : List Rw} (h : Ins X i (k + 1) (P ++ [y]) x Q R) (hl : x.pl < y.pl) : Ins ((X.set (k + 1) y).set k x) i k P x (y :: Q) R := by
  have lp : P.length = k := by have := h.lp; simp at this; omega
  refine ⟨?_, lp, by have := h.lq; simp at this ⊢; omega, by have := h.srt; simpa using this, fun s hs => ?_⟩
  · rw [h.eq]
    have e1 : ((P ++ [y]) ++ x :: (Q ++ R)) = P ++ (y :: x :: (Q ++ R)) := by simp
    rw [e1]
    apply List.ext_getElem?
    intro j
    simp only [List.getElem?_set, List.length_set, List.length_append, List.length_cons]
    by_cases e2 : k = j
    · subst e2
      rw [if_pos rfl, if_pos (by omega), List.getElem?_append_right (by omega), lp, Nat.sub_self]; rfl
    · rw [if_neg e2]
      by_cases e3 : k + 1 = j
      · subst e3
        rw [if_pos rfl, if_pos (by omega), List.getElem?_append_right (by omega), lp, show k + 1 - k = 1 by omega]; rfl
      · rw [if_neg e3]
        by_cases e4 : j < k
        · rw [List.getElem?_append_left (by omega), List.getElem?_append_left (by omega)]
        · rw [List.getElem?_append_right (by omega), List.getElem?_append_right (by omega), lp]
          obtain ⟨d, hd⟩ : ∃ d, j - k = d + 2 := ⟨j - k - 2, by omega⟩
          rw [hd]
          rfl
  · rcases List.mem_cons.1 hs with rfl | hs
    · exact hl
    · exact h.up s hs
theorem swap_perm {X : List Rw} {k : Nat} {x y : Rw} (hx : X[k + 1]? = some x) (hy : X[k]? = some y) : ((X.set (k + 1) y).set k x).Perm X := by
  have h1 := (List.getElem?_eq_some_iff.1 hx)
  have h2 := (List.getElem?_eq_some_iff.1 hy)
  obtain ⟨l1, e1⟩ := h1
  obtain ⟨l2, e2⟩ := h2
  have eX : X = X.take k ++ y :: x :: X.drop (k + 2) := by
    conv => lhs; rw [← List.take_append_drop k X]
    congr 1
    rw [List.drop_eq_getElem_cons l2, e2, List.drop_eq_getElem_cons l1, e1]
  have lt : (X.take k).length = k := by simp; omega
  have eY : (X.set (k + 1) y).set k x = X.take k ++ x :: y :: X.drop (k + 2) := by
    conv => lhs; rw [eX]
    rw [List.set_append_right _ _ (by omega), List.set_append_right _ _ (by omega), lt]
    simp
  rw [eY]
  conv => rhs; rw [eX]
  exact List.Perm.append_left _ (List.Perm.swap _ _ _)
end Go.Proofs.Ytlfacppkgamkgaa
