
/-
  The document's cache: Tick.
-/
import Derived.Test.YtdcpnjlldocdcaaC3
import Derived.Test.YtdcpnjlldocdcaaA34
namespace Go.Proofs.Ytdcpnjlldocdcaa
open Go.RowKit Go.Shelf

section
variable {ops : Array Oper} {rest : List Oper} {o : Oper} {a : Act} {w : World} {Q : Exit → Act → World → Prop}
/-- 'append', by its run -/
theorem wpList_appT (hgd : o.guard = none) (t : TypeId) (s x : Operand) (hop : o.op = Op.call { callee := Callee.builtin Builtin.append, args := #[s, x], argTypes := #[t, t] }) (hty : o.type = t) (v u : Value) (hs : a.eval s = v) (hx : a.eval x = u) {v' : Value} {w' : World}
    (hr : (Builtin.append_ #[t, t] t #[v, u]).run Try.prog w = .ok v' w') (h : wpList Try.prog ops Q rest (a.put o.dst v') w') : wpList Try.prog ops Q (o :: rest) a w := by
  refine wpList_plain hgd fun K hK => ?_
  unfold Oper.wp
  simp only [execOp, hop, hty]
  simp [resolve, invoke, builtin, hs, hx, hr, Result.andThen]
  exact hK _ _ h
end
/-- what Tick has gathered: what is asked, let go, left -/
structure RkR (ρ : Nat → Role) (k : Nat) (m : M6) (i : I4) (B : Nat) (A : List I4) (G : List Int) (T : List (Nat × Nb)) (σ : Nat → Nat) (av gv lv : Value) (V : Nat → Value) (W : World) : Prop where
  new : ∀ h, σ h ≠ 0 → B ≤ h ∧ h < W.heap.size
  ra : RowF 21 (fun h => σ h = 2) W av A.length (arw m i A)
  rg : RowN (fun h => σ h = 3) W gv G
  rl : RowF 15 (fun h => σ h = 1) W lv T.length (nbc T V)
  pd : Pds ρ k W T V
section
variable {ρ : Nat → Role} {k : Nat} {m : M6} {i : I4} {B : Nat} {A : List I4} {G : List Int} {T : List (Nat × Nb)} {σ : Nat → Nat} {av gv lv : Value} {V : Nat → Value} {W W' : World}
theorem RkR.but {K : Nat → Prop} (h : RkR ρ k m i B A G T σ av gv lv V W) (hb : But K W W') (hk : ∀ g, K g → σ g = 0 ∧ ∀ t, ρ g ≠ (k, 2, t)) : RkR ρ k m i B A G T σ av gv lv V W' := by
  have go : ∀ q g, q ≠ 0 → σ g = q → ¬ K g := fun q g hq e e2 => hq (e.symm.trans (hk g e2).1)
  exact ⟨fun g hg => ⟨(h.new g hg).1, by have := (h.new g hg).2; have := hb.size; omega⟩, h.ra.but hb (fun g => go 2 g (by omega)), h.rg.but hb (fun g => go 3 g (by omega)), h.rl.but hb (fun g => go 1 g (by omega)), h.pd.but hb (fun g t e _ e2 => (hk g e2).2 t e) (fun _ _ _ e _ => e)⟩
theorem RkR.later (h : RkR ρ k m i B A G T σ av gv lv V W) (hb : Below W.heap.size W W') : RkR ρ k m i B A G T σ av gv lv V W' := h.but (K := fun _ => False) (But.of_below hb) (fun _ e => e.elim)
theorem RkR.nil (ρ : Nat → Role) (k : Nat) (m : M6) (i : I4) (B : Nat) (W : World) (V : Nat → Value) : RkR ρ k m i B [] [] [] (fun _ => 0) (.slice none 0 0) (.slice none 0 0) (.slice none 0 0) V W :=
  ⟨fun h e => absurd rfl e, RowF.nil _ _ _ _, RowN.nil _ _, RowF.nil _ _ _ _, fun q t x hx => by simp at hx⟩
theorem RkR.left (h : RkR ρ k m i B A G T σ av gv lv V W) (hBW : B ≤ W.heap.size) (hρ : ∀ g t, ρ g = (k, 2, t) → g < B) (hT : T.length ≤ 8) (t : Nat) (x : Nb) (v : Value) (hv : RowN (fun g => ρ g = (k, 2, t)) W v x.pd) (hn : x.pd = [] → v = .slice none 0 0) (p : Nat) (hc : CellsAt W p 0 (x.cells v)) :
    ∃ a' c' w2, (Builtin.append_ #[41, 41] 41 #[lv, .slice (some ⟨p, 0, none⟩) 1 1]).run Try.prog W = .ok (.slice a' (T.length + 1) c') w2 ∧ But (fun g => σ g = 1) W w2 ∧
      ∃ σ' V', RkR ρ k m i B A G (T ++ [(t, x)]) σ' av gv (.slice a' (T.length + 1) c') V' w2 := by
  obtain ⟨a', c', w2, hrun, hR, hb⟩ := nb_push h.rl h.pd t x v hv.one p hc (by omega)
  have hs := hb.size
  have nB : ∀ g, g < B → ¬ σ g = 1 := fun g hg e => by have := (h.new g (by rw [e]; omega)).1; omega
  refine ⟨a', c', w2, hrun, hb, ?_⟩
  obtain ⟨σ', hσ'⟩ : ∃ σ' : Nat → Nat, ∀ g, σ' g = if g = W.heap.size ∧ g < w2.heap.size then 1 else σ g := ⟨_, fun _ => rfl⟩
  have sn : ∀ g, σ g ≠ 0 → σ' g = σ g := fun g hg => by have := (h.new g hg).2; rw [hσ', if_neg (by omega)]
  have ne : ∀ q g, q ≠ 0 → q ≠ 1 → σ g = q → ¬ σ g = 1 := fun q g h0 h1 e e2 => h1 (e.symm.trans e2)
  have co : ∀ q g, q ≠ 0 → σ g = q → σ' g = q := fun q g h0 e => by rw [sn g (by rw [e]; exact h0)]; exact e
  refine ⟨σ', fun q => if q < T.length then V q else v, ⟨fun g hg => ?_, (h.ra.but hb (fun g => ne 2 g (by omega) (by omega))).own (fun g _ => co 2 g (by omega)), (h.rg.but hb (fun g => ne 3 g (by omega) (by omega))).own (fun g _ => co 3 g (by omega)), ?_, ?_⟩⟩
  · rw [hσ'] at hg
    split at hg
    · rename_i e; omega
    · have := h.new g hg; omega
  · exact hR.own (fun g hg e => by
      rcases e with e | e
      · exact co 1 g (by omega) e
      · rw [hσ', if_pos ⟨e, hg⟩])
  · intro q t' y hy
    have key : ∀ v y t', RowN (fun g => ρ g = (k, 2, t')) W v y → RowN (fun g => ρ g = (k, 2, t')) w2 v y := fun v y t' hr => hr.but hb (fun g e e2 => nB g (hρ g t' e) e2)
    by_cases e : q < T.length
    · rw [List.getElem?_append_left e] at hy
      simp only [if_pos e]
      exact ⟨key _ _ _ (h.pd q t' y hy).1, (h.pd q t' y hy).2⟩
    · rw [List.getElem?_append_right (by omega)] at hy
      have : q - T.length = 0 := by
        cases hq : q - T.length with
        | zero => rfl
        | succ n => rw [hq] at hy; simp at hy
      rw [this] at hy
      cases hy
      simp only [if_neg e]
      exact ⟨key _ _ _ hv, hn⟩
theorem RkR.ask (h : RkR ρ k m i B A G T σ av gv lv V W) (hBW : B ≤ W.heap.size) (hρ : ∀ g t, ρ g = (k, 2, t) → g < B) (hA : A.length ≤ 8) (ip : I4) (p : Nat) (hc : CellsAt W p 0 (Ar.vals ⟨false, m, i, zM, ip⟩)) :
    ∃ a' c' w2, (Builtin.append_ #[53, 53] 53 #[av, .slice (some ⟨p, 0, none⟩) 1 1]).run Try.prog W = .ok (.slice a' (A.length + 1) c') w2 ∧ But (fun g => σ g = 2) W w2 ∧
      ∃ σ', RkR ρ k m i B (A ++ [ip]) G T σ' (.slice a' (A.length + 1) c') gv lv V w2 := by
  obtain ⟨i0, hi, hz0, hz1, hz2⟩ := info_parts info_ar
  obtain ⟨a', c', w2, hrun, hR, hb⟩ := h.ra.push 53 27 i0 _ Try.underlying53 hi hz0 hz1 (by omega) rfl (fun q _ => rfl) (fun q _ => ar_one _) (Ar.vals ⟨false, m, i, zM, ip⟩) rfl (ar_one _) p hc (by omega)
  have hs := hb.size
  have nB : ∀ g, g < B → ¬ σ g = 2 := fun g hg e => by have := (h.new g (by rw [e]; omega)).1; omega
  refine ⟨a', c', w2, hrun, hb, ?_⟩
  obtain ⟨σ', hσ'⟩ : ∃ σ' : Nat → Nat, ∀ g, σ' g = if W.heap.size ≤ g ∧ g < w2.heap.size then 2 else σ g := ⟨_, fun _ => rfl⟩
  have sn : ∀ g, σ g ≠ 0 → σ' g = σ g := fun g hg => by have := (h.new g hg).2; rw [hσ', if_neg (by omega)]
  have ne : ∀ q g, q ≠ 0 → q ≠ 2 → σ g = q → ¬ σ g = 2 := fun q g h0 h1 e e2 => h1 (e.symm.trans e2)
  have co : ∀ q g, q ≠ 0 → σ g = q → σ' g = q := fun q g h0 e => by rw [sn g (by rw [e]; exact h0)]; exact e
  refine ⟨σ', ⟨fun g hg => ?_, ?_, (h.rg.but hb (fun g => ne 3 g (by omega) (by omega))).own (fun g _ => co 3 g (by omega)), (h.rl.but hb (fun g => ne 1 g (by omega) (by omega))).own (fun g _ => co 1 g (by omega)), h.pd.but hb (fun g t e _ e2 => nB g (hρ g t e) e2) (fun _ _ _ e _ => e)⟩⟩
  · rw [hσ'] at hg
    split at hg
    · rename_i e; omega
    · have := h.new g hg; omega
  · have h2 := hR.own (O' := fun g => σ' g = 2) (fun g hg e => by
      rcases e with e | e
      · exact co 2 g (by omega) e
      · rw [hσ', if_pos (by omega)])
    rw [List.length_append]
    refine h2.cong (fun q hq => ?_)
    unfold arw
    by_cases e : q < A.length
    · rw [if_pos e, List.getElem?_append_left e]
    · have : q = A.length := by have : [ip].length = 1 := rfl; omega
      subst this
      simp
theorem RkR.gone (h : RkR ρ k m i B A G T σ av gv lv V W) (hBW : B ≤ W.heap.size) (hρ : ∀ g t, ρ g = (k, 2, t) → g < B) (M : List Int) (y : Value) {O : Nat → Prop} (hy : RowN O W y M) (hl : G.length + M.length ≤ 1000) :
    ∃ a' c' w2, (Builtin.append_ #[54, 54] 54 #[gv, y]).run Try.prog W = .ok (.slice a' (G ++ M).length c') w2 ∧ But (fun g => σ g = 3) W w2 ∧
      ∃ σ', RkR ρ k m i B A (G ++ M) T σ' av (.slice a' (G ++ M).length c') lv V w2 := by
  obtain ⟨a', c', w2, hrun, hR, hb⟩ := h.rg.appR hy (by omega)
  have hs := hb.size
  have nB : ∀ g, g < B → ¬ σ g = 3 := fun g hg e => by have := (h.new g (by rw [e]; omega)).1; omega
  refine ⟨a', c', w2, hrun, hb, ?_⟩
  obtain ⟨σ', hσ'⟩ : ∃ σ' : Nat → Nat, ∀ g, σ' g = if W.heap.size ≤ g ∧ g < w2.heap.size then 3 else σ g := ⟨_, fun _ => rfl⟩
  have sn : ∀ g, σ g ≠ 0 → σ' g = σ g := fun g hg => by have := (h.new g hg).2; rw [hσ', if_neg (by omega)]
  have ne : ∀ q g, q ≠ 0 → q ≠ 3 → σ g = q → ¬ σ g = 3 := fun q g h0 h1 e e2 => h1 (e.symm.trans e2)
  have co : ∀ q g, q ≠ 0 → σ g = q → σ' g = q := fun q g h0 e => by rw [sn g (by rw [e]; exact h0)]; exact e
  refine ⟨σ', ⟨fun g hg => ?_, (h.ra.but hb (fun g => ne 2 g (by omega) (by omega))).own (fun g _ => co 2 g (by omega)), ?_, (h.rl.but hb (fun g => ne 1 g (by omega) (by omega))).own (fun g _ => co 1 g (by omega)), h.pd.but hb (fun g t e _ e2 => nB g (hρ g t e) e2) (fun _ _ _ e _ => e)⟩⟩
  · rw [hσ'] at hg
    split at hg
    · rename_i e; omega
    · have := h.new g hg; omega
  · exact hR.own (fun g hg e => by
      rcases e with e | e
      · exact co 3 g (by omega) e
      · rw [hσ', if_pos e])
end
end Go.Proofs.Ytdcpnjlldocdcaa
