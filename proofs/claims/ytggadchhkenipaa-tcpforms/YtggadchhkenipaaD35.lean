
/-
  append(nil, spans...), as many as there may be. TcpForms: how many spans are read.
-/
import Derived.Test.YtggadchhkenipaaD33
import Derived.Laws.AppendOwn
namespace Go.Proofs.Ytggadchhkenipaa
open Go.RowKit Go.Shelf

def spF (L : List Sp) : List Value := L.flatMap Sp.cells
theorem spF_len : ∀ L : List Sp, (spF L).length = L.length * 2
  | [] => rfl
  | x :: L => by
    have := spF_len L
    unfold spF at this ⊢
    rw [List.flatMap_cons, List.length_append, this, List.length_cons]
    show 2 + _ = _
    omega
theorem spF_at : ∀ (L : List Sp) (k r : Nat) (x : Sp), L[k]? = some x → r < 2 → (spF L)[k * 2 + r]? = x.cells[r]?
  | [], _, _, _, h, _ => by simp at h
  | y :: L, 0, r, x, h, hr => by
    cases h
    unfold spF
    rw [List.flatMap_cons, List.getElem?_append_left (by show _ < 2; omega), Nat.zero_mul, Nat.zero_add]
  | y :: L, k + 1, r, x, h, hr => by
    have := spF_at L k r x (by simpa using h) hr
    unfold spF at this ⊢
    rw [List.flatMap_cons, List.getElem?_append_right (by show 2 ≤ _; omega)]
    rw [show (k + 1) * 2 + r - y.cells.length = k * 2 + r by show _ - 2 = _; omega]
    exact this
theorem spF_one (L : List Sp) : ∀ u ∈ spF L, u.oneCell' = true := by
  intro u hu
  unfold spF at hu
  obtain ⟨x, _, hx⟩ := List.mem_flatMap.1 hu
  exact sp_one x u hx
theorem app_spans {P : Nat → Prop} {W : World} {gv : Value} {L : List Sp} (h : CG P W gv L) (hl : 8 * L.length ≤ 140737488351232) :
    ∃ v' w', (Builtin.append_ #[23, 23] 23 #[.slice none 0 0, gv]).run Try.prog W = .ok v' w' ∧ CG (fun g => W.heap.size ≤ g) w' v' L ∧ Below W.heap.size W w' := by
  obtain ⟨i0, hi0, hz0, hz1, hz2⟩ := info_parts info_sp
  obtain ⟨a, cap, rfl, hlc, hnil, hc⟩ := h
  cases a with
  | none =>
    have h0 := hnil rfl
    subst h0
    have eL : L = [] := List.eq_nil_of_length_eq_zero (by omega)
    subst eL
    have hrun := run_append_owned_none (P := Try.prog) W W.heap.size 23 23 68 i0 2 Try.underlying23 hi0 (.slice none 0 0) 0 _ (World.ownsRow_nil W W.heap.size 68 2)
    exact ⟨_, W, hrun, CG.nil _ _, Below.refl _ _⟩
  | some ad =>
    have hnews : ∀ j u, (spF L)[j]? = some u → W.cell? (ad.add j) = some u := fun j u hu => by
      have hj : j < L.length * 2 := by rw [← spF_len]; exact (List.getElem?_eq_some_iff.1 hu).1
      obtain ⟨g, off, e, _, hgl, hcs⟩ := hc (by omega)
      cases e
      have hk : j / 2 < L.length := by omega
      have hx := List.getElem?_eq_getElem hk
      have h1 := spF_at L (j / 2) (j % 2) _ hx (by omega)
      rw [show j / 2 * 2 + j % 2 = j by omega, hu] at h1
      have h2 := hcs (j / 2) _ hx (j % 2) u h1.symm
      rw [Addr.add_lit]
      rw [show off + j = off + j / 2 * 2 + j % 2 by omega]
      exact h2
    obtain ⟨v', w', hrun, ho, hg, _⟩ := run_append_own (P := Try.prog) W W.heap.size 23 23 68 i0 _ 2 8 Try.underlying23 hi0 hz0 hz1 hz2 rfl (by decide) (.slice none 0 0) 0 [] (World.ownsRow_nil W W.heap.size 68 2) ad L.length cap (spF L) (spF_len L) hnews (spF_one L) (by unfold maxLen; omega) (by omega) (Nat.le_refl _)
    rw [Nat.zero_add, List.nil_append] at ho
    refine ⟨v', w', hrun, ?_, (Below.refl _ W).grown hg (Nat.le_refl _) (fun k hk => by cases hk)⟩
    obtain ⟨h1, ⟨e, e0⟩ | ⟨g, c', cur, e, hb, hgg, h2, h3, h4, h5⟩⟩ := ho
    · have eL : L = [] := List.eq_nil_of_length_eq_zero e0
      subst eL
      rw [e]
      exact CG.nil _ _
    · subst e
      have hown : w'.ownsRow W.heap.size 68 2 (.slice (some ⟨g, 0, none⟩) L.length c') L.length (spF L) := ⟨h1, .inr ⟨g, c', cur, rfl, hb, hgg, h2, h3, h4, h5⟩⟩
      refine ⟨_, c', rfl, h2, (fun e => by cases e), fun h0 => ⟨g, 0, rfl, hb, (Array.getElem?_eq_some_iff.1 hgg).1, fun k x hx j u hu => ?_⟩⟩
      have hj : j < 2 := (List.getElem?_eq_some_iff.1 hu).1
      have hk : k < L.length := (List.getElem?_eq_some_iff.1 hx).1
      rw [Nat.zero_add, World.ownsRow.cellAt hown (k * 2 + j) (by omega), spF_at L k j x hx hj]
      exact hu

theorem oneO_got {syn : Bool} {o : List Int} {r : Ro} (h : r.got.length ≤ 3) : (oneO syn o r).got.length ≤ 3 := by
  unfold oneO
  split
  · exact h
  · split
    · exact h
    · split
      · rename_i h3
        have h4 := h3.2
        unfold areS at h4
        rw [decide_eq_true_eq] at h4
        show (spL _ _).length ≤ 3
        rw [spL_len]
        omega
      · exact h
theorem rdO_got {syn : Bool} : ∀ (m : Nat) (b : List Int) (r : Ro), b.length ≤ m → r.got.length ≤ 3 → (rdO syn b r).2.got.length ≤ 3
  | 0, b, r, hm, h => by
    have e : b = [] := List.eq_nil_of_length_eq_zero (by omega)
    subst e
    rw [rdO_nil]
    exact h
  | m + 1, b, r, hm, h => by
    by_cases h0 : b.length = 0
    · have e : b = [] := List.eq_nil_of_length_eq_zero h0
      subst e
      rw [rdO_nil]
      exact h
    · by_cases h1 : b[0]?.getD 0 = 0
      · rw [rdO_end (by omega) h1]; exact h
      · by_cases h2 : szT b = 0
        · rw [rdO_bad (by omega) h1 h2]; exact h
        · rw [rdO_more (by omega) h1 h2]
          exact rdO_got m _ _ (by rw [List.length_drop]; omega) (oneO_got h)
theorem tdS_got (x y : I4) (bs : List Int) : (tdS x y bs).got.length ≤ 3 := by
  unfold tdS
  split
  · show (tdR bs).2.got.length ≤ 3
    exact rdO_got _ _ _ (Nat.le_refl _) (by decide)
  · decide
theorem tdS_dat {x y : I4} {bs : List Int} (hB : Bytes bs) : (tdS x y bs).dat.length ≤ 1024 := by
  unfold tdS
  split
  · rename_i h
    have h0 : tfE x y bs = 0 := by
      unfold tdE at h
      by_cases e : tfE x y bs = 0
      · exact e
      · rw [if_pos e] at h; exact absurd h e
    obtain ⟨_, _, _, h4, _⟩ := tfE_zero hB h0
    show (bs.drop (hsN bs)).length ≤ 1024
    rw [List.length_drop]
    omega
  · decide
end Go.Proofs.Ytggadchhkenipaa
