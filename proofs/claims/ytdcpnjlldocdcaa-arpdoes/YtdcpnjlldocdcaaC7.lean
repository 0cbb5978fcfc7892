
/-
  The document's cache: the contract of out.
-/
import Derived.Test.YtdcpnjlldocdcaaC6
namespace Go.Proofs.Ytdcpnjlldocdcaa
open Go.RowKit Go.Shelf

theorem nbc_erase {Lt : List (Nat × Nb)} {V : Nat → Value} {j : Nat} (q : Nat) : nbc (Lt.eraseIdx j) (fun q => if q < j then V q else V (q + 1)) q = if q < j then nbc Lt V q else nbc Lt V (q + 1) := by
  unfold nbc
  rw [List.getElem?_eraseIdx]
  by_cases e : q < j
  · simp only [if_pos e]
  · simp only [if_neg e]
theorem map_erase {α β : Type} (f : α → β) (l : List α) (k : Nat) : (l.eraseIdx k).map f = (l.map f).eraseIdx k := by
  induction l generalizing k with
  | nil => rfl
  | cons a l ih => cases k with
    | zero => rfl
    | succ k => simp [ih]

set_option maxRecDepth 100000 in
set_option maxHeartbeats 8000000 in
theorem rout_any {ρ : Nat → Role} {k : Nat} {w : World} {b : Nat} {m : M6} {i : I4} {lv : Value} {Lt : List (Nat × Nb)} (h : CAt ρ k w b m i lv Lt) (hF : Fit ρ w) (hlen : Lt.length ≤ 8) {j : Nat} (hj : j < Lt.length) :
    Calls Try.prog 45 #[.pointer (some ⟨b, 0, none⟩), .int .i64 (j : Int)] w fun e w' => e = .returned (.tuple #[]) ∧ ∃ ρ', Ca ρ' k w' b m i ((Lt.map Prod.snd).eraseIdx j) ∧ Fit ρ' w' ∧ Mv k ρ ρ' w w' := by
  obtain ⟨V, hR0, hP0⟩ := h.row.parts
  obtain ⟨a0, c0, rfl⟩ := hR0.shape
  obtain ⟨g, eg, hg0, hro, -, hc0⟩ := hR0.at (by omega)
  subst eg
  have hnc : Lt.length ≤ c0 := by
    obtain ⟨a9, c9, e9, h9, _⟩ := hR0
    simp only [Value.slice.injEq] at e9
    omega
  have S1 : ∃ a1 c1 w1, (Builtin.append_ #[41, 41] 41 #[.slice none 0 0, .slice (some ⟨g, 0, none⟩) j c0]).run Try.prog w = .ok (.slice a1 j c1) w1 ∧ RowF 15 (fun q => w.heap.size ≤ q) w1 (.slice a1 j c1) j (nbc Lt V) ∧ Below w.heap.size w w1 := by
    by_cases e : j = 0
    · subst e
      exact ⟨none, 0, w, run_appN_zero w none 0 0 (Nat.le_refl _) _ _, RowF.nil _ _ _ _, Below.refl _ _⟩
    · obtain ⟨a1, c1, w1, hrun, hR, hb⟩ := nb_more (RowF.nil 15 (fun _ => False) w (fun _ => [])) (fun q hq => by omega) (fun q hq => by omega) g 0 c0 j (nbc Lt V) (fun q hq => nbc_len (by omega)) (fun q hq => nbc_one hP0 (by omega)) (fun q hq => by rw [Nat.zero_add]; exact hc0 q (by omega)) (by omega) (by omega)
      rw [Nat.zero_add] at hrun hR
      refine ⟨a1, c1, w1, hrun, RowF.cong (c := fun q => if q < 0 then [] else nbc Lt V (q - 0)) (hR.own (fun q _ e => ?_)) (fun q hq => by rw [if_neg (by omega), Nat.sub_zero]), hb.below (Nat.le_refl _) (fun _ _ e => e)⟩
      rcases e with e | e
      · exact e.elim
      · omega
  obtain ⟨a1, c1, w1, run1, hR1, b1⟩ := S1
  have S2 : ∃ a2 c2 w2, (Builtin.append_ #[41, 41] 41 #[.slice a1 j c1, .slice (some ⟨g, if c0 = j + 1 then 0 else (j + 1) * 15, none⟩) (Lt.length - (j + 1)) (c0 - (j + 1))]).run Try.prog w1 = .ok (.slice a2 (Lt.length - 1) c2) w2 ∧ RowF 15 (fun q => w.heap.size ≤ q) w2 (.slice a2 (Lt.length - 1) c2) (Lt.length - 1) (nbc (Lt.eraseIdx j) (fun q => if q < j then V q else V (q + 1))) ∧ Below w.heap.size w w2 := by
    have lR : j ≤ c1 := by
      obtain ⟨a9, c9, e9, h9, _⟩ := hR1
      simp only [Value.slice.injEq] at e9
      omega
    by_cases e : Lt.length = j + 1
    · refine ⟨a1, c1, w1, ?_, ?_, b1⟩
      · rw [show Lt.length - (j + 1) = 0 by omega, show Lt.length - 1 = j by omega]
        exact run_appN_zero w1 a1 j c1 lR _ _
      · rw [show Lt.length - 1 = j by omega]
        exact hR1.cong (fun q hq => by rw [nbc_erase, if_pos hq])
    · have hc1 : ¬ c0 = j + 1 := by omega
      rw [if_neg hc1]
      obtain ⟨a2, c2, w2, hrun, hR, hb⟩ := nb_more hR1 (fun q hq => nbc_len (by omega)) (fun q hq => nbc_one hP0 (by omega)) g ((j + 1) * 15) (c0 - (j + 1)) (Lt.length - (j + 1)) (fun q => nbc Lt V (j + 1 + q)) (fun q hq => nbc_len (by omega)) (fun q hq => nbc_one hP0 (by omega)) (fun q hq => by rw [← Nat.add_mul]; exact (hc0 (j + 1 + q) (by omega)).later hg0 b1) (by omega) (by omega)
      rw [show j + (Lt.length - (j + 1)) = Lt.length - 1 by omega] at hrun hR
      refine ⟨a2, c2, w2, hrun, ?_, b1.trans (hb.below b1.size (fun q hq e => by have e : w.heap.size ≤ q := e; omega))⟩
      refine RowF.cong (c := fun q => if q < j then nbc Lt V q else nbc Lt V (j + 1 + (q - j))) (hR.own (fun q _ e => ?_)) (fun q hq => ?_)
      · rcases e with e | e
        · exact e
        · have := b1.size; omega
      · rw [nbc_erase]
        by_cases e2 : q < j
        · rw [if_pos e2, if_pos e2]
        · rw [if_neg e2, if_neg e2, show j + 1 + (q - j) = q + 1 by omega]
  obtain ⟨a2, c2, w2, run2, hR2, b2⟩ := S2
  obtain ⟨n, hn⟩ : ∃ n, n = Lt.length := ⟨_, rfl⟩
  have xl : w.cell? ⟨b, 10, none⟩ = some (.slice (some ⟨g, 0, none⟩) n c0) := by rw [hn]; exact h.lst
  have hbl := h.lt
  have x1 : w1.cell? ⟨b, 10, none⟩ = some (.slice (some ⟨g, 0, none⟩) n c0) := (b1.cell (p := ⟨b, 10, none⟩) hbl).trans xl
  have x2 : w2.cell? ⟨b, 10, none⟩ = some (.slice (some ⟨g, 0, none⟩) n c0) := (b2.cell (p := ⟨b, 10, none⟩) hbl).trans xl
  have f2 : w2.frozen? ⟨b, 10, none⟩ = false := (b2.frozen (p := ⟨b, 10, none⟩) hbl).trans (h.fz 10)
  obtain ⟨n1, hn1⟩ : ∃ n1, n1 = Lt.length - 1 := ⟨_, rfl⟩
  rw [← hn1] at run2 hR2
  rw [← hn] at run2
  obtain ⟨n2, hn2⟩ : ∃ n2, n2 = n - (j + 1) := ⟨_, rfl⟩
  obtain ⟨c3, hc3⟩ : ∃ c3, c3 = c0 - (j + 1) := ⟨_, rfl⟩
  obtain ⟨o3, ho3⟩ : ∃ o3, o3 = if c0 = j + 1 then 0 else (j + 1) * 15 := ⟨_, rfl⟩
  rw [← hn2, ← hc3, ← ho3] at run2
  obtain ⟨ρ', hρ'⟩ : ∃ ρ' : Nat → Role, ∀ q, ρ' q = if w.heap.size ≤ q ∧ q < w2.heap.size then (k, 1, 0) else if ρ q = (k, 1, 0) then (0, 0, 0) else ρ q := ⟨_, fun _ => rfl⟩
  have kp : ∀ q, q < w.heap.size → ρ q ≠ (k, 1, 0) → ρ' q = ρ q := fun q h1 h2 => by rw [hρ', if_neg (by omega), if_neg h2]
  have rbb := h.rb
  have hPe : Pds ρ' k w2 (Lt.eraseIdx j) (fun q => if q < j then V q else V (q + 1)) := by
    intro q t x hx
    rw [List.getElem?_eraseIdx] at hx
    have key : ∀ q, Lt[q]? = some (t, x) → RowN (fun h => ρ' h = (k, 2, t)) w2 (V q) x.pd ∧ (x.pd = [] → V q = .slice none 0 0) := fun q hq => by
      obtain ⟨r1, r2⟩ := hP0 q t x hq
      exact ⟨((r1.own (O' := fun h => ρ h = (k, 2, t) ∧ h < w.heap.size) (fun h hh e => ⟨e, hh⟩)).later b2).own (fun h _ e => (kp h e.2 (by rw [e.1]; simp)).trans e.1), r2⟩
    by_cases e : q < j
    · rw [if_pos e] at hx
      simp only [if_pos e]
      exact key q hx
    · rw [if_neg e] at hx
      simp only [if_neg e]
      exact key (q + 1) hx
  have el : (Lt.eraseIdx j).length = n1 := by rw [List.length_eraseIdx_of_lt hj, hn1]
  have hrow : NbRow ρ' k w2 (.slice a2 n1 c2) (Lt.eraseIdx j) := NbRow.of (V := fun q => if q < j then V q else V (q + 1)) (by rw [el]; exact hR2) (fun q hq e => by rw [hρ', if_pos ⟨e, hq⟩]) hPe
  have hcat := h.relist (K := fun _ => False) (But.of_below b2) id hrow ((kp b hbl (by rw [rbb]; simp)).trans rbb) (by rw [map_erase]; exact h.tags.sublist (List.eraseIdx_sublist _ _))
  have FIN : Hid (∃ ρ', Ca ρ' k (w2.setCell ⟨b, 10, none⟩ (.slice a2 n1 c2)) b m i ((Lt.map Prod.snd).eraseIdx j) ∧ Fit ρ' (w2.setCell ⟨b, 10, none⟩ (.slice a2 n1 c2)) ∧ Mv k ρ ρ' w (w2.setCell ⟨b, 10, none⟩ (.slice a2 n1 c2))) := by
    refine ⟨ρ', ⟨_, _, by rw [map_erase], hcat⟩, fun q hq => ?_, ⟨fun q hq hk => kp q hq (fun e => hk (by rw [e])), ?_⟩⟩
    · have hq : w2.heap.size ≤ q := by simpa using hq
      have hz := hF q (by have := b2.size; omega)
      rw [hρ', if_neg (by omega), if_neg (by rw [hz]; simp)]
      exact hz
    · exact (But.of_below b2).trans' ((But.refl (Only b) w2).setCell (p := ⟨b, 10, none⟩) (.inr rfl) _) (fun q _ e => by have e : q = b := e; rw [e, rbb])
  have jn : j ≤ n := by omega
  have jn1 : j + 1 ≤ n := by omega
  have nc : n ≤ c0 := by omega
  have c00 : 0 < c0 := by omega
  have zj : (j : Int) ≤ 8 := by omega
  have RUN1 := hide run1
  have RUN2 := hide run2
  have HJ := hide (And.intro jn (And.intro jn1 (And.intro nc c00)))
  have HO3 := hide ho3
  have HN2 := hide hn2
  have HC3 := hide hc3
  clear hR0 hP0 hg0 hro hc0 hnc run1 hR1 b1 run2 hR2 b2 hbl hn hn1 hn2 hc3 ho3 hρ' kp rbb hPe el hrow hcat jn jn1 nc c00 h hF hlen hj
  have EX : Hid (∀ (ev : Operand → Value) (o : Oper) (W : World) (x y : Operand), o.op = .slice 41 x (some y) none none → ev x = .slice (some ⟨g, 0, none⟩) n c0 → ev y = .int .i64 ((j : Int) + 1) → (execOp ev o).run Try.prog W = .ok (.value (.slice (some ⟨g, o3, none⟩) n2 c3)) W) := fun ev o W x y ho hx hy => by
    rw [HO3.out, HN2.out, HC3.out]
    exact exec_slG x y g n c0 (j + 1) ho hx hy HJ.out.2.1 HJ.out.2.2.1
  go_enter Try.func45, Try.ntmps45
  go_wp2_with (first | refine wpList_val rfl (exec_slF (.tmp 8) (.tmp 9) g n c0 j rfl rfl rfl HJ.out.1 HJ.out.2.2.1 HJ.out.2.2.2) ?_ | (at_builtin; refine wpList_appT rfl 41 _ _ rfl rfl _ _ rfl rfl RUN1.out ?_) | refine wpList_val rfl (EX.out _ _ _ (.tmp 17) (.tmp 19) rfl rfl rfl) ?_ | (at_builtin; refine wpList_appT rfl 41 _ _ rfl rfl _ _ rfl rfl RUN2.out ?_))
  go_end0
  exact ⟨rfl, FIN.out⟩
end Go.Proofs.Ytdcpnjlldocdcaa
