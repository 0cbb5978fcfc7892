
/-
  Package arp: makeRoom, of a cache.
-/
import Derived.Test.YtdcpnjlldocdcaaA19
namespace Go.Proofs.Ytdcpnjlldocdcaa
open Go.RowKit Go.Shelf

theorem RowF.only {n : Nat} {O : Nat → Prop} {W : World} {g m c len : Nat} {cs : Nat → List Value} (h : RowF n O W (.slice (some ⟨g, 0, none⟩) m c) len cs) : RowF n (Only g) W (.slice (some ⟨g, 0, none⟩) m c) len cs := by
  obtain ⟨a, cap, e, c2, c3, c4, c5⟩ := h
  refine ⟨a, cap, e, c2, c3, c4, fun ad ea => ?_⟩
  obtain ⟨g', d1, d2, rest⟩ := c5 ad ea
  subst ea
  simp only [Value.slice.injEq, Option.some.injEq] at e
  obtain ⟨rfl, _, _⟩ := e
  cases d1
  exact ⟨g, rfl, rfl, rest⟩
theorem nbc_nbl (L : List (Nat × Nb)) (V : Nat → Value) (q : Nat) : nbc L V q = nbl (L.map Prod.snd) V q := by
  unfold nbc nbl
  rw [List.getElem?_map]
  cases L[q]? <;> rfl
/-- what lies beyond n may turn -/
theorem But.from_ {n : Nat} {X w' : World} (h : Below n X w') : But (fun q => n ≤ q) X w' := ⟨h.os, h.tape, h.output, h.size, fun i hi hn => h.block i (by omega)⟩

section
variable {ρ : Nat → Role} {k : Nat} {W : World} {b : Nat} {m : M6} {i : I4} {lv : Value} {Lt : List (Nat × Nb)} {L : List Nb}
theorem room_lt (b : Nat) {w : World} {a : Option Addr} {n c : Nat} (cL : w.cell? ⟨b, 10, none⟩ = some (.slice a n c)) (hn : n < 8) : Calls Try.prog 37 #[.pointer (some ⟨b, 0, none⟩)] w fun e w' => e = .returned (.bool true) ∧ w' = w := by
  have zn : (n : Int) < 8 := by omega
  refine (callsIn_wide (n := 3)).1 ?_
  refine callsIn_of_wp_marks Try.func37 rfl trivial ?_ rfl
  simp only [Try.ntmps37, List.size_toArray, List.length_cons, List.length_nil, Nat.reduceAdd, Nat.reduceSub, Array.replicate_succ, Array.replicate_zero, List.push_toArray, List.append_toArray, List.nil_append, List.cons_append]
  gi_wp2
  refine wpIn_scope_straight ?_
  gi_wp2
  simp only [Exit.noGoto]
  exact ⟨.bool true, by simp [results, go_sem], rfl, rfl⟩
theorem CAt.makeRoom (h : CAt ρ k W b m i lv Lt) (hF : Fit ρ W) (hl : Lt.length ≤ 8) (hips : ((Lt.map Prod.snd).map Nb.ip).Nodup) :
    Calls Try.prog 37 #[.pointer (some ⟨b, 0, none⟩)] W fun e w' => e = .returned (.bool (room (Lt.map Prod.snd)).isSome) ∧ Ca ρ k w' b m i ((room (Lt.map Prod.snd)).getD (Lt.map Prod.snd)) ∧ Mv k ρ ρ W w' := by
  obtain ⟨V0, hR0, hP0⟩ := h.row.parts
  obtain ⟨a, c, rfl⟩ := hR0.shape
  by_cases h8 : Lt.length < 8
  · refine (room_lt b h.lst h8).mono ?_
    rintro _ _ ⟨rfl, rfl⟩
    have e : room (Lt.map Prod.snd) = some (Lt.map Prod.snd) := by unfold room; rw [if_pos (by simpa using h8)]
    rw [e]
    exact ⟨rfl, ⟨_, Lt, rfl, h⟩, Mv.refl _ _ _⟩
  · have e8 : Lt.length = 8 := by omega
    have e8' : (Lt.map Prod.snd).length = 8 := by simpa using e8
    obtain ⟨V, hV, hVe⟩ : ∃ V : Nat → Value, (∀ q, (V q).oneCell' = true) ∧ ∀ q, q < Lt.length → V q = V0 q := ⟨fun q => if q < Lt.length then V0 q else .slice none 0 0, fun q => by
      show (if q < Lt.length then V0 q else _).oneCell' = true
      split
      · rename_i hq
        exact (hP0 q _ _ (List.getElem?_eq_getElem hq)).1.one
      · rfl, fun q hq => by show (if q < Lt.length then V0 q else _) = _; rw [if_pos hq]⟩
    have hR : RowF 15 (fun g => ρ g = (k, 1, 0)) W (.slice a Lt.length c) Lt.length (nbc Lt V) := hR0.cong (fun q hq => by unfold nbc; rw [hVe q hq])
    have hP : Pds ρ k W Lt V := fun q t x hx => by rw [hVe q (List.getElem?_eq_some_iff.1 hx).1]; exact hP0 q t x hx
    obtain ⟨g, rfl, hg, hrg, _, _⟩ := hR.at (by omega)
    have hbg : b ≠ g := by rintro rfl; rw [h.rb] at hrg; simp at hrg
    have hRo := hR.only
    have hRl : RowF 15 (Only g) W (.slice (some ⟨g, 0, none⟩) (Lt.map Prod.snd).length c) (Lt.map Prod.snd).length (nbl (Lt.map Prod.snd) V) := by
      rw [List.length_map]
      exact hRo.cong (fun q _ => (nbc_nbl Lt V q).symm)
    refine (callsIn_wide.1 (room_in 3 (Nat.le_refl _) b g c (Lt.map Prod.snd) V (by rw [List.length_map]; exact h.lst) (h.fz 10) hbg hRl hV e8' hips)).mono ?_
    rintro e w' (⟨ho, rfl, hb⟩ | ⟨j, wd, ho, rfl, hb, hrow, hbd⟩)
    · have e : room (Lt.map Prod.snd) = none := by unfold room; rw [if_neg (by omega), e8', ho]; rfl
      rw [e]
      exact ⟨rfl, ⟨_, Lt, rfl, h.later hb⟩, Mv.below hb⟩
    · have e : room (Lt.map Prod.snd) = some ((Lt.map Prod.snd).eraseIdx j) := by unfold room; rw [if_neg (by omega), e8', ho]; rfl
      rw [e]
      have hj := (old_lt _ _ ho).1
      have le7 : (Lt.eraseIdx j).length = 7 := by rw [List.length_eraseIdx_of_lt (by omega)]; omega
      have getE : ∀ q, (Lt.eraseIdx j)[q]? = if q < j then Lt[q]? else Lt[q + 1]? := fun q => List.getElem?_eraseIdx
      have hn : NbRow ρ k wd (.slice (some ⟨g, 0, none⟩) 7 c) (Lt.eraseIdx j) := by
        refine NbRow.of (V := fun q => if q < j then V q else V (q + 1)) (O := Only g) ?_ (fun q _ e => by rw [e]; exact hrg) ?_
        · rw [le7]
          refine hrow.cong (fun q hq => ?_)
          unfold nbc
          rw [getE]
          by_cases e : q < j
          · rw [if_pos e]
            simp only [if_pos e]
            unfold nbl
            rw [List.getElem?_map]
            cases Lt[q]? <;> rfl
          · rw [if_neg e]
            simp only [if_neg e]
            unfold nbl
            rw [List.getElem?_map]
            cases Lt[q + 1]? <;> rfl
        · intro q t x hx
          rw [getE] at hx
          have key : ∀ q', Lt[q']? = some (t, x) → RowN (fun h => ρ h = (k, 2, t)) wd (V q') x.pd ∧ (x.pd = [] → V q' = .slice none 0 0) := fun q' hq' => by
            refine ⟨(hP q' t x hq').1.but hbd (fun q e e2 => ?_), (hP q' t x hq').2⟩
            have e2 : q = g := e2
            rw [e2, hrg] at e
            simp at e
          by_cases e : q < j
          · rw [if_pos e] at hx; simp only [if_pos e]; exact key q hx
          · rw [if_neg e] at hx; simp only [if_neg e]; exact key _ hx
      have hc := h.relist hbd hbg hn h.rb (by
        rw [show (Lt.eraseIdx j).map Prod.fst = (Lt.map Prod.fst).eraseIdx j from by
          refine List.ext_getElem? (fun q => ?_)
          rw [List.getElem?_map, List.getElem?_eraseIdx, List.getElem?_eraseIdx]
          split <;> rw [List.getElem?_map]]
        exact h.tags.sublist (List.eraseIdx_sublist _ _))
      have hm : (Lt.eraseIdx j).map Prod.snd = (Lt.map Prod.snd).eraseIdx j := by
        refine List.ext_getElem? (fun q => ?_)
        rw [List.getElem?_map, List.getElem?_eraseIdx, List.getElem?_eraseIdx]
        split <;> rw [List.getElem?_map]
      refine ⟨rfl, ⟨_, _, hm, hc.but (But.from_ hb) (fun q e e2 => ?_)⟩, ⟨fun _ _ _ => rfl, ?_⟩⟩
      · rw [hF q e2] at e
        have e : 0 = k := e
        have := h.pos
        omega
      · refine ((hbd.mono (fun q e => ?_)).setCell (p := ⟨b, 10, none⟩) (.inr ?_) _).trans' (But.from_ hb) (fun q hq e => absurd hq (by omega))
        · have e : q = g := e
          rw [e, hrg]
        · show (ρ b).1 = k
          rw [h.rb]
end
end Go.Proofs.Ytdcpnjlldocdcaa
