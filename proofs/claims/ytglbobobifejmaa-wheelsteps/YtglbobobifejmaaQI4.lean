
/-
  slices.Insert of one timer into any slot.
-/
import Derived.Test.YtglbobobifejmaaQI3
namespace Go.Proofs.Ytglbobobifejmaa
open Go.RowKit

/-- p at the place k -/
def insAt (l : List (Int × Int)) (k : Nat) (p : Int × Int) : List (Int × Int) := l.take k ++ [p] ++ l.drop k
theorem insAt_len (l : List (Int × Int)) (k : Nat) (p : Int × Int) (hk : k ≤ l.length) : (insAt l k p).length = l.length + 1 := by
  unfold insAt; simp only [List.length_append, List.length_take, List.length_drop, List.length_cons, List.length_nil]; omega
theorem flt_insAt (l : List (Int × Int)) (k : Nat) (p : Int × Int) (hk : k ≤ l.length) : flt (insAt l k p) = (flt l).take (k * 2) ++ [.int .i64 p.1, .int .i64 p.2] ++ (flt l).drop (k * 2) := by
  unfold insAt; rw [flt_append, flt_append, flt_take _ _ hk, flt_drop _ _ hk]; rfl

theorem Insert_slot {w : World} {v : Value} {l : List (Int × Int)} {s k : Nat} {p : Int × Int} (h : RowL w v l) (hl : l.length ≤ 64) (hk : k ≤ l.length) (hs : w.heap[s]? = some (.cells #[.int .i64 p.1, .int .i64 p.2] 49 (0, 0))) (hne : v.ownBlock ≠ some s) :
    Calls Try.prog 33 #[v, .int .i64 (k : Int), .slice (some ⟨s, 0, none⟩) 1 1] w fun e w' => ∃ g' c', e = .returned (.slice (some ⟨g', 0, none⟩) (l.length + 1) c') ∧ RowL w' (.slice (some ⟨g', 0, none⟩) (l.length + 1) c') (insAt l k p) ∧ But (fun k => v.ownBlock = some k) w w' ∧ (v.ownBlock = some g' ∨ w.heap.size ≤ g') ∧ g' < w'.heap.size := by
  have h1 : ∀ u ∈ [Value.int .i64 p.1, .int .i64 p.2], u.oneCell' = true := by
    intro u hu
    simp only [List.mem_cons, List.not_mem_nil, or_false] at hu
    rcases hu with rfl | rfl <;> rfl
  have rl : ∀ (w' : World) (g' c' : Nat), w'.ownsRow 0 49 2 (.slice (some ⟨g', 0, none⟩) (l.length + 1) c') (l.length + 1) ((flt l).take (k * 2) ++ [.int .i64 p.1, .int .i64 p.2] ++ (flt l).drop (k * 2)) → RowL w' (.slice (some ⟨g', 0, none⟩) (l.length + 1) c') (insAt l k p) := fun w' g' c' ho => by
    unfold RowL
    rw [insAt_len l k p hk, flt_insAt l k p hk]; exact ho
  by_cases e : k = l.length
  · subst e
    refine (Insert_end h hl hs h1).mono ?_
    rintro _ w' ⟨g', c', rfl, ho, hb, hg, hlt⟩
    refine ⟨g', c', rfl, rl w' g' c' ?_, hb, hg, hlt⟩
    rw [List.take_of_length_le (by rw [flt_len]; omega), List.drop_of_length_le (by rw [flt_len]; omega), List.append_nil]; exact ho
  · have hk' : k < l.length := by omega
    have h' := h
    obtain ⟨hxl, ⟨e1, hz⟩ | ⟨g, c, cur, rfl, hg, hh, hnc, rr⟩⟩ := h
    · omega
    by_cases hr : l.length + 1 ≤ c
    · refine (Insert_any h' (flt_one l) hr hk hs (fun e => hne (by rw [e]; rfl)) h1).mono ?_
      rintro _ w' ⟨rfl, ho, hb⟩
      exact ⟨g, c, rfl, rl w' g c ho, hb.mono (fun x e => by have e : x = g := e; rw [e]; rfl), .inl rfl, Nat.lt_of_lt_of_le (Array.getElem?_eq_some_iff.1 hh).1 hb.size⟩
    · obtain rfl : c = l.length := by omega
      refine (Insert_grow h' (flt_one l) hl hk' hs h1).mono ?_
      rintro _ w' ⟨g', c', rfl, ho, hb, hg', hlt⟩
      exact ⟨g', c', rfl, rl w' g' c' ho, But.of_below hb, .inr hg', hlt⟩
end Go.Proofs.Ytglbobobifejmaa
