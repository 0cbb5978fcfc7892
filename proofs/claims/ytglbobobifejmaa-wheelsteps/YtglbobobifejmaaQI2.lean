
/-
  slices.Insert of one timer at a slot's end, with room or without.
-/
import Derived.Test.YtglbobobifejmaaQI
namespace Go.Proofs.Ytglbobobifejmaa
open Go.RowKit

/-- elements appended to a row of the call's own: its block is the old one, or new -/
theorem run_more {B : Nat} {W : World} (T e : TypeId) (i : TypeInfo) (z : Value) (sz bytes : Nat) (ht : Try.prog.underlying T = some (.slice e)) (hi : Try.prog.info? e = some i) (hz : i.zero = some z) (hsz : i.size = sz) (hby : i.bytes = bytes) (hzs : z.cells.size = sz) (h0 : 0 < sz)
    {v : Value} {n : Nat} {xs : List Value} (hx : W.ownsRow B e sz v n xs) (ad : Addr) (m c : Nat) (news : List Value) (hnl : news.length = m * sz) (hnews : ∀ (j : Nat) (u : Value), news[j]? = some u → W.cell? (ad.add j) = some u) (h1 : ∀ u ∈ news, u.oneCell' = true) (hm : 0 < m) (hB : B ≤ W.heap.size) (hl : n + m ≤ maxLen) (hl2 : (n + m) * bytes ≤ 140737488355328) :
    ∃ g' c' w', (Builtin.append_ #[T, T] T #[v, .slice (some ad) m c]).run Try.prog W = .ok (.slice (some ⟨g', 0, none⟩) (n + m) c') w' ∧ w'.ownsRow B e sz (.slice (some ⟨g', 0, none⟩) (n + m) c') (n + m) (xs ++ news) ∧ But (fun k => v.ownBlock = some k) W w' ∧
      (v.ownBlock = some g' ∨ W.heap.size ≤ g') ∧ n + m ≤ c' ∧ g' < w'.heap.size := by
  obtain ⟨v', w', hrun, ho, hg, _⟩ := run_append_own (P := Try.prog) W B T T e i z sz bytes ht hi hz hsz hby hzs h0 v n xs hx ad m c news hnl hnews h1 hl hl2 hB
  have hbut : But (fun k => v.ownBlock = some k) W w' := ⟨hg.os, hg.tape, hg.output, hg.size, fun k hk hne => hg.block k hk (fun e => hne e.symm)⟩
  have ho' := ho
  obtain ⟨_, ⟨e1, hz0⟩ | ⟨k', c', cur, rfl, hk', hh, hc', _⟩⟩ := ho
  · omega
  refine ⟨k', c', w', hrun, ho', hbut, ?_, hc', (Array.getElem?_eq_some_iff.1 hh).1⟩
  have hxw := hx
  obtain ⟨hxl, ⟨rfl, rfl⟩ | ⟨g0, cp, cur0, rfl, hg0, hh0, hnc, hcm, hcs, htk⟩⟩ := hx
  · have hxs : xs = [] := List.eq_nil_of_length_eq_zero (by simpa using hxl)
    subst hxs
    obtain ⟨v2, w2, hrun2, ho2, _, _⟩ := run_append_own (P := Try.prog) W W.heap.size T T e i z sz bytes ht hi hz hsz hby hzs h0 _ 0 [] (World.ownsRow_nil W W.heap.size e sz) ad m c news hnl hnews h1 hl hl2 (Nat.le_refl _)
    rw [hrun] at hrun2
    simp only [Result.ok.injEq] at hrun2
    obtain ⟨rfl, rfl⟩ := hrun2
    obtain ⟨_, ⟨e3, _⟩ | ⟨k3, c3, cur3, e3, hk3, _⟩⟩ := ho2
    · simp at e3
    · simp only [Value.slice.injEq, Option.some.injEq, Addr.mk.injEq, and_true] at e3
      obtain ⟨rfl, _⟩ := e3
      exact .inr hk3
  · by_cases hroom : n + m ≤ cp
    · obtain ⟨w2, hrun2, _, _⟩ := run_append_own_spare (P := Try.prog) W B T T e i sz ht hi hsz g0 n cp xs hxw ad m c news hnl hnews h1 hroom
      rw [hrun] at hrun2
      simp only [Result.ok.injEq, Value.slice.injEq, Option.some.injEq, Addr.mk.injEq, and_true] at hrun2
      rw [hrun2.1.1]
      exact .inl rfl
    · have hr := run_append_grow (P := Try.prog) W T T e i z ht hi hz ⟨g0, 0, none⟩ n cp xs (by rw [hsz]; exact hxl) (hxw.cells (g := g0) rfl) ad m c news (by rw [hsz]; exact hnl) hnews (by omega) (by unfold maxLen at hl; omega) (growslice_fits (by omega) (by rw [hby]; exact hl2))
      rw [hrun] at hr
      simp only [Result.ok.injEq, Value.slice.injEq, Option.some.injEq, Addr.mk.injEq, and_true] at hr
      rw [hr.1.1]
      exact .inr (Nat.le_refl _)

set_option maxRecDepth 100000 in
set_option maxHeartbeats 4000000 in
theorem Insert_end {w : World} {v : Value} {l : List (Int × Int)} {s : Nat} {u0 u1 : Value} (h : RowL w v l) (hl : l.length ≤ 64) (hs : w.heap[s]? = some (.cells #[u0, u1] 49 (0, 0))) (h1 : ∀ u ∈ [u0, u1], u.oneCell' = true) :
    Calls Try.prog 33 #[v, .int .i64 (l.length : Int), .slice (some ⟨s, 0, none⟩) 1 1] w fun e w' => ∃ g' c', e = .returned (.slice (some ⟨g', 0, none⟩) (l.length + 1) c') ∧ w'.ownsRow 0 49 2 (.slice (some ⟨g', 0, none⟩) (l.length + 1) c') (l.length + 1) (flt l ++ [u0, u1]) ∧ But (fun k => v.ownBlock = some k) w w' ∧ (v.ownBlock = some g' ∨ w.heap.size ≤ g') ∧ g' < w'.heap.size := by
  obtain ⟨inf, hi, hz0, hz1, hz2⟩ := info_parts info_fi
  have hsrc : ∀ j u, [u0, u1][j]? = some u → w.cell? ((⟨s, 0, none⟩ : Addr).add j) = some u := fun j u hv => by
    rw [Addr.add_lit, cell_of_row w s (0 + j) _ _ _ hs, Nat.zero_add]
    simpa using hv
  obtain ⟨g', c', w', hrun, ho, hbut, hwh, _, hlt⟩ := run_more 54 49 inf _ 2 16 Try.underlying54 hi hz0 hz1 hz2 rfl (by omega) h ⟨s, 0, none⟩ 1 1 [u0, u1] rfl hsrc h1 (by omega) (Nat.zero_le _) (by unfold maxLen; omega) (by omega)
  have HR := hide hrun
  have FIN := hide (show ∃ g'' c'', Ending.returned (.slice (some ⟨g', 0, none⟩) (l.length + 1) c') = .returned (.slice (some ⟨g'', 0, none⟩) (l.length + 1) c'') ∧ w'.ownsRow 0 49 2 (.slice (some ⟨g'', 0, none⟩) (l.length + 1) c'') (l.length + 1) (flt l ++ [u0, u1]) ∧ But (fun k => v.ownBlock = some k) w w' ∧ (v.ownBlock = some g'' ∨ w.heap.size ≤ g'') ∧ g'' < w'.heap.size from ⟨g', c', rfl, ho, hbut, hwh, hlt⟩)
  have zl : (l.length : Int) ≤ 64 := by omega
  have sh : (v = .slice none 0 0 ∧ l.length = 0) ∨ ∃ g c, v = .slice (some ⟨g, 0, none⟩) l.length c ∧ l.length ≤ c ∧ (c : Int) ≤ 9223372036854775807 := by
    obtain ⟨_, ⟨rfl, h0⟩ | ⟨g, cap, cur, rfl, _, _, h1, h2, _⟩⟩ := h
    · exact .inl ⟨rfl, h0⟩
    · exact .inr ⟨g, cap, rfl, h1, by unfold maxLen at h2; omega⟩
  clear hrun ho hbut hwh hlt hsrc hi hz0 hz1 hz2 hs h1 h
  rcases sh with ⟨rfl, e0⟩ | ⟨g, c, rfl, hc, hc2⟩
  · rw [e0] at HR FIN ⊢
    go_enter Try.func33, Try.ntmps33
    go_wp2_with (at_builtin; refine wpList_app rfl _ _ 54 32 rfl _ _ rfl rfl HR.out ?_)
    go_ret
    exact FIN.out
  · generalize l.length = n at *
    have x1 : (n : Int) ≤ c := by omega
    go_enter Try.func33, Try.ntmps33
    go_wp2_with (at_builtin; refine wpList_app rfl _ _ 54 32 rfl _ _ rfl rfl HR.out ?_)
    all_goals go_ret
    all_goals exact FIN.out
end Go.Proofs.Ytglbobobifejmaa
