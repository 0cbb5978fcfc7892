
/-
  Ip4Forms: the walk.
-/
import Derived.Test.YtiglejmmdghmgaaI23
import Derived.Test.YtiglejmmdghmgaaI27
import Derived.Test.YtiglejmmdghmgaaI28
namespace Go.Proofs.Ytiglejmmdghmgaa
open Go.RowKit Go.Shelf

theorem Gro.away {B : Nat} {K : Nat → Prop} {A W : World} {v : Value} {bs : List Int} (h : Gro B A v bs) (hb : But K A W) (hk : ∀ g x y, v = .slice (some ⟨g, 0, none⟩) x y → ¬ K g) : Gro B W v bs := by
  obtain ⟨h1, h2 | ⟨g, cap, cur, rfl, hg, hh, r⟩⟩ := h
  · exact ⟨h1, .inl h2⟩
  · exact ⟨h1, .inr ⟨g, cap, cur, rfl, hg, by rw [hb.block g (Array.getElem?_eq_some_iff.1 hh).1 (hk g _ _ rfl)]; exact hh, r⟩⟩
theorem Gro.lies {B : Nat} {W : World} {v : Value} {bs : List Int} (h : Gro B W v bs) : ∀ g x y, v = .slice (some ⟨g, 0, none⟩) x y → B ≤ g ∧ g < W.heap.size := by
  intro g x y e
  obtain ⟨h1, ⟨rfl, _⟩ | ⟨g', cap, cur, rfl, hg, hh, r⟩⟩ := h
  · cases e
  · cases e
    exact ⟨hg, (Array.getElem?_eq_some_iff.1 hh).1⟩
/-- what is written, whether a packet may be or not -/
def enL (p : Pk) (b : List Int) : List Int := if enE p b.length = 0 then enB p b else []
theorem EnE.one {n0 : Nat} {w w' : World} {p : Pk} {b : List Int} {e : Ending} (h : EnE n0 w p b e w') : Below n0 w w' ∧ ∃ a c, e = .returned (.tuple #[.slice a (enL p b).length c, .int .i64 (enE p b.length)]) ∧ Gro n0 w' (.slice a (enL p b).length c) (enL p b) := by
  obtain ⟨hb, ⟨he, v, rfl, hg⟩ | ⟨hne, rfl⟩⟩ := h
  · have e : enL p b = enB p b := by unfold enL; rw [if_pos he]
    rw [e, he]
    obtain ⟨a, c, rfl, _⟩ := hg.isB.shape
    exact ⟨hb, a, c, rfl, hg⟩
  · have e : enL p b = [] := by unfold enL; rw [if_neg hne]
    rw [e]
    exact ⟨hb, none, 0, rfl, Gro.nil _ _⟩
/-- what is read, whether it may be or not -/
def deQ (r : List Int) : Pk := if faE r = 0 then deP r else zP
def deC (r : List Int) : List Int := if faE r = 0 then deD r else []
theorem deQ_opts {r : List Int} (hR : Bytes r) (h : faE r = 0) : (deQ r).opts = (hdL r).drop 20 := by
  obtain ⟨F1, F2, F3, F4, F5, F6, F7, F8, F9⟩ := forth_all hR h
  unfold deQ
  rw [if_pos h]
  exact F6
theorem DeE.one {n0 : Nat} {w w' : World} {r : List Int} {e : Ending} (hR : Bytes r) (h : DeE n0 w r e w') : Below n0 w w' ∧ ∃ ao co ad cd n1, e = .returned (.tuple #[.agg ((deQ r).cells (.slice ao (deQ r).opts.length co)).toArray, .slice ad (deC r).length cd, .int .i64 (faE r)]) ∧ Gro n0 w' (.slice ao (deQ r).opts.length co) (deQ r).opts ∧ Gro n1 w' (.slice ad (deC r).length cd) (deC r) ∧ n0 ≤ n1 ∧ ∀ g, ao = some ⟨g, 0, none⟩ → g < n1 := by
  obtain ⟨hb, ⟨hne, rfl⟩ | ⟨he, ov, dv, n1, rfl, go, gd, hn, hs⟩⟩ := h
  · have e1 : deQ r = zP := by unfold deQ; rw [if_neg hne]
    have e2 : deC r = [] := by unfold deC; rw [if_neg hne]
    rw [e1, e2]
    exact ⟨hb, none, 0, none, 0, n0, rfl, Gro.nil _ _, Gro.nil _ _, Nat.le_refl _, fun g e => by cases e⟩
  · have e0 := deQ_opts hR he
    have e1 : deQ r = deP r := by unfold deQ; rw [if_pos he]
    have e2 : deC r = deD r := by unfold deC; rw [if_pos he]
    rw [e1] at e0
    rw [e1, e2, he]
    rw [← e0] at go
    obtain ⟨a, c, rfl, _⟩ := go.isB.shape
    obtain ⟨a2, c2, rfl, _⟩ := gd.isB.shape
    exact ⟨hb, a, c, a2, c2, n1, rfl, go, gd, hn, fun g e => hs g _ _ (by rw [e])⟩
theorem RDe.one {n0 : Nat} {w w' : World} {r : List Int} {e : Ending} (hR : Bytes r) (h : RDe n0 w r e w') : Below n0 w w' ∧ ∃ ao co ad cd, e = .returned (.tuple #[.agg ((deQ r).cells (.slice ao (deQ r).opts.length co)).toArray, .slice ad (deC r).length cd, .int .i64 (faE r)]) ∧ IsB w'.heap.size w' (.slice ao (deQ r).opts.length co) (deQ r).opts ∧ IsB w'.heap.size w' (.slice ad (deC r).length cd) (deC r) := by
  obtain ⟨hb, ⟨hne, rfl⟩ | ⟨he, ov, dv, rfl, go, gd⟩⟩ := h
  · have e1 : deQ r = zP := by unfold deQ; rw [if_neg hne]
    have e2 : deC r = [] := by unfold deC; rw [if_neg hne]
    rw [e1, e2]
    exact ⟨hb, none, 0, none, 0, rfl, IsB.nil _ _, IsB.nil _ _⟩
  · have e0 := deQ_opts hR he
    have e1 : deQ r = deP r := by unfold deQ; rw [if_pos he]
    have e2 : deC r = deD r := by unfold deC; rw [if_pos he]
    rw [e1] at e0
    rw [e1, e2, he]
    rw [← e0] at go
    obtain ⟨a, c, rfl, _⟩ := go.shape
    obtain ⟨a2, c2, rfl, _⟩ := gd.shape
    exact ⟨hb, a, c, a2, c2, rfl, go, gd⟩
end Go.Proofs.Ytiglejmmdghmgaa
