
/-
  Package arp: a cache in memory; whose a block is, is told by roles.
-/
import Derived.Test.YtdcpnjlldocdcaaA5
namespace Go.Proofs.Ytdcpnjlldocdcaa
open Go.RowKit

/-- whose a block is: (0, 0, 0) nobody's; (k, 0, 0) cache k's own, (k, 1, 0) its list's, (k, 2, t) those that wait for the neighbour with tag t -/
abbrev Role := Nat × Nat × Nat

/-- the slice lv holds the neighbours L, each with its tag -/
def NbRow (ρ : Nat → Role) (k : Nat) (W : World) (lv : Value) (L : List (Nat × Nb)) : Prop :=
  ∃ a cap, lv = .slice a L.length cap ∧ L.length ≤ cap ∧ cap ≤ maxLen ∧ (a = none → cap = 0) ∧ ∀ ad, a = some ad → ∃ g, ad = ⟨g, 0, none⟩ ∧ ρ g = (k, 1, 0) ∧ g < W.heap.size ∧ (∀ j, j < cap * 15 → (W.cell? ⟨g, j, none⟩).isSome = true) ∧ (∀ j, W.frozen? ⟨g, j, none⟩ = false) ∧
    ∀ q t x, L[q]? = some (t, x) → ∃ v, CellsAt W g (q * 15) (x.cells v) ∧ RowN (fun h => ρ h = (k, 2, t)) W v x.pd ∧ (x.pd = [] → v = .slice none 0 0)

theorem NbRow.but {ρ : Nat → Role} {k : Nat} {W W' : World} {lv : Value} {L : List (Nat × Nb)} {K : Nat → Prop} (h : NbRow ρ k W lv L) (hb : But K W W') (hk : ∀ g, (ρ g).1 = k → ¬ K g) : NbRow ρ k W' lv L := by
  obtain ⟨a, cap, c1, c2, c3, c4, c5⟩ := h
  refine ⟨a, cap, c1, c2, c3, c4, fun ad e => ?_⟩
  obtain ⟨g, d1, d2, d3, d4, d5, d6⟩ := c5 ad e
  have ng : ¬ K g := hk g (by rw [d2])
  refine ⟨g, d1, d2, Nat.lt_of_lt_of_le d3 hb.size, fun j hj => by rw [hb.cell (p := ⟨g, j, none⟩) d3 ng]; exact d4 j hj, fun j => (hb.frozen (p := ⟨g, j, none⟩) d3 ng).trans (d5 j), fun q t x hx => ?_⟩
  obtain ⟨v, e1, e2, e3⟩ := d6 q t x hx
  exact ⟨v, e1.but d3 hb ng, e2.but hb (fun g' hg' => hk g' (by rw [hg'])), e3⟩

/-- cache k lies at b: its host's addresses, its neighbours -/
structure CAt (ρ : Nat → Role) (k : Nat) (W : World) (b : Nat) (m : M6) (i : I4) (lv : Value) (L : List (Nat × Nb)) : Prop where
  rb : ρ b = (k, 0, 0)
  pos : 0 < k
  cells : CellsAt W b 0 (m.vals ++ (i.vals ++ [lv]))
  fz : ∀ j, W.frozen? ⟨b, j, none⟩ = false
  row : NbRow ρ k W lv L
  tags : (L.map Prod.fst).Nodup

section
variable {ρ : Nat → Role} {k : Nat} {W W' : World} {b : Nat} {m : M6} {i : I4} {lv : Value} {L : List (Nat × Nb)}
theorem CAt.lt (h : CAt ρ k W b m i lv L) : b < W.heap.size := h.cells.lt (by simp [M6.vals])
theorem CAt.but {K : Nat → Prop} (h : CAt ρ k W b m i lv L) (hb : But K W W') (hk : ∀ g, (ρ g).1 = k → ¬ K g) : CAt ρ k W' b m i lv L :=
  have nb : ¬ K b := hk b (by rw [h.rb])
  ⟨h.rb, h.pos, h.cells.but h.lt hb nb, fun j => (hb.frozen (p := ⟨b, j, none⟩) h.lt nb).trans (h.fz j), h.row.but hb hk, h.tags⟩
theorem CAt.later (h : CAt ρ k W b m i lv L) (hb : Below W.heap.size W W') : CAt ρ k W' b m i lv L := h.but (K := fun _ => False) (But.of_below hb) (fun _ _ => id)
theorem CAt.host (h : CAt ρ k W b m i lv L) : CellsAt W b 0 (m.vals ++ i.vals) := by
  have := h.cells
  rw [← List.append_assoc] at this
  exact (CellsAt.append.1 this).1
theorem CAt.lst (h : CAt ρ k W b m i lv L) : W.cell? ⟨b, 10, none⟩ = some lv := h.cells 10 lv rfl

/-- neighbour, of a cache -/
theorem CAt.neighbour (h : CAt ρ k W b m i lv L) (hl : L.length ≤ 1000) (ip : I4) :
    ∃ g, (0 < L.length → ρ g = (k, 1, 0) ∧ ∃ c, lv = .slice (some ⟨g, 0, none⟩) L.length c) ∧ Calls Try.prog 36 #[.pointer (some ⟨b, 0, none⟩), ip.val] W fun e w' => e = .returned (.pointer ((fndI ip (L.map Prod.snd)).map fun q => ⟨g, q * 15, none⟩)) ∧ Below W.heap.size W w' := by
  obtain ⟨a, cap, rfl, c2, c3, c4, c5⟩ := h.row
  have cl := h.lst
  cases a with
  | none =>
    have := c4 rfl
    have hL : L = [] := List.eq_nil_of_length_eq_zero (by omega)
    subst hL
    exact ⟨0, by simp, neighbour_any b 0 cap none [] cl (fun q x hx => by simp at hx) (by simp) ip⟩
  | some ad =>
    obtain ⟨g, rfl, d2, d3, d4, d5, d6⟩ := c5 ad rfl
    refine ⟨g, fun _ => ⟨d2, cap, rfl⟩, ?_⟩
    have cl : W.cell? ⟨b, 10, none⟩ = some (.slice (some ⟨g, 0, none⟩) (L.map Prod.snd).length cap) := by rw [List.length_map]; exact cl
    refine neighbour_any b g cap _ (L.map Prod.snd) cl (fun q x hx => ?_) (by simpa using hl) ip
    rw [List.getElem?_map] at hx
    cases hq : L[q]? with
    | none => rw [hq] at hx; cases hx
    | some p =>
      rw [hq] at hx
      cases hx
      obtain ⟨v, e1, _⟩ := d6 q p.1 p.2 hq
      exact ⟨rfl, (CellsAt.append.1 e1).1⟩
/-- request, of a cache -/
theorem CAt.request (h : CAt ρ k W b m i lv L) (ip : I4) : Calls Try.prog 33 #[.pointer (some ⟨b, 0, none⟩), ip.val] W fun e w' => e = .returned (Ar.val ⟨false, m, i, zM, ip⟩) ∧ Below W.heap.size W w' := request_any b m i ip h.host
end
end Go.Proofs.Ytdcpnjlldocdcaa
