
/-
  Package arp: how a cache in memory turns.
-/
import Derived.Test.YtdcpnjlldocdcaaA15
namespace Go.Proofs.Ytdcpnjlldocdcaa
open Go.RowKit

/-- W' is W but for the cells from o to o + 15 of block g -/
structure Near (W W' : World) (g o : Nat) : Prop where
  but : But (Only g) W W'
  out : ∀ j, j < o ∨ o + 15 ≤ j → W'.cell? ⟨g, j, none⟩ = W.cell? ⟨g, j, none⟩
  fz : ∀ j, W'.frozen? ⟨g, j, none⟩ = W.frozen? ⟨g, j, none⟩
  is : ∀ j, (W.cell? ⟨g, j, none⟩).isSome = true → (W'.cell? ⟨g, j, none⟩).isSome = true
theorem Near.refl (W : World) (g o : Nat) : Near W W g o := ⟨But.refl _ _, fun _ _ => rfl, fun _ => rfl, fun _ h => h⟩
theorem Near.trans {W W1 W2 : World} {g o : Nat} (h : Near W W1 g o) (k : Near W1 W2 g o) : Near W W2 g o :=
  ⟨h.but.trans k.but, fun j hj => (k.out j hj).trans (h.out j hj), fun j => (k.fz j).trans (h.fz j), fun j hj => k.is j (h.is j hj)⟩
theorem is_setCells {W : World} {g o : Nat} {cs : List Value} (hc : ∀ j, j < cs.length → (W.cell? ⟨g, o + j, none⟩).isSome = true) (j : Nat) (h : (W.cell? ⟨g, j, none⟩).isSome = true) : ((W.setCells g o cs).cell? ⟨g, j, none⟩).isSome = true := by
  by_cases e : o ≤ j ∧ j < o + cs.length
  · rw [show j = o + (j - o) by omega, World.cell?_setCells_in g cs o W (fun i hi => hc i hi) (j - o) (by omega)]; rfl
  · rw [setCells_out (by omega)]; exact h
theorem Near.cells {W W1 : World} {g o : Nat} (h : Near W W1 g o) (p : Nat) (cs : List Value) (hp : p + cs.length ≤ 15) (hc : ∀ j, j < cs.length → (W1.cell? ⟨g, o + p + j, none⟩).isSome = true) : Near W (W1.setCells g (o + p) cs) g o :=
  h.trans ⟨But.cells g cs _ _, fun j hj => setCells_out (by omega), fun j => World.frozen?_setCells _ _ _ _ _, fun j hj => is_setCells hc j hj⟩
theorem setCell_one (W : World) (g o : Nat) (v : Value) : W.setCell ⟨g, o, none⟩ v = W.setCells g o [v] := rfl
theorem Near.cell {W W1 : World} {g o : Nat} (h : Near W W1 g o) (p : Nat) (v : Value) (hp : p < 15) (hc : (W1.cell? ⟨g, o + p, none⟩).isSome = true) : Near W (W1.setCell ⟨g, o + p, none⟩ v) g o := by
  rw [setCell_one]
  exact h.cells p [v] (by simp; omega) (fun j hj => by rw [show j = 0 by simpa using hj]; exact hc)
theorem Near.alloc {W W1 : World} {g o : Nat} (h : Near W W1 g o) (hg : g < W.heap.size) (x : Obj) : Near W (W1.alloc x) g o := by
  have hb : But (fun _ => False) W1 (W1.alloc x) := (But.refl _ _).alloc x
  have hg1 : g < W1.heap.size := Nat.lt_of_lt_of_le hg h.but.size
  exact h.trans ⟨hb.mono (fun _ e => e.elim), fun j _ => hb.cell (p := ⟨g, j, none⟩) hg1 id, fun j => hb.frozen (p := ⟨g, j, none⟩) hg1 id, fun j hj => by rw [hb.cell (p := ⟨g, j, none⟩) hg1 id]; exact hj⟩
theorem Near.drew {W W1 : World} {g o : Nat} (h : Near W W1 g o) : Near W W1.drew g o := ⟨h.but.drew, h.out, h.fz, h.is⟩
/-- cells that are stored one by one -/
theorem CellsAt.put {W : World} {s o : Nat} {vs : List Value} (h : CellsAt W s o vs) (p : Nat) (u : Value) (hp : p < vs.length) : CellsAt (W.setCell ⟨s, o + p, none⟩ u) s o (vs.set p u) := fun j v hv => by
  rw [List.getElem?_set] at hv
  by_cases e : p = j
  · subst e
    rw [if_pos rfl, if_pos hp] at hv
    cases hv
    exact World.cell?_setCell_same _ _ _ (h p _ (List.getElem?_eq_getElem hp))
  · rw [if_neg e] at hv
    rw [setCell_out (by omega)]
    exact h j v hv
theorem CellsAt.is {W : World} {s o : Nat} {vs : List Value} (h : CellsAt W s o vs) (p : Nat) (hp : p < vs.length) : (W.cell? ⟨s, o + p, none⟩).isSome = true := by rw [h p _ (List.getElem?_eq_getElem hp)]; rfl
/-- an address is stored within a neighbour -/
theorem Nb.putMac {W : World} {g o : Nat} {x : Nb} {v : Value} (h : CellsAt W g o (x.cells v)) (m : M6) : CellsAt (W.setCells g (o + 5) m.vals) g o (({ x with mac := m } : Nb).cells v) := by
  have e1 : x.cells v = (x.ip.vals ++ [.int .i64 x.st]) ++ (x.mac.vals ++ [.int .i64 x.since, .int .i64 x.asked, .int .i64 x.tries, v]) := rfl
  have e2 : ({ x with mac := m } : Nb).cells v = (x.ip.vals ++ [.int .i64 x.st]) ++ (m.vals ++ [.int .i64 x.since, .int .i64 x.asked, .int .i64 x.tries, v]) := rfl
  rw [e1] at h
  rw [e2]
  obtain ⟨h1, h2⟩ := CellsAt.append.1 h
  obtain ⟨h3, h4⟩ := CellsAt.append.1 h2
  have l1 : (x.ip.vals ++ [Value.int .i64 x.st]).length = 5 := rfl
  rw [l1] at h2 h3 h4
  refine CellsAt.append.2 ⟨h1.other (by rw [l1]; exact .inl (Nat.le_refl _)), CellsAt.append.2 ⟨?_, ?_⟩⟩
  · rw [l1]; exact h3.stored rfl
  · rw [l1]; exact h4.other (.inr (Nat.le_refl _))

/-! the row of neighbours, by its cells -/
def nbc (L : List (Nat × Nb)) (V : Nat → Value) (q : Nat) : List Value := match L[q]? with
  | some p => p.2.cells (V q)
  | none => []
theorem nbc_at {L : List (Nat × Nb)} {V : Nat → Value} {q t : Nat} {x : Nb} (h : L[q]? = some (t, x)) : nbc L V q = x.cells (V q) := by unfold nbc; rw [h]
/-- what holds of those that wait -/
def Pds (ρ : Nat → Role) (k : Nat) (W : World) (L : List (Nat × Nb)) (V : Nat → Value) : Prop := ∀ q t x, L[q]? = some (t, x) → RowN (fun h => ρ h = (k, 2, t)) W (V q) x.pd ∧ (x.pd = [] → V q = .slice none 0 0)
theorem NbRow.parts {ρ : Nat → Role} {k : Nat} {W : World} {lv : Value} {L : List (Nat × Nb)} (h : NbRow ρ k W lv L) : ∃ V : Nat → Value, RowF 15 (fun g => ρ g = (k, 1, 0)) W lv L.length (nbc L V) ∧ Pds ρ k W L V := by
  obtain ⟨a, cap, rfl, c2, c3, c4, c5⟩ := h
  cases a with
  | none =>
    have h0 := c4 rfl
    obtain rfl : L = [] := List.eq_nil_of_length_eq_zero (by omega)
    subst h0
    exact ⟨fun _ => undef, RowF.nil _ _ _ _, fun q t x hx => by simp at hx⟩
  | some ad =>
    obtain ⟨g, rfl, d2, d3, d4, d5, d6⟩ := c5 ad rfl
    have key : ∀ q, ∃ v, ∀ t x, L[q]? = some (t, x) → CellsAt W g (q * 15) (x.cells v) ∧ RowN (fun h => ρ h = (k, 2, t)) W v x.pd ∧ (x.pd = [] → v = .slice none 0 0) := fun q => by
      cases hq : L[q]? with
      | none => exact ⟨undef, fun t x h => by cases h⟩
      | some p =>
        obtain ⟨v, hv⟩ := d6 q p.1 p.2 hq
        exact ⟨v, fun t x h => by cases h; exact hv⟩
    refine ⟨fun q => (key q).choose, ⟨_, cap, rfl, c2, c3, c4, fun ad e => ?_⟩, fun q t x hx => ((key q).choose_spec t x hx).2⟩
    cases e
    refine ⟨g, rfl, d2, d3, d4, d5, fun q hq => ?_⟩
    obtain ⟨p, hp⟩ : ∃ p, L[q]? = some p := ⟨_, List.getElem?_eq_getElem hq⟩
    rw [nbc_at (t := p.1) (x := p.2) hp]
    exact ((key q).choose_spec p.1 p.2 hp).1
theorem NbRow.of {ρ : Nat → Role} {k : Nat} {W : World} {lv : Value} {L : List (Nat × Nb)} {V : Nat → Value} {O : Nat → Prop} (h : RowF 15 O W lv L.length (nbc L V)) (ho : ∀ g, g < W.heap.size → O g → ρ g = (k, 1, 0)) (hp : Pds ρ k W L V) : NbRow ρ k W lv L := by
  obtain ⟨a, cap, rfl, c2, c3, c4, c5⟩ := h
  refine ⟨a, cap, rfl, c2, c3, c4, fun ad e => ?_⟩
  obtain ⟨g, d1, d2, d3, d4, d5, d6⟩ := c5 ad e
  refine ⟨g, d1, ho g d3 d2, d3, d4, d5, fun q t x hx => ⟨V q, ?_, (hp q t x hx).1, (hp q t x hx).2⟩⟩
  have := d6 q (List.getElem?_eq_some_iff.1 hx).1
  rw [nbc_at hx] at this
  exact this
theorem Pds.but {ρ ρ' : Nat → Role} {k : Nat} {W W' : World} {L : List (Nat × Nb)} {V : Nat → Value} {K : Nat → Prop} (h : Pds ρ k W L V) (hb : But K W W') (hk : ∀ g t, ρ g = (k, 2, t) → t ∈ L.map Prod.fst → ¬ K g) (hr : ∀ g t, g < W.heap.size → ρ g = (k, 2, t) → t ∈ L.map Prod.fst → ρ' g = (k, 2, t)) : Pds ρ' k W' L V := fun q t x hx => by
  have ht : t ∈ L.map Prod.fst := List.mem_map.2 ⟨_, List.mem_of_getElem? hx, rfl⟩
  exact ⟨((h q t x hx).1.own (O' := fun g => ρ g = (k, 2, t) ∧ ρ' g = (k, 2, t)) (fun g hg e => ⟨e, hr g t hg e ht⟩)).but hb (fun g e => hk g t e.1 ht) |>.own (fun g _ e => e.2), (h q t x hx).2⟩
theorem nb_one (x : Nb) (v : Value) (hv : v.oneCell' = true) : ∀ u ∈ x.cells v, u.oneCell' = true := by
  intro u hu
  simp only [Nb.cells, I4.vals, M6.vals, List.cons_append, List.nil_append, List.mem_cons, List.not_mem_nil, or_false] at hu
  rcases hu with rfl | rfl | rfl | rfl | rfl | rfl | rfl | rfl | rfl | rfl | rfl | rfl | rfl | rfl | rfl <;> first | rfl | exact hv
theorem ar_one (r : Ar) : ∀ u ∈ r.vals, u.oneCell' = true := by
  intro u hu
  simp only [Ar.vals, M6.vals, I4.vals, List.cons_append, List.nil_append, List.mem_cons, List.not_mem_nil, or_false] at hu
  rcases hu with rfl | rfl | rfl | rfl | rfl | rfl | rfl | rfl | rfl | rfl | rfl | rfl | rfl | rfl | rfl | rfl | rfl | rfl | rfl | rfl | rfl <;> rfl
theorem RowN.one {O : Nat → Prop} {W : World} {v : Value} {L : List Int} (h : RowN O W v L) : v.oneCell' = true := by
  obtain ⟨a, c, rfl⟩ := h.shape
  rfl
theorem nbc_len {L : List (Nat × Nb)} {V : Nat → Value} {q : Nat} (h : q < L.length) : (nbc L V q).length = 15 := by
  obtain ⟨p, hp⟩ : ∃ p, L[q]? = some p := ⟨_, List.getElem?_eq_getElem h⟩
  rw [nbc_at (t := p.1) (x := p.2) hp]; rfl
theorem nbc_one {ρ : Nat → Role} {k : Nat} {W : World} {L : List (Nat × Nb)} {V : Nat → Value} (hp : Pds ρ k W L V) {q : Nat} (h : q < L.length) : ∀ u ∈ nbc L V q, u.oneCell' = true := by
  obtain ⟨p, hq⟩ : ∃ p, L[q]? = some p := ⟨_, List.getElem?_eq_getElem h⟩
  rw [nbc_at (t := p.1) (x := p.2) hq]
  exact nb_one _ _ (hp q p.1 p.2 hq).1.one
/-- 'append' of one neighbour, out of a literal's row at s -/
theorem nb_push {O : Nat → Prop} {ρ : Nat → Role} {k : Nat} {W : World} {lv : Value} {L : List (Nat × Nb)} {V : Nat → Value} (h : RowF 15 O W lv L.length (nbc L V)) (hp : Pds ρ k W L V) (t : Nat) (x : Nb) (v : Value) (hv : v.oneCell' = true) (s : Nat) (hc : CellsAt W s 0 (x.cells v)) (hl : L.length ≤ 1000) :
    ∃ a' c' w2, (Builtin.append_ #[41, 41] 41 #[lv, .slice (some ⟨s, 0, none⟩) 1 1]).run Try.prog W = .ok (.slice a' (L.length + 1) c') w2 ∧ RowF 15 (fun g => O g ∨ g = W.heap.size) w2 (.slice a' (L.length + 1) c') (L ++ [(t, x)]).length (nbc (L ++ [(t, x)]) (fun q => if q < L.length then V q else v)) ∧ But O W w2 := by
  obtain ⟨i0, hi, hz0, hz1, hz2⟩ := info_parts info_nb
  obtain ⟨a', c', w2, hrun, hF, hb⟩ := h.push 41 66 i0 _ Try.underlying41 hi hz0 hz1 (by omega) rfl (fun q hq => nbc_len hq) (fun q hq => nbc_one hp hq) (x.cells v) rfl (nb_one x v hv) s hc (by omega)
  refine ⟨a', c', w2, hrun, ?_, hb⟩
  rw [List.length_append]
  refine hF.cong (fun q hq => ?_)
  by_cases e : q < L.length
  · rw [if_pos e]
    unfold nbc
    rw [List.getElem?_append_left e]
    simp only [if_pos e]
  · rw [if_neg e]
    have : q = L.length := by omega
    subst this
    rw [nbc_at (t := t) (x := x) (by simp)]
    simp
end Go.Proofs.Ytdcpnjlldocdcaa
