
/-
  Package arp: rows that grow in the rounds of a loop over the neighbours.
-/
import Derived.Test.YtdcpnjlldocdcaaA28
namespace Go.Proofs.Ytdcpnjlldocdcaa
open Go.RowKit Go.Shelf

/-- block h holds cells -/
def Cel (W : World) (h : Nat) : Prop := ∃ o, W.heap[h]? = some o ∧ o.isCells = true
theorem Cel.but {K : Nat → Prop} {W W' : World} {h : Nat} (c : Cel W h) (hb : But K W W') (hk : ¬ K h) : Cel W' h := by
  obtain ⟨o, h1, h2⟩ := c
  exact ⟨o, (hb.block h (Array.getElem?_eq_some_iff.1 h1).1 hk).trans h1, h2⟩
theorem Cel.ne {W : World} {h l : Nat} {o : Obj} (c : Cel W h) (ho : W.heap[l]? = some o) (hc : o.isCells = false) : h ≠ l := by
  rintro rfl
  obtain ⟨o', h1, h2⟩ := c
  rw [ho] at h1
  cases h1
  rw [hc] at h2
  cases h2
theorem RowF.cel {n : Nat} {O : Nat → Prop} {W : World} {v : Value} {len : Nat} {c : Nat → List Value} (h : RowF n O W v len c) (hl : 0 < len) (hn : 0 < n) : RowF n (fun g => O g ∧ Cel W g) W v len c := by
  obtain ⟨a, cap, e, c2, c3, c4, c5⟩ := h
  refine ⟨a, cap, e, c2, c3, c4, fun ad ea => ?_⟩
  obtain ⟨g, d1, d2, d3, d4, rest⟩ := c5 ad ea
  have : 0 < cap * n := Nat.mul_pos (by omega) hn
  obtain ⟨x, hx⟩ := Option.isSome_iff_exists.1 (d4 0 this)
  exact ⟨g, d1, ⟨d2, cells_of_cell hx⟩, d3, d4, rest⟩
theorem RowN.cel {O : Nat → Prop} {W : World} {v : Value} {L : List Int} (h : RowN O W v L) (hl : 0 < L.length) : RowN (fun g => O g ∧ Cel W g) W v L := by
  obtain ⟨a, cap, e, c2, c3, c4, c5⟩ := h
  refine ⟨a, cap, e, c2, c3, c4, fun ad ea => ?_⟩
  obtain ⟨g, off, d1, d2, d3, d4, rest⟩ := c5 ad ea
  obtain ⟨x, hx⟩ := Option.isSome_iff_exists.1 (d4 0 (by omega))
  exact ⟨g, off, ⟨d1, cells_of_cell hx⟩, d2, d3, d4, rest⟩
def arw (m : M6) (i : I4) (A : List I4) (q : Nat) : List Value := Ar.vals ⟨false, m, i, zM, A[q]?.getD zI⟩
/-- the three rows of a Tick: what is asked (in the variable s + 2), who is let go (s + 3), who is left (s + 4); σ says whose a new block is -/
structure TkR (ρ : Nat → Role) (k : Nat) (m : M6) (i : I4) (B s : Nat) (A : List I4) (G : List Int) (T : List (Nat × Nb)) (σ : Nat → Nat) (av gv lv : Value) (V : Nat → Value) (W : World) : Prop where
  new : ∀ h, σ h ≠ 0 → B ≤ h ∧ h < W.heap.size
  c2 : W.cell? ⟨s + 2, 0, none⟩ = some av
  c3 : W.cell? ⟨s + 3, 0, none⟩ = some gv
  c4 : W.cell? ⟨s + 4, 0, none⟩ = some lv
  f2 : W.frozen? ⟨s + 2, 0, none⟩ = false
  f3 : W.frozen? ⟨s + 3, 0, none⟩ = false
  f4 : W.frozen? ⟨s + 4, 0, none⟩ = false
  ra : RowF 21 (fun h => σ h = 2 ∧ Cel W h) W av A.length (arw m i A)
  rg : RowN (fun h => σ h = 3 ∧ Cel W h) W gv G
  rl : RowF 15 (fun h => σ h = 1 ∧ Cel W h) W lv T.length (nbc T V)
  pd : Pds ρ k W T V
section
variable {ρ : Nat → Role} {k : Nat} {m : M6} {i : I4} {B s : Nat} {A : List I4} {G : List Int} {T : List (Nat × Nb)} {σ : Nat → Nat} {av gv lv : Value} {V : Nat → Value} {W W' : World} {K : Nat → Prop}
theorem TkR.lt (h : TkR ρ k m i B s A G T σ av gv lv V W) : s + 2 < W.heap.size ∧ s + 3 < W.heap.size ∧ s + 4 < W.heap.size := ⟨World.block_lt_of_cell? W _ h.c2, World.block_lt_of_cell? W _ h.c3, World.block_lt_of_cell? W _ h.c4⟩
theorem TkR.but (h : TkR ρ k m i B s A G T σ av gv lv V W) (hb : But K W W') (hv : ¬ K (s + 2) ∧ ¬ K (s + 3) ∧ ¬ K (s + 4)) (hk : ∀ g, B ≤ g → Cel W g → ¬ K g) (hp : ∀ g t, ρ g = (k, 2, t) → t ∈ T.map Prod.fst → ¬ K g) : TkR ρ k m i B s A G T σ av gv lv V W' := by
  obtain ⟨l2, l3, l4⟩ := h.lt
  have hs := hb.size
  have go : ∀ q g, q ≠ 0 → σ g = q ∧ Cel W g → ¬ K g := fun q g hq e => hk g (h.new g (by rw [e.1]; exact hq)).1 e.2
  have co : ∀ q g, q ≠ 0 → σ g = q ∧ Cel W g → σ g = q ∧ Cel W' g := fun q g hq e => ⟨e.1, e.2.but hb (go q g hq e)⟩
  exact ⟨fun g hg => ⟨(h.new g hg).1, by have := (h.new g hg).2; omega⟩, (hb.cell (p := ⟨s + 2, 0, none⟩) l2 hv.1).trans h.c2, (hb.cell (p := ⟨s + 3, 0, none⟩) l3 hv.2.1).trans h.c3, (hb.cell (p := ⟨s + 4, 0, none⟩) l4 hv.2.2).trans h.c4,
    (hb.frozen (p := ⟨s + 2, 0, none⟩) l2 hv.1).trans h.f2, (hb.frozen (p := ⟨s + 3, 0, none⟩) l3 hv.2.1).trans h.f3, (hb.frozen (p := ⟨s + 4, 0, none⟩) l4 hv.2.2).trans h.f4,
    (h.ra.but hb (fun g => go 2 g (by omega))).own (fun g _ => co 2 g (by omega)), (h.rg.but hb (fun g => go 3 g (by omega))).own (fun g _ => co 3 g (by omega)), (h.rl.but hb (fun g => go 1 g (by omega))).own (fun g _ => co 1 g (by omega)), h.pd.but hb hp (fun _ _ _ e _ => e)⟩
theorem TkR.later (h : TkR ρ k m i B s A G T σ av gv lv V W) (hb : Below W.heap.size W W') : TkR ρ k m i B s A G T σ av gv lv V W' := h.but (K := fun _ => False) (But.of_below hb) ⟨id, id, id⟩ (fun _ _ _ => id) (fun _ _ _ _ => id)

/-- one more is left: the literal at p, then 'append', then the store -/
theorem TkR.left (h : TkR ρ k m i B s A G T σ av gv lv V W) (hsB : s + 5 ≤ B) (hBW : B ≤ W.heap.size) (hρ : ∀ g t, ρ g = (k, 2, t) → g < B ∧ g ≠ s + 4) (hT : T.length ≤ 8) (t : Nat) (x : Nb) (v : Value) (hv : RowN (fun g => ρ g = (k, 2, t)) W v x.pd) (hn : x.pd = [] → v = .slice none 0 0) (p : Nat) (hc : CellsAt W p 0 (x.cells v)) :
    ∃ a' c' w2, (Builtin.append_ #[41, 41] 41 #[lv, .slice (some ⟨p, 0, none⟩) 1 1]).run Try.prog W = .ok (.slice a' (T.length + 1) c') w2 ∧ But (fun g => σ g = 1 ∧ Cel W g) W w2 ∧ w2.cell? ⟨s + 4, 0, none⟩ = some lv ∧ w2.frozen? ⟨s + 4, 0, none⟩ = false ∧
      ∃ σ' V', TkR ρ k m i B s A G (T ++ [(t, x)]) σ' av gv (.slice a' (T.length + 1) c') V' (w2.setCell ⟨s + 4, 0, none⟩ (.slice a' (T.length + 1) c')) := by
  obtain ⟨a', c', w2, hrun, hR, hb⟩ := nb_push h.rl h.pd t x v hv.one p hc (by omega)
  obtain ⟨l2, l3, l4⟩ := h.lt
  have hs := hb.size
  have nB : ∀ g, g < B → ¬ (σ g = 1 ∧ Cel W g) := fun g hg e => by have := (h.new g (by rw [e.1]; omega)).1; omega
  refine ⟨a', c', w2, hrun, hb, (hb.cell (p := ⟨s + 4, 0, none⟩) l4 (nB (s + 4) (by omega))).trans h.c4, (hb.frozen (p := ⟨s + 4, 0, none⟩) l4 (nB (s + 4) (by omega))).trans h.f4, ?_⟩
  obtain ⟨σ', hσ'⟩ : ∃ σ' : Nat → Nat, ∀ g, σ' g = if g = W.heap.size ∧ g < w2.heap.size then 1 else σ g := ⟨_, fun _ => rfl⟩
  have so : ∀ g, g < W.heap.size → σ' g = σ g := fun g hg => by rw [hσ', if_neg (by omega)]
  have sn : ∀ g, σ g ≠ 0 → σ' g = σ g := fun g hg => so g (h.new g hg).2
  have bo : But (Only (s + 4)) w2 (w2.setCell ⟨s + 4, 0, none⟩ (.slice a' (T.length + 1) c')) := (But.refl (Only (s + 4)) w2).setCell (p := ⟨s + 4, 0, none⟩) (.inr rfl) _
  have b2 : But (fun g => (σ g = 1 ∧ Cel W g) ∨ g = s + 4) W (w2.setCell ⟨s + 4, 0, none⟩ (.slice a' (T.length + 1) c')) := (hb.mono (fun _ e => .inl e)).trans (bo.mono (fun _ e => .inr e))
  have ne : ∀ q g, q ≠ 0 → q ≠ 1 → σ g = q ∧ Cel W g → ¬ ((σ g = 1 ∧ Cel W g) ∨ g = s + 4) := fun q g h0 h1 e e2 => by
    have := (h.new g (by rw [e.1]; exact h0)).1
    rcases e2 with e2 | e2
    · omega
    · omega
  have co : ∀ q g, q ≠ 0 → q ≠ 1 → σ g = q ∧ Cel W g → σ' g = q ∧ Cel (w2.setCell ⟨s + 4, 0, none⟩ (.slice a' (T.length + 1) c')) g := fun q g h0 h1 e => ⟨by rw [sn g (by rw [e.1]; exact h0)]; exact e.1, e.2.but b2 (ne q g h0 h1 e)⟩
  refine ⟨σ', fun q => if q < T.length then V q else v, ⟨fun g hg => ?_, (b2.cell (p := ⟨s + 2, 0, none⟩) l2 (fun e => ?_)).trans h.c2, (b2.cell (p := ⟨s + 3, 0, none⟩) l3 (fun e => ?_)).trans h.c3, World.cell?_setCell_same _ _ _ ((hb.cell (p := ⟨s + 4, 0, none⟩) l4 (nB (s + 4) (by omega))).trans h.c4), (b2.frozen (p := ⟨s + 2, 0, none⟩) l2 (fun e => ?_)).trans h.f2, (b2.frozen (p := ⟨s + 3, 0, none⟩) l3 (fun e => ?_)).trans h.f3, ?_, ?_, ?_, ?_, ?_⟩⟩
  · rw [hσ'] at hg
    have : (w2.setCell ⟨s + 4, 0, none⟩ (.slice a' (T.length + 1) c')).heap.size = w2.heap.size := by simp
    rw [this]
    split at hg
    · rename_i e; omega
    · have := h.new g hg; omega
  · rcases e with e | e
    · exact nB _ (by show s + 2 < B; omega) e
    · have e : s + 2 = s + 4 := e; omega
  · rcases e with e | e
    · exact nB _ (by show s + 3 < B; omega) e
    · have e : s + 3 = s + 4 := e; omega
  · rcases e with e | e
    · exact nB _ (by show s + 2 < B; omega) e
    · have e : s + 2 = s + 4 := e; omega
  · rcases e with e | e
    · exact nB _ (by show s + 3 < B; omega) e
    · have e : s + 3 = s + 4 := e; omega
  · rw [setCell_one, World.frozen?_setCells]
    exact (hb.frozen (p := ⟨s + 4, 0, none⟩) l4 (nB (s + 4) (by omega))).trans h.f4
  · exact (h.ra.but b2 (fun g => ne 2 g (by omega) (by omega))).own (fun g _ => co 2 g (by omega) (by omega))
  · exact (h.rg.but b2 (fun g => ne 3 g (by omega) (by omega))).own (fun g _ => co 3 g (by omega) (by omega))
  · have h1 := (hR.own (O' := fun g => σ' g = 1 ∧ ¬ g = s + 4) (fun g hg e => by
      rcases e with e | e
      · exact ⟨by rw [sn g (by rw [e.1]; omega)]; exact e.1, fun e2 => nB _ (by omega) e⟩
      · exact ⟨by rw [hσ', if_pos ⟨e, hg⟩], by omega⟩)).but bo (fun g e e2 => e.2 e2)
    exact (h1.cel (by simp) (by omega)).own (fun g _ e => ⟨e.1.1, e.2⟩)
  · intro q t' y hy
    have key : ∀ v y t', RowN (fun g => ρ g = (k, 2, t')) W v y → RowN (fun g => ρ g = (k, 2, t')) (w2.setCell ⟨s + 4, 0, none⟩ (.slice a' (T.length + 1) c')) v y := fun v y t' hr => hr.but b2 (fun g e e2 => by
      have := hρ g t' e
      rcases e2 with e2 | e2
      · exact nB g this.1 e2
      · exact this.2 e2)
    by_cases e : q < T.length
    · rw [List.getElem?_append_left e] at hy
      simp only [if_pos e]
      exact ⟨key _ _ _ (h.pd q t' y hy).1, (h.pd q t' y hy).2⟩
    · rw [List.getElem?_append_right (by omega)] at hy
      have : q - T.length = 0 := by
        cases hq : q - T.length with
        | zero => rfl
        | succ n => rw [hq] at hy; simp at hy
      rw [this] at hy
      cases hy
      simp only [if_neg e]
      exact ⟨key _ _ _ hv, hn⟩

theorem TkR.ask (h : TkR ρ k m i B s A G T σ av gv lv V W) (hsB : s + 5 ≤ B) (hBW : B ≤ W.heap.size) (hρ : ∀ g t, ρ g = (k, 2, t) → g < B ∧ g ≠ s + 2) (hA : A.length ≤ 8) (ip : I4) (p : Nat) (hc : CellsAt W p 0 (Ar.vals ⟨false, m, i, zM, ip⟩)) :
    ∃ a' c' w2, (Builtin.append_ #[53, 53] 53 #[av, .slice (some ⟨p, 0, none⟩) 1 1]).run Try.prog W = .ok (.slice a' (A.length + 1) c') w2 ∧ But (fun g => σ g = 2 ∧ Cel W g) W w2 ∧ w2.cell? ⟨s + 2, 0, none⟩ = some av ∧ w2.frozen? ⟨s + 2, 0, none⟩ = false ∧
      ∃ σ', TkR ρ k m i B s (A ++ [ip]) G T σ' (.slice a' (A.length + 1) c') gv lv V (w2.setCell ⟨s + 2, 0, none⟩ (.slice a' (A.length + 1) c')) := by
  obtain ⟨i0, hi, hz0, hz1, hz2⟩ := info_parts info_ar
  obtain ⟨a', c', w2, hrun, hR, hb⟩ := h.ra.push 53 27 i0 _ Try.underlying53 hi hz0 hz1 (by omega) rfl (fun q _ => rfl) (fun q _ => ar_one _) (Ar.vals ⟨false, m, i, zM, ip⟩) rfl (ar_one _) p hc (by omega)
  obtain ⟨l2, l3, l4⟩ := h.lt
  have hs := hb.size
  have nB : ∀ g, g < B → ¬ (σ g = 2 ∧ Cel W g) := fun g hg e => by have := (h.new g (by rw [e.1]; omega)).1; omega
  refine ⟨a', c', w2, hrun, hb, (hb.cell (p := ⟨s + 2, 0, none⟩) l2 (nB (s + 2) (by omega))).trans h.c2, (hb.frozen (p := ⟨s + 2, 0, none⟩) l2 (nB (s + 2) (by omega))).trans h.f2, ?_⟩
  obtain ⟨σ', hσ'⟩ : ∃ σ' : Nat → Nat, ∀ g, σ' g = if W.heap.size ≤ g ∧ g < w2.heap.size then 2 else σ g := ⟨_, fun _ => rfl⟩
  have so : ∀ g, g < W.heap.size → σ' g = σ g := fun g hg => by rw [hσ', if_neg (by omega)]
  have sn : ∀ g, σ g ≠ 0 → σ' g = σ g := fun g hg => so g (h.new g hg).2
  have bo : But (Only (s + 2)) w2 (w2.setCell ⟨s + 2, 0, none⟩ (.slice a' (A.length + 1) c')) := (But.refl (Only (s + 2)) w2).setCell (p := ⟨s + 2, 0, none⟩) (.inr rfl) _
  have b2 : But (fun g => (σ g = 2 ∧ Cel W g) ∨ g = s + 2) W (w2.setCell ⟨s + 2, 0, none⟩ (.slice a' (A.length + 1) c')) := (hb.mono (fun _ e => .inl e)).trans (bo.mono (fun _ e => .inr e))
  have ne : ∀ q g, q ≠ 0 → q ≠ 2 → σ g = q ∧ Cel W g → ¬ ((σ g = 2 ∧ Cel W g) ∨ g = s + 2) := fun q g h0 h1 e e2 => by
    have := (h.new g (by rw [e.1]; exact h0)).1
    rcases e2 with e2 | e2
    · omega
    · omega
  have co : ∀ q g, q ≠ 0 → q ≠ 2 → σ g = q ∧ Cel W g → σ' g = q ∧ Cel (w2.setCell ⟨s + 2, 0, none⟩ (.slice a' (A.length + 1) c')) g := fun q g h0 h1 e => ⟨by rw [sn g (by rw [e.1]; exact h0)]; exact e.1, e.2.but b2 (ne q g h0 h1 e)⟩
  have no : ∀ x, x ≠ 2 → x < 5 → ¬ ((σ (s + x) = 2 ∧ Cel W (s + x)) ∨ s + x = s + 2) := fun x hx h5 e => by
    rcases e with e | e
    · exact nB _ (by omega) e
    · omega
  refine ⟨σ', ⟨fun g hg => ?_, World.cell?_setCell_same _ _ _ ((hb.cell (p := ⟨s + 2, 0, none⟩) l2 (nB (s + 2) (by omega))).trans h.c2), (b2.cell (p := ⟨s + 3, 0, none⟩) l3 (no 3 (by omega) (by omega))).trans h.c3, (b2.cell (p := ⟨s + 4, 0, none⟩) l4 (no 4 (by omega) (by omega))).trans h.c4, ?_, (b2.frozen (p := ⟨s + 3, 0, none⟩) l3 (no 3 (by omega) (by omega))).trans h.f3, (b2.frozen (p := ⟨s + 4, 0, none⟩) l4 (no 4 (by omega) (by omega))).trans h.f4, ?_, (h.rg.but b2 (fun g => ne 3 g (by omega) (by omega))).own (fun g _ => co 3 g (by omega) (by omega)), (h.rl.but b2 (fun g => ne 1 g (by omega) (by omega))).own (fun g _ => co 1 g (by omega) (by omega)), h.pd.but b2 (fun g t e _ e2 => ?_) (fun _ _ _ e _ => e)⟩⟩
  · rw [hσ'] at hg
    have : (w2.setCell ⟨s + 2, 0, none⟩ (.slice a' (A.length + 1) c')).heap.size = w2.heap.size := by simp
    rw [this]
    split at hg
    · rename_i e; omega
    · have := h.new g hg; omega
  · rw [setCell_one, World.frozen?_setCells]
    exact (hb.frozen (p := ⟨s + 2, 0, none⟩) l2 (nB (s + 2) (by omega))).trans h.f2
  · have h1 := (hR.own (O' := fun g => σ' g = 2 ∧ ¬ g = s + 2) (fun g hg e => by
      rcases e with e | e
      · exact ⟨by rw [sn g (by rw [e.1]; omega)]; exact e.1, fun e2 => nB _ (by omega) e⟩
      · exact ⟨by rw [hσ', if_pos (by omega)], by omega⟩)).but bo (fun g e e2 => e.2 e2)
    have h2 := (h1.cel (by omega) (by omega)).own (O' := fun g => σ' g = 2 ∧ Cel (w2.setCell ⟨s + 2, 0, none⟩ (.slice a' (A.length + 1) c')) g) (fun g _ e => ⟨e.1.1, e.2⟩)
    rw [List.length_append]
    refine h2.cong (fun q hq => ?_)
    unfold arw
    by_cases e : q < A.length
    · rw [if_pos e, List.getElem?_append_left e]
    · have : q = A.length := by have : [ip].length = 1 := rfl; omega
      subst this
      simp
  · have := hρ g t e
    rcases e2 with e2 | e2
    · exact nB g this.1 e2
    · exact this.2 e2

theorem TkR.gone (h : TkR ρ k m i B s A G T σ av gv lv V W) (hsB : s + 5 ≤ B) (hBW : B ≤ W.heap.size) (hρ : ∀ g t, ρ g = (k, 2, t) → g < B ∧ g ≠ s + 3) (hG : G.length ≤ 1000) (M : List Int) (hM : 0 < M.length) (hM2 : M.length ≤ 1000) (y : Value) (hy : Src Try.prog 1 54 y M.length (ints M) W) :
    ∃ a' c' w2, (Builtin.append_ #[54, 54] 54 #[gv, y]).run Try.prog W = .ok (.slice a' (G ++ M).length c') w2 ∧ But (fun g => σ g = 3 ∧ Cel W g) W w2 ∧ w2.cell? ⟨s + 3, 0, none⟩ = some gv ∧ w2.frozen? ⟨s + 3, 0, none⟩ = false ∧
      ∃ σ', TkR ρ k m i B s A (G ++ M) T σ' av (.slice a' (G ++ M).length c') lv V (w2.setCell ⟨s + 3, 0, none⟩ (.slice a' (G ++ M).length c')) := by
  obtain ⟨a', c', w2, hrun, hR, hb⟩ := h.rg.more y M hy hM (by omega)
  obtain ⟨l2, l3, l4⟩ := h.lt
  have hs := hb.size
  have nB : ∀ g, g < B → ¬ (σ g = 3 ∧ Cel W g) := fun g hg e => by have := (h.new g (by rw [e.1]; omega)).1; omega
  refine ⟨a', c', w2, hrun, hb, (hb.cell (p := ⟨s + 3, 0, none⟩) l3 (nB (s + 3) (by omega))).trans h.c3, (hb.frozen (p := ⟨s + 3, 0, none⟩) l3 (nB (s + 3) (by omega))).trans h.f3, ?_⟩
  obtain ⟨σ', hσ'⟩ : ∃ σ' : Nat → Nat, ∀ g, σ' g = if W.heap.size ≤ g ∧ g < w2.heap.size then 3 else σ g := ⟨_, fun _ => rfl⟩
  have so : ∀ g, g < W.heap.size → σ' g = σ g := fun g hg => by rw [hσ', if_neg (by omega)]
  have sn : ∀ g, σ g ≠ 0 → σ' g = σ g := fun g hg => so g (h.new g hg).2
  have bo : But (Only (s + 3)) w2 (w2.setCell ⟨s + 3, 0, none⟩ (.slice a' (G ++ M).length c')) := (But.refl (Only (s + 3)) w2).setCell (p := ⟨s + 3, 0, none⟩) (.inr rfl) _
  have b2 : But (fun g => (σ g = 3 ∧ Cel W g) ∨ g = s + 3) W (w2.setCell ⟨s + 3, 0, none⟩ (.slice a' (G ++ M).length c')) := (hb.mono (fun _ e => .inl e)).trans (bo.mono (fun _ e => .inr e))
  have ne : ∀ q g, q ≠ 0 → q ≠ 3 → σ g = q ∧ Cel W g → ¬ ((σ g = 3 ∧ Cel W g) ∨ g = s + 3) := fun q g h0 h1 e e2 => by
    have := (h.new g (by rw [e.1]; exact h0)).1
    rcases e2 with e2 | e2
    · omega
    · omega
  have co : ∀ q g, q ≠ 0 → q ≠ 3 → σ g = q ∧ Cel W g → σ' g = q ∧ Cel (w2.setCell ⟨s + 3, 0, none⟩ (.slice a' (G ++ M).length c')) g := fun q g h0 h1 e => ⟨by rw [sn g (by rw [e.1]; exact h0)]; exact e.1, e.2.but b2 (ne q g h0 h1 e)⟩
  have no : ∀ x, x ≠ 3 → x < 5 → ¬ ((σ (s + x) = 3 ∧ Cel W (s + x)) ∨ s + x = s + 3) := fun x hx h5 e => by
    rcases e with e | e
    · exact nB _ (by omega) e
    · omega
  refine ⟨σ', ⟨fun g hg => ?_, (b2.cell (p := ⟨s + 2, 0, none⟩) l2 (no 2 (by omega) (by omega))).trans h.c2, World.cell?_setCell_same _ _ _ ((hb.cell (p := ⟨s + 3, 0, none⟩) l3 (nB (s + 3) (by omega))).trans h.c3), (b2.cell (p := ⟨s + 4, 0, none⟩) l4 (no 4 (by omega) (by omega))).trans h.c4, (b2.frozen (p := ⟨s + 2, 0, none⟩) l2 (no 2 (by omega) (by omega))).trans h.f2, ?_, (b2.frozen (p := ⟨s + 4, 0, none⟩) l4 (no 4 (by omega) (by omega))).trans h.f4, (h.ra.but b2 (fun g => ne 2 g (by omega) (by omega))).own (fun g _ => co 2 g (by omega) (by omega)), ?_, (h.rl.but b2 (fun g => ne 1 g (by omega) (by omega))).own (fun g _ => co 1 g (by omega) (by omega)), h.pd.but b2 (fun g t e _ e2 => ?_) (fun _ _ _ e _ => e)⟩⟩
  · rw [hσ'] at hg
    have : (w2.setCell ⟨s + 3, 0, none⟩ (.slice a' (G ++ M).length c')).heap.size = w2.heap.size := by simp
    rw [this]
    split at hg
    · rename_i e; omega
    · have := h.new g hg; omega
  · rw [setCell_one, World.frozen?_setCells]
    exact (hb.frozen (p := ⟨s + 3, 0, none⟩) l3 (nB (s + 3) (by omega))).trans h.f3
  · have h1 := (hR.own (O' := fun g => σ' g = 3 ∧ ¬ g = s + 3) (fun g hg e => by
      rcases e with e | e
      · exact ⟨by rw [sn g (by rw [e.1]; omega)]; exact e.1, fun e2 => nB _ (by omega) e⟩
      · exact ⟨by rw [hσ', if_pos e], by omega⟩)).but bo (fun g e e2 => e.2 e2)
    exact (h1.cel (by rw [List.length_append]; omega)).own (fun g _ e => ⟨e.1.1, e.2⟩)
  · have := hρ g t e
    rcases e2 with e2 | e2
    · exact nB g this.1 e2
    · exact this.2 e2
end
end Go.Proofs.Ytdcpnjlldocdcaa
