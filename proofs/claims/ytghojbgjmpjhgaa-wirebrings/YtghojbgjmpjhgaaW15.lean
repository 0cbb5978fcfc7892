
/-
  Package wire: what holds in memory while letGo goes through a side.
-/
import Derived.Test.YtghojbgjmpjhgaaW14
namespace Go.Proofs.Ytghojbgjmpjhgaa
open Go.RowKit Go.Shelf

theorem KeepsFrom.of_but {B : Nat} {K : Nat → Prop} {W W' : World} (hb : But K W W') (hk : ∀ g, K g → ∃ o, W.heap[g]? = some o ∧ o.isCells = true) : KeepsFrom B W W' :=
  ⟨hb.size, fun k o _ ho hc => (hb.block k (Array.getElem?_eq_some_iff.1 ho).1 (fun e => by
    obtain ⟨o', h1, h2⟩ := hk k e
    rw [ho] at h1; cases h1; rw [hc] at h2; cases h2)).trans ho⟩
theorem cells_of_cell {W : World} {p : Addr} {v : Value} (h : W.cell? p = some v) : ∃ o, W.heap[p.block]? = some o ∧ o.isCells = true := by
  unfold World.cell? at h
  cases ho : W.heap[p.block]? with
  | none => rw [ho] at h; simp at h
  | some o => refine ⟨o, rfl, ?_⟩; rw [ho] at h; cases o <;> simp_all [Obj.isCells]
theorem cells_of_own {W : World} {B : Nat} {e : TypeId} {sz : Nat} {v : Value} {n : Nat} {xs : List Value} (h : W.ownsRow B e sz v n xs) : ∀ k, v.ownBlock = some k → ∃ o, W.heap[k]? = some o ∧ o.isCells = true := fun k e => by
  obtain ⟨_, ⟨rfl, _⟩ | ⟨g, cap, cur, rfl, _, hh, _⟩⟩ := h
  · cases e
  · cases e; exact ⟨_, hh, rfl⟩
theorem But.put {K : Nat → Prop} {a W : World} (h : But K a W) {l : Nat} (hl : a.heap.size ≤ l) (o : Obj) : But K a (W.putObj l o) :=
  h.grown (grownBy_putObj' W l o) (fun r e => by cases e; exact hl)
theorem put_but (W : World) (l : Nat) (o : Obj) : But (fun g => g = l) W (W.putObj l o) := by
  have hg := grownBy_putObj' W l o
  exact ⟨hg.os, hg.tape, hg.output, hg.size, fun k hk hn => hg.block k hk (fun e => hn (Option.some.inj e))⟩

/-- THE FIRST LOOP OF A SIDE: so many of the young ones lie in 'left', whose box is t; wS: the world ahead of the loop -/
def I1 (wS : World) (t : Nat) (Y : List (Value × Frm)) (k : Nat) (W : World) : Prop :=
  But (Only t) wS W ∧ k ≤ Y.length ∧ ∃ v, W.cell? ⟨t, 0, none⟩ = some v ∧ W.frozen? ⟨t, 0, none⟩ = false ∧ W.ownsRow wS.heap.size 48 3 v k (flat (Y.take k))
section
variable {wS : World} {t : Nat} {Y : List (Value × Frm)}
theorem I1.but {k : Nat} {W W' : World} (h : I1 wS t Y k W) (ht : t < wS.heap.size) {K : Nat → Prop} (hb : But K W W') (hk : ∀ g, K g → wS.heap.size ≤ g) (hc : ∀ g, K g → ¬ ∃ o, W.heap[g]? = some o ∧ o.isCells = true) : I1 wS t Y k W' := by
  obtain ⟨h1, h2, v, h3, h4, h5⟩ := h
  have ht' : ¬ K t := fun e => by have := hk t e; omega
  have htW : t < W.heap.size := Nat.lt_of_lt_of_le ht h1.size
  exact ⟨h1.trans' hb (fun g hg e => by have := hk g e; omega), h2, v, (hb.cell (p := ⟨t, 0, none⟩) htW ht').trans h3, (hb.frozen (p := ⟨t, 0, none⟩) htW ht').trans h4, row_keep h5 hb (fun k e c => hc k c (cells_of_own h5 k e))⟩
theorem I1.al {k : Nat} {W : World} (h : I1 wS t Y k W) (ht : t < wS.heap.size) (o : Obj) : I1 wS t Y k (W.alloc o) := h.but ht (K := fun _ => False) ((But.refl _ W).alloc o) (fun _ e => e.elim) (fun _ e => e.elim)
theorem I1.dr {k : Nat} {W : World} (h : I1 wS t Y k W) (ht : t < wS.heap.size) : I1 wS t Y k W.drew := h.but ht (K := fun _ => False) ((But.refl _ W).drew) (fun _ e => e.elim) (fun _ e => e.elim)
theorem I1.pu {k : Nat} {W : World} (h : I1 wS t Y k W) (ht : t < wS.heap.size) {l : Nat} {o : Obj} (o' : Obj) (hl : wS.heap.size ≤ l) (hw : W.heap[l]? = some o) (hc : o.isCells = false) : I1 wS t Y k (W.putObj l o') :=
  h.but ht (put_but W l o') (fun g e => by rw [e]; exact hl) (fun g e ⟨o2, h1, h2⟩ => by rw [e, hw] at h1; cases h1; rw [hc] at h2; cases h2)

/-- one more is appended: the run, and what it leaves -/
theorem I1.push {k : Nat} {W : World} (h : I1 wS t Y k W) (ht : t < wS.heap.size) {p : Value × Frm} (hp : Y[k]? = some p) (h1c : p.1.oneCell' = true) (hl : Y.length ≤ 2513169434843) (s : Nat) (hs : T3 W s p.1 (.bool p.2.bad) (.int .i64 p.2.tick)) :
    ∃ v g' c' w', W.cell? ⟨t, 0, none⟩ = some v ∧ (∃ a0 c0, v = .slice a0 k c0) ∧ (Builtin.append_ #[56, 56] 56 #[v, .slice (some ⟨s, 0, none⟩) 1 1]).run Try.prog W = .ok (.slice (some ⟨g', 0, none⟩) (k + 1) c') w' ∧ w'.cell? ⟨t, 0, none⟩ = some v ∧ w'.frozen? ⟨t, 0, none⟩ = false ∧
      I1 wS t Y (k + 1) (w'.setCell ⟨t, 0, none⟩ (.slice (some ⟨g', 0, none⟩) (k + 1) c')) ∧ KeepsFrom wS.heap.size W (w'.setCell ⟨t, 0, none⟩ (.slice (some ⟨g', 0, none⟩) (k + 1) c')) := by
  obtain ⟨hb, hk, v, hv, hf, hr⟩ := h
  obtain ⟨hkl, ep⟩ := List.getElem?_eq_some_iff.1 hp
  obtain ⟨inf, hin, hz0, hz1, hz2⟩ := info_parts info_ow
  have htW : t < W.heap.size := Nat.lt_of_lt_of_le ht hb.size
  obtain ⟨g', c', w', hrun, hrow, hb', hg', _, hlt⟩ := run_more 56 48 inf (.agg #[.slice none 0 0, .bool false, .int .i64 0]) 3 40 Try.underlying56 hin hz0 hz1 hz2 rfl (by omega) hr ⟨s, 0, none⟩ 1 1 (cel p) rfl (fun j u hu => by
      have hj : j < 3 := (List.getElem?_eq_some_iff.1 hu).1
      rw [Addr.add_lit]
      have : j = 0 ∨ j = 1 ∨ j = 2 := by omega
      rcases this with rfl | rfl | rfl
      · rw [← hu]; exact hs.c0
      · rw [← hu]; exact hs.c1
      · rw [← hu]; exact hs.c2) (fun u hu => by
      simp only [cel, List.mem_cons, List.not_mem_nil, or_false] at hu
      rcases hu with rfl | rfl | rfl
      · exact h1c
      · rfl
      · rfl) (by omega) hb.size (by unfold maxLen; omega) (by omega)
  have hvb : ∀ x, v.ownBlock = some x → wS.heap.size ≤ x := fun x e => (World.ownsRow.lt hr x e).1
  have hnt : ¬ v.ownBlock = some t := fun e => by have := hvb t e; omega
  have hgt : g' ≠ t := fun e => by
    have : wS.heap.size ≤ g' := (World.ownsRow.lt hrow g' rfl).1
    omega
  have hv' : w'.cell? ⟨t, 0, none⟩ = some v := (hb'.cell (p := ⟨t, 0, none⟩) htW hnt).trans hv
  have hb2 : But (Only t) w' (w'.setCell ⟨t, 0, none⟩ (.slice (some ⟨g', 0, none⟩) (k + 1) c')) := (But.refl (Only t) w').setCell (p := ⟨t, 0, none⟩) (.inr rfl) _
  have hsh : ∃ a0 c0, v = .slice a0 k c0 := by
    obtain ⟨_, ⟨rfl, e⟩ | ⟨g, cap, cur, rfl, _⟩⟩ := hr
    · rw [e]; exact ⟨_, _, rfl⟩
    · exact ⟨_, _, rfl⟩
  refine ⟨v, g', c', w', hv, hsh, hrun, hv', (hb'.frozen (p := ⟨t, 0, none⟩) htW hnt).trans hf, ⟨?_, hkl, _, World.cell?_setCell_same' _ _ _ (by rw [hv']; rfl), by rw [World.frozen?_setCell]; exact (hb'.frozen (p := ⟨t, 0, none⟩) htW hnt).trans hf, ?_⟩, ?_⟩
  · exact (hb.trans' hb' (fun g hg e => by have := hvb g e; omega)).trans' hb2 (fun g _ e => e)
  · have := row_keep hrow hb2 (fun x e c => by have e : some g' = some x := e; cases e; have c : g' = t := c; exact hgt c)
    rw [List.take_add_one, hp, flat_append]
    exact this
  · exact (KeepsFrom.of_but hb' (fun g e => cells_of_own hr g e)).trans (KeepsFrom.of_but hb2 (fun g e => by have e : g = t := e; rw [e]; exact cells_of_cell hv'))
end

/-- behind the first loop, when 'left' is stored -/
theorem side_store {ρ : Nat → Nat} {w wS W : World} {b : Nat} {dv : Nat → Nat} {ck : Int} {L : Nat → List (Value × Frm)} {D : Nat → Dev} (h : Net ρ w b dv ck L D) (i : Nat) (hi : i < 2) (hS : Below w.heap.size w wS) (t : Nat) (ht : w.heap.size ≤ t) (h1 : I1 wS t (youngs ck (L i)) (youngs ck (L i)).length W) :
    ∃ v, W.cell? ⟨t, 0, none⟩ = some v ∧ (∃ a0 c0, v = .slice a0 (youngs ck (L i)).length c0) ∧ (∃ u, W.cell? ⟨b, 3 + i, none⟩ = some u) ∧ W.frozen? ⟨b, 3 + i, none⟩ = false ∧ ∃ ρ', Net ρ' (W.setCell ⟨b, 3 + i, none⟩ v) b dv ck (upd L i (youngs ck (L i))) D ∧ (∀ g, g < wS.heap.size → ρ' g = ρ g) := by
  obtain ⟨hb, _, v, hv, _, hr⟩ := h1
  rw [List.take_length] at hr
  have hbW : But (fun g => w.heap.size ≤ g) w W := (But.of_below hS).trans' hb (fun g _ e => by have e : g = t := e; show w.heap.size ≤ g; omega)
  have n1 : Net ρ W b dv ck L D := h.keep (K := fun _ => False) ⟨hbW.os, hbW.tape, hbW.output, hbW.size, fun k hk _ => hbW.block k hk (by omega)⟩ (fun _ e => e.elim) (fun _ _ => rfl) (fun g e => Nat.lt_of_lt_of_le (h.lt g e) hbW.size)
  obtain ⟨u, hu, hL⟩ := n1.ls i hi
  have hvb : ∀ x, v.ownBlock = some x → wS.heap.size ≤ x ∧ x < W.heap.size := fun x e => World.ownsRow.lt hr x e
  have hlow : ∀ g, ρ g ≠ 0 → g < w.heap.size := h.lt
  have hsz := hS.size
  obtain ⟨ρ', hρ⟩ : ∃ ρ' : Nat → Nat, ρ' = fun g => if v.ownBlock = some g then 5 + i else ρ g := ⟨_, rfl⟩
  have hext : ∀ g, g < wS.heap.size → ρ' g = ρ g := fun g hg => by rw [hρ]; simp only; rw [if_neg (fun e => by have := (hvb g e).1; omega)]
  have hsh : ∃ a0 c0, v = .slice a0 (youngs ck (L i)).length c0 := by
    obtain ⟨_, ⟨rfl, e⟩ | ⟨g, cap, cur, rfl, _⟩⟩ := hr
    · rw [e]; exact ⟨_, _, rfl⟩
    · exact ⟨_, _, rfl⟩
  have hlw : ∀ g, ρ' g ≠ 0 → g < W.heap.size := fun g e => by
    rw [hρ] at e; simp only at e
    by_cases c : v.ownBlock = some g
    · exact (hvb g c).2
    · rw [if_neg c] at e; exact n1.lt g e
  -- the roles turn where nothing of the wire lies
  have n2 : Net ρ' W b dv ck L D := by
    have hb0 : But (fun _ => False) w W := ⟨hbW.os, hbW.tape, hbW.output, hbW.size, fun k hk _ => hbW.block k hk (by omega)⟩
    exact h.keep hb0 (fun _ e => e.elim) (fun g hg => hext g (by omega)) hlw
  have hL' : Lst ρ' W i v (youngs ck (L i)) := by
    refine ⟨?_, fun k e => by rw [hρ]; simp only; rw [if_pos e], fun p hp => ?_, hL.pw.sublist List.filter_sublist⟩
    · unfold Row3
      obtain ⟨q1, q2 | ⟨g, cap, cur, q3, q4, q5, q6⟩⟩ := hr
      · exact ⟨q1, .inl q2⟩
      · exact ⟨q1, .inr ⟨g, cap, cur, q3, Nat.zero_le _, q5, q6⟩⟩
    · obtain ⟨p1, p2⟩ := hL.fr p (List.mem_filter.1 hp).1
      refine ⟨p1, fun k e => ?_⟩
      have hk := hlow k (by rw [p2 k e]; omega)
      exact (hext k (by omega)).trans (p2 k e)
  refine ⟨v, hv, hsh, ⟨u, hu⟩, n1.fz _, ρ', ?_, hext⟩
  exact n2.put (ρ' := ρ') i hi (But.refl _ W) (fun _ _ => rfl) hlw hL' (fun p hp => h.fl i hi p (List.mem_filter.1 hp).1)

/-- THE SECOND LOOP OF A SIDE: the device, after so many takes -/
def I2 (wS : World) (A : Nat → Prop) (d : Nat) (ck : Int) (Df : Dev) (s : Nat × Dev) (W : World) : Prop :=
  But (Only d) wS W ∧ DevAt LN A W d s.2 ∧ s.2.Ok ∧ lg (16 - s.1) ck s.2 = Df ∧ s.1 + spnD s.2 ≤ 15 ∧ ∀ j, j < 16 → 0 ≤ s.2.posted j ∧ s.2.posted j ≤ ck
def X2 (wS : World) (A : Nat → Prop) (d : Nat) (Df : Dev) (c : Code) (W : World) : Prop := c = .exit 1 ∧ But (Only d) wS W ∧ DevAt LN A W d Df ∧ Df.Ok
section
variable {wS : World} {A : Nat → Prop} {d : Nat} {ck : Int} {Df : Dev}
theorem I2.al {s : Nat × Dev} {W : World} (h : I2 wS A d ck Df s W) (o : Obj) : I2 wS A d ck Df s (W.alloc o) := by
  obtain ⟨h1, h2, h3⟩ := h
  exact ⟨h1.alloc o, h2.later ((Below.refl _ _).alloc (Nat.le_refl _) o), h3⟩
theorem I2.dr {s : Nat × Dev} {W : World} (h : I2 wS A d ck Df s W) : I2 wS A d ck Df s W.drew := by
  obtain ⟨h1, h2, h3⟩ := h
  exact ⟨h1.drew, h2.drew, h3⟩
theorem I2.pu {s : Nat × Dev} {W : World} (h : I2 wS A d ck Df s W) {l : Nat} {o : Obj} (o' : Obj) (hl : wS.heap.size ≤ l) (hw : W.heap[l]? = some o) (hc : o.isCells = false) : I2 wS A d ck Df s (W.putObj l o') := by
  obtain ⟨h1, h2, h3⟩ := h
  exact ⟨h1.put hl o', h2.grown (grownBy_putObj' W l o') (fun r e => by cases e; exact ⟨o, hw, hc⟩), h3⟩
theorem X2.al {c : Code} {W : World} (h : X2 wS A d Df c W) (o : Obj) : X2 wS A d Df c (W.alloc o) := by
  obtain ⟨h0, h1, h2, h3⟩ := h
  exact ⟨h0, h1.alloc o, h2.later ((Below.refl _ _).alloc (Nat.le_refl _) o), h3⟩
theorem X2.dr {c : Code} {W : World} (h : X2 wS A d Df c W) : X2 wS A d Df c W.drew := by
  obtain ⟨h0, h1, h2, h3⟩ := h
  exact ⟨h0, h1.drew, h2.drew, h3⟩
theorem X2.pu {c : Code} {W : World} (h : X2 wS A d Df c W) {l : Nat} {o : Obj} (o' : Obj) (hl : wS.heap.size ≤ l) (hw : W.heap[l]? = some o) (hc : o.isCells = false) : X2 wS A d Df c (W.putObj l o') := by
  obtain ⟨h0, h1, h2, h3⟩ := h
  exact ⟨h0, h1.put hl o', h2.grown (grownBy_putObj' W l o') (fun r e => by cases e; exact ⟨o, hw, hc⟩), h3⟩
theorem I2.tk {s : Nat × Dev} {W W' : World} (h : I2 wS A d ck Df s W) (ho : s.2.olB = true) (hold : old ck s.2.olT = true) (h0 : s.2.tkE = 0) (hd : DevAt LN A W' d s.2.tkD) (hb : But (Only d) W W') : I2 wS A d ck Df (s.1 + 1, s.2.tkD) W' := by
  obtain ⟨h1, _, h3, h4, h5, h6⟩ := h
  have hs := spn_tk h3 h0
  have hs1 := spn_ol h3 ho
  refine ⟨h1.trans hb, hd, h3.tk, ?_, by simp only; omega, by rw [tk_posted.1]; exact h6⟩
  rw [← h4]
  simp only
  rw [show 16 - s.1 = (16 - (s.1 + 1)) + 1 by omega, lg_go ⟨ho, hold, h0⟩]
theorem I2.stop {s : Nat × Dev} {W W' : World} (h : I2 wS A d ck Df s W) (hn : ¬ (s.2.olB = true ∧ old ck s.2.olT = true ∧ s.2.tkE = 0)) (hd : DevAt LN A W' d s.2) (hb : But (Only d) W W') : X2 wS A d Df (.exit 1) W' := by
  obtain ⟨h1, _, h3, h4, _, _⟩ := h
  rw [lg_stay hn] at h4
  exact ⟨rfl, h1.trans hb, by rw [← h4]; exact hd, by rw [← h4]; exact h3⟩
theorem I2.fin {s : Nat × Dev} {W : World} (h : I2 wS A d ck Df s W) (hn : s.2.olB = false) : But (Only d) wS W ∧ DevAt LN A W d Df ∧ Df.Ok := by
  obtain ⟨h1, h2, h3, h4, _, _⟩ := h
  rw [lg_stay (by rw [hn]; simp)] at h4
  exact ⟨h1, by rw [← h4]; exact h2, by rw [← h4]; exact h3⟩
end
end Go.Proofs.Ytghojbgjmpjhgaa
