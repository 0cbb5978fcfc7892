
/-
  WireBrings: the program's wire, and three rows beside it, in memory.
  delivered: facts.
-/
import Derived.Test.YtghojbgjmpjhgaaB1
import Derived.Test.YtghojbgjmpjhgaaX10
namespace Go.Proofs.Ytghojbgjmpjhgaa
open Go.RowKit

theorem info_sl : (Try.prog.info? 27).map (fun i => (i.zero, i.size, i.bytes)) = some (some (.slice none 0 0), 1, 24) := by kernel_rfl
theorem info_int : (Try.prog.info? 3).map (fun i => (i.zero, i.size, i.bytes)) = some (some (.int .i64 0), 1, 8) := by kernel_rfl

/-- the three rows: when, what, how often yet -/
structure Rws (ρ : Nat → Nat) (w : World) (vp vb vl : Value) (BS : List (List Int)) (PT LF : List Int) : Prop where
  p : w.ownsRow 0 3 1 vp PT.length (PT.map (Value.int .i64))
  rp : ∀ k, vp.ownBlock = some k → ρ k = 30
  b : ∃ vs, w.ownsRow 0 27 1 vb BS.length vs ∧ ∀ j, j < BS.length → IsF (Mine ρ) w (vs[j]?.getD undef) (BS[j]?.getD [])
  rb : ∀ k, vb.ownBlock = some k → ρ k = 31
  l : w.ownsRow 0 3 1 vl LF.length (LF.map (Value.int .i64))
  rl : ∀ k, vl.ownBlock = some k → ρ k = 32

section
variable {ρ ρ' : Nat → Nat} {w w' : World} {vp vb vl : Value} {BS : List (List Int)} {PT LF : List Int}
theorem Rws.keep (h : Rws ρ w vp vb vl BS PT LF) {K : Nat → Prop} (hb : But K w w') (hk : ∀ g, K g → ρ g ≠ 0 ∧ ρ g < 30) (he : ∀ g, g < w.heap.size → ρ' g = ρ g) : Rws ρ' w' vp vb vl BS PT LF := by
  obtain ⟨vs, hv, hf⟩ := h.b
  have no : ∀ {v : Value} {r : Nat}, 30 ≤ r → (∀ k, v.ownBlock = some k → ρ k = r) → ∀ k, v.ownBlock = some k → ¬ K k := fun hr hv k e c => by have h1 := hv k e; have h2 := (hk k c).2; omega
  exact ⟨row_keep h.p hb (no (by omega) h.rp), fun k e => (he k (World.ownsRow.lt h.p k e).2).trans (h.rp k e),
    ⟨vs, row_keep hv hb (no (by omega) h.rb), fun j hj => (hf j hj).ext hb (fun g e => (hk g e).1) he⟩, fun k e => (he k (World.ownsRow.lt hv k e).2).trans (h.rb k e),
    row_keep h.l hb (no (by omega) h.rl), fun k e => (he k (World.ownsRow.lt h.l k e).2).trans (h.rl k e)⟩
theorem Rws.later (h : Rws ρ w vp vb vl BS PT LF) (hb : Below w.heap.size w w') : Rws ρ w' vp vb vl BS PT LF := h.keep (K := fun _ => False) (But.of_below hb) (fun _ e => e.elim) (fun _ _ => rfl)
end

/-- ALL THAT LIES IN MEMORY -/
structure Mem (P : Pl) (ρ : Nat → Nat) (w : World) (ck : Int) (L : Nat → List (Value × Frm)) (D : Nat → Dev) (T F : Nat → Nat) (m : Nat) (vp vb vl : Value) (BS : List (List Int)) (PT LF : List Int) : Prop where
  h : Half P ρ w ck L D T F m
  r : Rws ρ w vp vb vl BS PT LF

section
variable {P : Pl} {ρ ρ' : Nat → Nat} {w w' : World} {ck : Int} {L : Nat → List (Value × Frm)} {D : Nat → Dev} {T F : Nat → Nat} {m : Nat} {vp vb vl : Value} {BS : List (List Int)} {PT LF : List Int}
theorem Mem.later (a : Mem P ρ w ck L D T F m vp vb vl BS PT LF) (hb : Below w.heap.size w w') : Mem P ρ w' ck L D T F m vp vb vl BS PT LF := ⟨a.h.later hb, a.r.later hb⟩
theorem Mem.drew (a : Mem P ρ w ck L D T F m vp vb vl BS PT LF) : Mem P ρ w.drew ck L D T F m vp vb vl BS PT LF := a.later ⟨rfl, rfl, rfl, Nat.le_refl _, fun _ _ => rfl⟩
theorem Mem.more (a : Mem P ρ w ck L D T F m vp vb vl BS PT LF) : Mem P ρ w ck L D T F (m + 1) vp vb vl BS PT LF := ⟨⟨a.h.n, a.h.c, a.h.rx, a.h.low, a.h.i.more⟩, a.r⟩
theorem Mem.did (a : Mem P ρ w ck L D T F m vp vb vl BS PT LF) {ck' : Int} {L' : Nat → List (Value × Frm)} {D' : Nat → Dev} {m' : Nat} (d : Did ρ w w' P.b P.dv ck' L' D') (hi : Inv ck' (ab L') D' m') :
    ∃ ρ', Mem P ρ' w' ck' L' D' T F m' vp vb vl BS PT LF ∧ (∀ g, g < w.heap.size → ρ' g = ρ g) ∧ But (Mid ρ) w w' := by
  have hh := a.h
  obtain ⟨ρ3, n3, e3, b3⟩ := d
  refine ⟨ρ3, ⟨⟨n3, hh.c.but b3 (fun e => by have := hh.rx; omega), (e3 _ hh.c.lt).trans hh.rx, fun g e => ?_, hi⟩, a.r.keep b3 (fun g e => by omega) e3⟩, e3, ro_mid b3⟩
  by_cases hg : g < w.heap.size
  · exact hh.low g (by rw [← e3 g hg]; exact e)
  · have := hh.low P.x (by rw [hh.rx]; omega)
    have := hh.c.lt
    omega
/-- a device has done something -/
theorem Mem.dev (a : Mem P ρ w ck L D T F m vp vb vl BS PT LF) (i : Nat) (hi : i < 2) {D' : Dev} (hd : DevAt LN (Mine ρ) w' (P.dv i) D') (ok : D'.Ok) (hb : But (Only (P.dv i)) w w') (hdi : DI ck D') :
    Mem P ρ w' ck L (upd D i D') T F m vp vb vl BS PT LF ∧ But (Mid ρ) w w' := by
  have hr := a.h.n.rd i hi
  have ho : ∀ g, Only (P.dv i) g → ρ g = 1 + i := fun g e => by have e : g = P.dv i := e; rw [e, hr]
  exact ⟨⟨⟨a.h.n.acts i hi hd ok hb, a.h.c.but hb (fun e => by have := ho _ e; have := a.h.rx; omega), a.h.rx, a.h.low, a.h.i.acts i hdi⟩, a.r.keep hb (fun g e => by rw [ho g e]; omega) (fun _ _ => rfl)⟩, hb.mono (fun g e => by unfold Mid; rw [ho g e]; omega)⟩
theorem Mem.setT (a : Mem P ρ w ck L D T F m vp vb vl BS PT LF) (k : Nat) (hk : k < 2) (t : Nat) (ht : t < 16) : Mem P ρ (w.setCell ⟨P.x, 6 + k, none⟩ (.int .i64 (t : Int))) ck L D (upd T k t) F m vp vb vl BS PT LF :=
  ⟨a.h.setT k hk t ht, a.r.keep ((But.refl (Only P.x) w).setCell (p := ⟨P.x, 6 + k, none⟩) (.inr rfl) _) (fun g e => by have e : g = P.x := e; rw [e, a.h.rx]; omega) (fun _ _ => rfl)⟩
theorem Mem.setF (a : Mem P ρ w ck L D T F m vp vb vl BS PT LF) (k : Nat) (hk : k < 2) (t : Nat) (ht : t < 16) : Mem P ρ (w.setCell ⟨P.x, 8 + k, none⟩ (.int .i64 (t : Int))) ck L D T (upd F k t) m vp vb vl BS PT LF :=
  ⟨a.h.setF k hk t ht, a.r.keep ((But.refl (Only P.x) w).setCell (p := ⟨P.x, 8 + k, none⟩) (.inr rfl) _) (fun g e => by have e : g = P.x := e; rw [e, a.h.rx]; omega) (fun _ _ => rfl)⟩
theorem Mem.fresh0 (a : Mem P ρ w ck L D T F m vp vb vl BS PT LF) : ρ w.heap.size = 0 := a.h.fresh0

/-- a row of role r was turned, or laid anew -/
theorem Half.grow (hh : Half P ρ w ck L D T F m) {v : Value} {g' r : Nat} (h30 : 30 ≤ r) (hr : ∀ k, v.ownBlock = some k → ρ k = r) (hb : But (fun k => v.ownBlock = some k) w w') (hg : v.ownBlock = some g' ∨ w.heap.size ≤ g') (hlt : g' < w'.heap.size) :
    Half P (upd ρ g' r) w' ck L D T F m ∧ (∀ g, g < w.heap.size → upd ρ g' r g = ρ g) := by
  have he : ∀ g, g < w.heap.size → upd ρ g' r g = ρ g := fun g hg' => by
    by_cases e : g = g'
    · subst e; rw [upd_same]
      rcases hg with hg | hg
      · exact (hr _ hg).symm
      · omega
    · rw [upd_other _ _ _ _ e]
  have hl : ∀ g, upd ρ g' r g ≠ 0 → g < w'.heap.size := fun g e => by
    by_cases e2 : g = g'
    · rw [e2]; exact hlt
    · rw [upd_other _ _ _ _ e2] at e; exact Nat.lt_of_lt_of_le (hh.n.lt g e) hb.size
  refine ⟨⟨hh.n.keep hb (fun g e => by rw [hr g e]; omega) he hl, hh.c.but hb (fun e => by have := hr _ e; have := hh.rx; omega), (he _ hh.c.lt).trans hh.rx, fun g e => ?_, hh.i⟩, he⟩
  by_cases e2 : g = g'
  · rcases hg with hg | hg
    · exact hh.low g (by rw [e2, hr _ hg]; omega)
    · have := hh.low P.x (by rw [hh.rx]; omega)
      have := hh.c.lt
      omega
  · rw [upd_other _ _ _ _ e2] at e; exact hh.low g e
theorem other_row {r r' g' : Nat} {v v' : Value} {e : TypeId} {n : Nat} {xs : List Value} (hv : w.ownsRow 0 e 1 v' n xs) (hr' : ∀ k, v'.ownBlock = some k → ρ k = r') (hr : ∀ k, v.ownBlock = some k → ρ k = r) (hne : r ≠ r') (hb : But (fun k => v.ownBlock = some k) w w') (he : ∀ g, g < w.heap.size → upd ρ g' r g = ρ g) :
    w'.ownsRow 0 e 1 v' n xs ∧ ∀ k, v'.ownBlock = some k → upd ρ g' r k = r' :=
  ⟨row_keep hv hb (fun k e c => hne ((hr k c).symm.trans (hr' k e))), fun k e => (he k (World.ownsRow.lt hv k e).2).trans (hr' k e)⟩
theorem Mem.pushP (a : Mem P ρ w ck L D T F m vp vb vl BS PT LF) {g' n' c' : Nat} {PT' : List Int} (ho : w'.ownsRow 0 3 1 (.slice (some ⟨g', 0, none⟩) n' c') PT'.length (PT'.map (Value.int .i64))) (hb : But (fun k => vp.ownBlock = some k) w w') (hg : vp.ownBlock = some g' ∨ w.heap.size ≤ g') :
    ∃ ρ', Mem P ρ' w' ck L D T F m (.slice (some ⟨g', 0, none⟩) n' c') vb vl BS PT' LF ∧ (∀ g, g < w.heap.size → ρ' g = ρ g) ∧ But (Mine ρ) w w' := by
  have hlt := (World.ownsRow.lt ho g' rfl).2
  obtain ⟨h1, he⟩ := a.h.grow (r := 30) (by omega) a.r.rp hb hg hlt
  obtain ⟨vs, hv, hf⟩ := a.r.b
  obtain ⟨b1, b2⟩ := other_row (g' := g') hv a.r.rb a.r.rp (by omega) hb he
  obtain ⟨l1, l2⟩ := other_row (g' := g') a.r.l a.r.rl a.r.rp (by omega) hb he
  exact ⟨_, ⟨h1, ⟨ho, fun k e => by cases e; exact upd_same .., ⟨vs, b1, fun j hj => (hf j hj).ext hb (fun g e => by rw [a.r.rp g e]; omega) he⟩, b2, l1, l2⟩⟩, he, hb.mono (fun g e => by unfold Mine; rw [a.r.rp g e]; omega)⟩
theorem Mem.pushL (a : Mem P ρ w ck L D T F m vp vb vl BS PT LF) {g' n' c' : Nat} {LF' : List Int} (ho : w'.ownsRow 0 3 1 (.slice (some ⟨g', 0, none⟩) n' c') LF'.length (LF'.map (Value.int .i64))) (hb : But (fun k => vl.ownBlock = some k) w w') (hg : vl.ownBlock = some g' ∨ w.heap.size ≤ g') :
    ∃ ρ', Mem P ρ' w' ck L D T F m vp vb (.slice (some ⟨g', 0, none⟩) n' c') BS PT LF' ∧ (∀ g, g < w.heap.size → ρ' g = ρ g) ∧ But (Mine ρ) w w' := by
  have hlt := (World.ownsRow.lt ho g' rfl).2
  obtain ⟨h1, he⟩ := a.h.grow (r := 32) (by omega) a.r.rl hb hg hlt
  obtain ⟨vs, hv, hf⟩ := a.r.b
  obtain ⟨b1, b2⟩ := other_row (g' := g') hv a.r.rb a.r.rl (by omega) hb he
  obtain ⟨p1, p2⟩ := other_row (g' := g') a.r.p a.r.rp a.r.rl (by omega) hb he
  exact ⟨_, ⟨h1, ⟨p1, p2, ⟨vs, b1, fun j hj => (hf j hj).ext hb (fun g e => by rw [a.r.rl g e]; omega) he⟩, b2, ho, fun k e => by cases e; exact upd_same ..⟩⟩, he, hb.mono (fun g e => by unfold Mine; rw [a.r.rl g e]; omega)⟩
theorem Mem.pushB (a : Mem P ρ w ck L D T F m vp vb vl BS PT LF) {g' n' c' : Nat} {vs : List Value} {u : Value} {bs : List Int} (hv : w.ownsRow 0 27 1 vb BS.length vs) (hf : ∀ j, j < BS.length → IsF (Mine ρ) w (vs[j]?.getD undef) (BS[j]?.getD [])) (hu : IsF (Mine ρ) w u bs)
    (ho : w'.ownsRow 0 27 1 (.slice (some ⟨g', 0, none⟩) n' c') (BS.length + 1) (vs ++ [u])) (hb : But (fun k => vb.ownBlock = some k) w w') (hg : vb.ownBlock = some g' ∨ w.heap.size ≤ g') :
    ∃ ρ', Mem P ρ' w' ck L D T F m vp (.slice (some ⟨g', 0, none⟩) n' c') vl (BS ++ [bs]) PT LF ∧ (∀ g, g < w.heap.size → ρ' g = ρ g) ∧ But (Mine ρ) w w' := by
  have hlt := (World.ownsRow.lt ho g' rfl).2
  have hvl : vs.length = BS.length := by have := hv.1; omega
  obtain ⟨h1, he⟩ := a.h.grow (r := 31) (by omega) a.r.rb hb hg hlt
  obtain ⟨p1, p2⟩ := other_row (g' := g') a.r.p a.r.rp a.r.rb (by omega) hb he
  obtain ⟨l1, l2⟩ := other_row (g' := g') a.r.l a.r.rl a.r.rb (by omega) hb he
  refine ⟨_, ⟨h1, ⟨p1, p2, ⟨vs ++ [u], by simpa using ho, fun j hj => ?_⟩, fun k e => by cases e; exact upd_same .., l1, l2⟩⟩, he, hb.mono (fun g e => by unfold Mine; rw [a.r.rb g e]; omega)⟩
  have ext : ∀ {v : Value} {z : List Int}, IsF (Mine ρ) w v z → IsF (Mine (upd ρ g' 31)) w' v z := fun h => h.ext hb (fun g e => by rw [a.r.rb g e]; omega) he
  rw [List.length_append, List.length_cons, List.length_nil] at hj
  by_cases e : j < BS.length
  · rw [List.getElem?_append_left (by omega), List.getElem?_append_left e]
    exact ext (hf j e)
  · obtain rfl : j = BS.length := by omega
    rw [List.getElem?_append_right (by omega), List.getElem?_append_right (Nat.le_refl _), hvl, Nat.sub_self]
    exact ext hu
end


theorem drewN_belowY (w : World) (n : Nat) : Below w.heap.size w (w.drewN n) := ⟨rfl, rfl, rfl, Nat.le_refl _, fun _ _ => rfl⟩
theorem lk_i {l : Nat → List Frm} {i u : Nat} {f : Frm} (hi : i < 2) (hu : (l i)[u]? = some f) : lkA l (i : Int) (u : Int) = f ∧ thE (fun i => (l i).length) (i : Int) (u : Int) = 0 := by
  have hul := (List.getElem?_eq_some_iff.1 hu).1
  have e : thE (fun i => (l i).length) (i : Int) (u : Int) = 0 := thE_yes hi (by omega)
  refine ⟨?_, e⟩
  unfold lkA
  rw [if_pos e, Int.toNat_natCast, Int.toNat_natCast, hu]; rfl
/-- nothing stands there -/
theorem del_no {l : Nat → List Frm} {D : Nat → Dev} {d k : Int} (h : thE (fun i => (l i).length) d k ≠ 0) : dlEA l D d k = thE (fun i => (l i).length) d k ∧ dlDA l D d k = D ∧ drA l d k = l := by
  unfold dlEA dlDA drA
  rw [if_neg h, if_neg h, if_neg h]; exact ⟨rfl, rfl, rfl⟩
/-- one stands there -/
theorem del_yes {l : Nat → List Frm} {D : Nat → Dev} {i u : Nat} {f : Frm} (hi : i < 2) (hu : (l i)[u]? = some f) : dlEA l D (i : Int) (u : Int) = (D (1 - i)).gvE f.bs ∧ dlDA l D (i : Int) (u : Int) = upd D (1 - i) ((D (1 - i)).gvD f.bs f.bad) ∧ drA l (i : Int) (u : Int) = upd l i ((l i).eraseIdx u) := by
  obtain ⟨e1, e2⟩ := lk_i hi hu
  unfold dlEA dlDA drA
  rw [if_pos e2, if_pos e2, if_pos e2, e1, Int.toNat_natCast, Int.toNat_natCast]; exact ⟨rfl, rfl, rfl⟩
theorem row_some {w : World} {e : TypeId} {a : Option Addr} {n c : Nat} {xs : List Value} (h : w.ownsRow 0 e 1 (.slice a n c) n xs) (hn : 0 < n) : ∃ g, a = some ⟨g, 0, none⟩ := by
  obtain ⟨_, ⟨_, h0⟩ | ⟨g', _, _, e1, _⟩⟩ := h
  · omega
  · simp only [Value.slice.injEq] at e1; exact ⟨g', e1.1⟩
theorem int_cellAt {w : World} {g n c q : Nat} {xs : List Int} {x : Int} (h : w.ownsRow 0 3 1 (.slice (some ⟨g, 0, none⟩) n c) n (xs.map (Value.int .i64))) (hq : q < n) (hx : xs[q]? = some x) : w.cell? ⟨g, q, none⟩ = some (.int .i64 x) := by
  rw [World.ownsRow.cellAt h q (by omega), List.getElem?_map, hx]; rfl

/-- where the bytes lie -/
theorem Gro.where {B : Nat} {W : World} {a : Option Addr} {n c : Nat} {bs : List Int} (h : Gro B W (.slice a n c) bs) (h0 : 0 < bs.length) :
    ∃ g, a = some ⟨g, 0, none⟩ ∧ B ≤ g ∧ (∀ j, j < bs.length → W.cell? ⟨g, j, none⟩ = some (.int .u8 (bs[j]?.getD 0))) ∧ ∀ j, W.frozen? ⟨g, j, none⟩ = false := by
  have h' := h
  obtain ⟨_, ⟨e, h1⟩ | ⟨g, cap, cur, e, hg, _⟩⟩ := h
  · omega
  · simp only [Value.slice.injEq] at e
    obtain ⟨rfl, rfl, rfl⟩ := e
    refine ⟨g, rfl, hg, fun j hj => ?_, fun j => World.ownsRow.frozenAt h' j⟩
    rw [World.ownsRow.cellAt h' j (by omega)]
    simp [hj]

/-- what 'delivered' leaves -/
def DelEnd (P : Pl) (ρ : Nat → Nat) (w : World) (ck : Int) (T : Nat → Nat) (S : Nat → List (List Int)) (TT : Nat → List Int) (tk : Nat → Nat) (BS : List (List Int)) (PT : List Int) (m : Nat) (vp vb vl : Value) (e : Ending) (w' : World) : Prop :=
  e = .returned (.bool true) ∧ ∃ ρ' L' D' F' LF', Mem P ρ' w' ck L' D' T F' (m + 1) vp vb vl BS PT LF' ∧ Brg ck (ab L') D' F' S TT tk BS PT LF' (m + 1) ∧ But (Mine ρ) w w'

/-- left is counted down, or up -/
theorem Mem.setL {P : Pl} {ρ : Nat → Nat} {w : World} {ck : Int} {L : Nat → List (Value × Frm)} {D : Nat → Dev} {T F : Nat → Nat} {m : Nat} {vp vb : Value} {BS : List (List Int)} {PT LF : List Int} {g n c : Nat} (a : Mem P ρ w ck L D T F m vp vb (.slice (some ⟨g, 0, none⟩) n c) BS PT LF) (hn : LF.length = n) (q : Nat) (x : Int) :
    ∃ ρ', Mem P ρ' (w.setCell ⟨g, q, none⟩ (.int .i64 x)) ck L D T F m vp vb (.slice (some ⟨g, 0, none⟩) n c) BS PT (LF.set q x) ∧ (∀ g, g < w.heap.size → ρ' g = ρ g) ∧ But (Mine ρ) w (w.setCell ⟨g, q, none⟩ (.int .i64 x)) := by
  subst hn
  have hs := (World.ownsRow.stored a.r.l q (.int .i64 x)).1
  refine a.pushL (g' := g) (LF' := LF.set q x) ?_ ((But.refl (fun k => (Value.slice (some ⟨g, 0, none⟩) LF.length c).ownBlock = some k) w).setCell (p := ⟨g, q, none⟩) (.inr rfl) _) (.inl rfl)
  rw [List.length_set, List.map_set]; exact hs
end Go.Proofs.Ytghojbgjmpjhgaa
