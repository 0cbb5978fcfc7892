
/-
  Package wire: contracts of another, See.
-/
import Derived.Test.YtghojbgjmpjhgaaW1
namespace Go.Proofs.Ytghojbgjmpjhgaa
open Go.RowKit

/-- a frame in three cells of one block -/
structure T3 (W : World) (s : Nat) (u0 u1 u2 : Value) : Prop where
  c0 : W.cell? ⟨s, 0, none⟩ = some u0
  c1 : W.cell? ⟨s, 1, none⟩ = some u1
  c2 : W.cell? ⟨s, 2, none⟩ = some u2
  f0 : W.frozen? ⟨s, 0, none⟩ = false
  f1 : W.frozen? ⟨s, 1, none⟩ = false
  f2 : W.frozen? ⟨s, 2, none⟩ = false
theorem T3.but {K : Nat → Prop} {W W' : World} {s : Nat} {u0 u1 u2 : Value} (h : T3 W s u0 u1 u2) (hb : But K W W') (hk : ¬ K s) : T3 W' s u0 u1 u2 := by
  have hs : s < W.heap.size := World.block_lt_of_cell? W _ h.c0
  exact ⟨(hb.cell (p := ⟨s, 0, none⟩) hs hk).trans h.c0, (hb.cell (p := ⟨s, 1, none⟩) hs hk).trans h.c1, (hb.cell (p := ⟨s, 2, none⟩) hs hk).trans h.c2, (hb.frozen (p := ⟨s, 0, none⟩) hs hk).trans h.f0, (hb.frozen (p := ⟨s, 1, none⟩) hs hk).trans h.f1, (hb.frozen (p := ⟨s, 2, none⟩) hs hk).trans h.f2⟩
theorem T3.new (w : World) (u0 u1 u2 : Value) (t : TypeId) : T3 (w.alloc (.cells #[u0, u1, u2] t)) w.heap.size u0 u1 u2 := by
  have key : ∀ i x, (#[u0, u1, u2] : Array Value)[i]? = some x → (w.alloc (.cells #[u0, u1, u2] t)).cell? ⟨w.heap.size, i, none⟩ = some x := fun i x hx => by
    rw [cell_of_row _ w.heap.size i _ t (0, 0) (heap_alloc_new w _)]; exact hx
  have kf : ∀ i, (w.alloc (.cells #[u0, u1, u2] t)).frozen? ⟨w.heap.size, i, none⟩ = false := fun i => frozen_of_row _ _ _ _ _ (heap_alloc_new w _)
  exact ⟨key 0 _ rfl, key 1 _ rfl, key 2 _ rfl, kf 0, kf 1, kf 2⟩
theorem T3.lt {W : World} {s : Nat} {u0 u1 u2 : Value} (h : T3 W s u0 u1 u2) : s < W.heap.size := World.block_lt_of_cell? W _ h.c0
theorem T3.later {W W' : World} {s : Nat} {u0 u1 u2 : Value} (h : T3 W s u0 u1 u2) (hb : Below W.heap.size W W') : T3 W' s u0 u1 u2 := h.but (K := fun _ => False) (But.of_below hb) id
theorem T3.al {W : World} {s : Nat} {u0 u1 u2 : Value} (h : T3 W s u0 u1 u2) (o : Obj) : T3 (W.alloc o) s u0 u1 u2 := h.later ((Below.refl _ _).alloc (Nat.le_refl _) o)

set_option maxRecDepth 100000 in
theorem another_any {A : Nat → Prop} {w : World} {a : Option Addr} {c : Nat} {bs : List Int} (hv : IsF A w (.slice a bs.length c) bs) (hl : bs.length ≤ 140737488355328) (x : Bool) (t : Int) :
    Calls Try.prog 50 #[.agg #[.slice a bs.length c, .bool x, .int .i64 t]] w fun e w' => ∃ a' c', e = .returned (.agg #[.slice a' bs.length c', .bool x, .int .i64 t]) ∧ Gro w.heap.size w' (.slice a' bs.length c') bs ∧ Below w.heap.size w w' := by
  have t1 := (T3.new w (.slice a bs.length c) (.bool x) (.int .i64 t) 48).al (.cells #[.slice none 0 0, .bool false, .int .i64 0] 48)
  have t2 := T3.new (w.alloc (.cells #[.slice a bs.length c, .bool x, .int .i64 t] 48)) (.slice none 0 0) (.bool false) (.int .i64 0) 48
  rw [World.size_alloc] at t2
  have V2 := hide ((hv.later ((Below.refl _ _).alloc (Nat.le_refl _) (.cells #[.slice a bs.length c, .bool x, .int .i64 t] 48))).later ((Below.refl _ _).alloc (Nat.le_refl _) (.cells #[.slice none 0 0, .bool false, .int .i64 0] 48)))
  have B2 : Hid (Below w.heap.size w ((w.alloc (.cells #[.slice a bs.length c, .bool x, .int .i64 t] 48)).alloc (.cells #[.slice none 0 0, .bool false, .int .i64 0] 48))) := ((Below.refl _ _).alloc (Nat.le_refl _) _).alloc (by simp) _
  have S2 : Hid (((w.alloc (.cells #[.slice a bs.length c, .bool x, .int .i64 t] 48)).alloc (.cells #[.slice none 0 0, .bool false, .int .i64 0] 48)).heap.size = w.heap.size + 2) := by unfold Hid; simp
  have T1 := hide t1
  have T2 := hide t2
  clear t1 t2 hv
  go_enter Try.func50, Try.ntmps50
  go_wp2_with fail
  generalize ((w.alloc (.cells #[.slice a bs.length c, .bool x, .int .i64 t] 48)).alloc (.cells #[.slice none 0 0, .bool false, .int .i64 0] 48)) = w2 at *
  refine (Clone_sl V2.out hl).mono ?_
  rintro e w3 ⟨a', c', rfl, hG, hB⟩
  obtain ⟨x0, x1, x2, y0, y1, y2⟩ := T1.out.later hB
  obtain ⟨x3, x4, x5, y3, y4, y5⟩ := T2.out.later hB
  have HG := hide hG
  have HB := hide hB
  obtain ⟨s, hs⟩ : ∃ s, s = w.heap.size := ⟨_, rfl⟩
  rw [← hs] at x0 x1 x2 x3 x4 x5 y0 y1 y2 y3 y4 y5 S2 B2 ⊢
  have HS := hide hs
  clear hG hB hs T1 T2 V2
  go_wp2
  refine bodyPost_ret (v := .agg #[.slice a' bs.length c', .bool x, .int .i64 t]) (by simp [results, asAddr, go_sem, x3, x4, x5]) (by simp) ?_
  rw [← HS.out]
  have hsz := S2.out
  have hb5 : But (fun g => g = s ∨ g = s + 1) w3 ((((w3.setCell ⟨s, 0, none⟩ (.slice a' bs.length c')).setCell ⟨s + 1, 0, none⟩ (.slice a' bs.length c')).setCell ⟨s + 1, 1, none⟩ (.bool x)).setCell ⟨s + 1, 2, none⟩ (.int .i64 t)) :=
    ((((But.refl _ w3).setCell (p := ⟨s, 0, none⟩) (.inr (.inl rfl)) _).setCell (p := ⟨s + 1, 0, none⟩) (.inr (.inr rfl)) _).setCell (p := ⟨s + 1, 1, none⟩) (.inr (.inr rfl)) _).setCell (p := ⟨s + 1, 2, none⟩) (.inr (.inr rfl)) _
  refine ⟨_, _, rfl, (HG.out.but hb5 (fun g e => by rcases e with e | e <;> omega)).mono (by omega), ?_⟩
  exact (B2.out.trans (HB.out.mono (by omega))).trans (hb5.below (by have := HB.out.size; omega) (fun g hg e => by rcases e with e | e <;> omega))

/-- the frame that stands there, or none -/
def look (L : Nat → List (Value × Frm)) (d k : Int) : Frm := if thE (lens L) d k = 0 then (((L d.toNat)[k.toNat]?).map Prod.snd).getD ⟨[], false, 0⟩ else ⟨[], false, 0⟩
theorem look_no {L : Nat → List (Value × Frm)} {d k : Int} (h : thE (lens L) d k ≠ 0) : look L d k = ⟨[], false, 0⟩ := by unfold look; rw [if_neg h]
theorem look_yes {L : Nat → List (Value × Frm)} {i k : Nat} {p : Value × Frm} (hi : i < 2) (h : (L i)[k]? = some p) : thE (lens L) (i : Int) (k : Int) = 0 ∧ look L (i : Int) (k : Int) = p.2 := by
  have e : thE (lens L) (i : Int) (k : Int) = 0 := thE_yes hi (by have := (List.getElem?_eq_some_iff.1 h).1; unfold lens; omega)
  refine ⟨e, ?_⟩
  unfold look; rw [if_pos e, Int.toNat_natCast, Int.toNat_natCast, h]; rfl
theorem thE_get {L : Nat → List (Value × Frm)} {d k : Int} (h : thE (lens L) d k = 0) : ∃ (i j : Nat) (p : Value × Frm), d = (i : Int) ∧ k = (j : Int) ∧ i < 2 ∧ (L i)[j]? = some p := by
  by_cases hd : isDir d = true
  · obtain ⟨i, rfl, hi⟩ := isDir_nat hd
    by_cases hk : 0 ≤ k ∧ k < (lens L i : Int)
    · have hj : k.toNat < (L i).length := by unfold lens at hk; omega
      exact ⟨i, k.toNat, (L i)[k.toNat], rfl, by omega, hi, List.getElem?_eq_getElem hj⟩
    · rw [thE_no hi hk] at h; omega
  · rw [thE_one (by simpa using hd)] at h; omega

/-- a list's frame, as its cells -/
theorem Lst.at {ρ : Nat → Nat} {w : World} {i : Nat} {v : Value} {l : List (Value × Frm)} (h : Lst ρ w i v l) {k : Nat} {p : Value × Frm} (hk : l[k]? = some p) :
    ∃ g c, v = .slice (some ⟨g, 0, none⟩) l.length c ∧ ρ g = 5 + i ∧ g < w.heap.size ∧ w.cell? ⟨g, k * 3, none⟩ = some p.1 ∧ w.cell? ⟨g, k * 3 + 1, none⟩ = some (.bool p.2.bad) ∧ w.cell? ⟨g, k * 3 + 2, none⟩ = some (.int .i64 p.2.tick) ∧ ∀ j, w.frozen? ⟨g, j, none⟩ = false := by
  have hlt := (List.getElem?_eq_some_iff.1 hk).1
  have hr := h.row
  have hr' := h.row
  obtain ⟨_, ⟨rfl, e⟩ | ⟨g, cap, cur, rfl, _, hh, _⟩⟩ := hr
  · omega
  · obtain ⟨f0, f1, f2⟩ := flat_get l k p hk
    refine ⟨g, cap, rfl, h.role g rfl, (Array.getElem?_eq_some_iff.1 hh).1, ?_, ?_, ?_, fun j => World.ownsRow.frozenAt hr' j⟩
    · rw [World.ownsRow.cellAt hr' _ (by omega)]; exact f0
    · rw [World.ownsRow.cellAt hr' _ (by omega)]; exact f1
    · rw [World.ownsRow.cellAt hr' _ (by omega)]; exact f2
theorem Gro.sl {B : Nat} {w : World} {v : Value} {bs : List Int} (h : Gro B w v bs) : ∃ a c, v = .slice a bs.length c := by
  obtain ⟨_, ⟨rfl, e⟩ | ⟨g, cap, cur, rfl, _⟩⟩ := h
  · rw [e]; exact ⟨_, _, rfl⟩
  · exact ⟨_, _, rfl⟩

set_option maxRecDepth 100000 in
set_option maxHeartbeats 1000000 in
theorem See_any {ρ : Nat → Nat} {w : World} {b : Nat} {dv : Nat → Nat} {ck : Int} {L : Nat → List (Value × Frm)} {D : Nat → Dev} (h : Net ρ w b dv ck L D) (d k : Int) :
    Calls Try.prog 15 #[.pointer (some ⟨b, 0, none⟩), .int .i64 d, .int .i64 k] w fun e w' => ∃ a c, e = .returned (.tuple #[.agg #[.slice a (look L d k).bs.length c, .bool (look L d k).bad, .int .i64 (look L d k).tick], .int .i64 (thE (lens L) d k)]) ∧ Gro w.heap.size w' (.slice a (look L d k).bs.length c) (look L d k).bs ∧ Below w.heap.size w w' := by
  have b1 : Below w.heap.size w (w.alloc (.cells #[.slice none 0 0, .bool false, .int .i64 0] 48)) := (Below.refl _ _).alloc (Nat.le_refl _) _
  have R := hide (stands_any (h.later b1) d k)
  have T1 := T3.new w (.slice none 0 0) (.bool false) (.int .i64 0) 48
  by_cases e0 : thE (lens L) d k = 0
  · obtain ⟨i, j, p, rfl, rfl, hi, hp⟩ := thE_get e0
    rw [(look_yes hi hp).2, e0]
    rw [e0] at R
    obtain ⟨v, hv, hL⟩ := (h.later b1).ls i hi
    have hf := (hL.fr p (List.mem_of_getElem? hp)).1
    have hlen := h.fl i hi p (List.mem_of_getElem? hp)
    obtain ⟨g, c, rfl, _, hg, c0, c1, c2, _⟩ := hL.at hp
    obtain ⟨pv, f⟩ := p
    simp only at hf c0 c1 c2 hlen ⊢
    obtain ⟨a, cc, rfl⟩ := hf.sl
    have hj : (j : Int) < (L i).length := by have := (List.getElem?_eq_some_iff.1 hp).1; omega
    have hi2 : (i : Int) < 2 := by omega
    have A := hide (another_any (hf.isF (A := fun _ => False) (fun _ _ => id)) (by omega) f.bad f.tick)
    have T1' := hide T1
    have B1 := hide b1
    obtain ⟨s, hs⟩ : ∃ s, s = w.heap.size := ⟨_, rfl⟩
    have HS := hide hs
    rw [← hs] at T1'
    clear T1 b1 hf e0 h
    go_enter Try.func15, Try.ntmps15
    go_wp2_with fail
    refine R.out.mono ?_
    rintro e w' ⟨rfl, rfl⟩
    rw [← hs]
    clear R hs
    generalize (w.alloc (.cells #[.slice none 0 0, .bool false, .int .i64 0] 48)) = w1 at *
    go_wp2_with fail
    refine A.out.mono ?_
    rintro e w3 ⟨a', c', rfl, hG, hB⟩
    obtain ⟨x3, x4, x5, y3, y4, y5⟩ := T1'.out.later hB
    have HG := hide hG
    have HB := hide hB
    have S1 := hide T1'.out.lt
    clear hG hB T1' A
    go_wp2
    refine bodyPost_ret (v := .tuple #[.agg #[.slice a' f.bs.length c', .bool f.bad, .int .i64 f.tick], .int .i64 0]) (by simp [results, asAddr, go_sem, x3, x4, x5]) (by simp) ?_
    rw [← HS.out] at B1 ⊢
    have hsz := S1.out
    have hb5 : But (Only s) w3 (((w3.setCell ⟨s, 0, none⟩ (.slice a' f.bs.length c')).setCell ⟨s, 1, none⟩ (.bool f.bad)).setCell ⟨s, 2, none⟩ (.int .i64 f.tick)) :=
      (((But.refl (Only s) w3).setCell (p := ⟨s, 0, none⟩) (.inr rfl) _).setCell (p := ⟨s, 1, none⟩) (.inr rfl) _).setCell (p := ⟨s, 2, none⟩) (.inr rfl) _
    refine ⟨_, _, rfl, (HG.out.but hb5 (fun g e => by have e : g = s := e; omega)).mono (by omega), ?_⟩
    exact (B1.out.trans (HB.out.mono (by omega))).trans (hb5.below (by have := HB.out.size; omega) (fun g hg e => by have e : g = s := e; omega))
  · rw [look_no e0]
    obtain ⟨er, her⟩ : ∃ er, er = thE (lens L) d k := ⟨_, rfl⟩
    rw [← her] at R e0 ⊢
    have q : (er != 0) = true := by simp [e0]
    have B1 := hide b1
    clear her h T1 b1
    go_enter Try.func15, Try.ntmps15
    go_wp2_with fail
    refine R.out.mono ?_
    rintro e w' ⟨rfl, rfl⟩
    clear R
    go_wp2
    refine bodyPost_ret (v := .tuple #[.agg #[.slice none 0 0, .bool false, .int .i64 0], .int .i64 er]) (by simp [results, asAddr, go_sem]) (by simp) ?_
    exact ⟨_, _, rfl, Gro.nil _ _, B1.out⟩

end Go.Proofs.Ytghojbgjmpjhgaa
