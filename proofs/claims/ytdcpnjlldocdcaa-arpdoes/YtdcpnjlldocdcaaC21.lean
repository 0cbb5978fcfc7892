
/-
  The law's own: numbers that turn leave requests as they are; both caches after a call of each. The law's own: a Tick of both. The law's own: a call whose address lies in a variable; a Heard of both. The law's own: a Find of both. ArpDoes: the walk.
-/
import Derived.Test.YtdcpnjlldocdcaaC16
import Derived.Test.YtdcpnjlldocdcaaAX
namespace Go.Proofs.Ytdcpnjlldocdcaa
open Go.RowKit Go.Shelf

/-- what is no number stays as it is -/
structure Ints (w w' : World) : Prop where
  keep : ∀ p v, w.cell? p = some v → (∀ n, v ≠ .int .i64 n) → w'.cell? p = some v
  is : ∀ p, (w.cell? p).isSome = true → (w'.cell? p).isSome = true
  fz : ∀ p, w'.frozen? p = w.frozen? p
theorem Ints.refl (w : World) : Ints w w := ⟨fun _ _ h _ => h, fun _ h => h, fun _ => rfl⟩
theorem Ints.drewN {a w : World} (h : Ints a w) (t : Nat) : Ints a (w.drewN t) := ⟨h.keep, h.is, h.fz⟩
theorem Ints.set {a w : World} (h : Ints a w) {p : Addr} {y z : Int} (hp : w.cell? p = some (.int .i64 y)) : Ints a (w.setCell p (.int .i64 z)) := by
  refine ⟨fun q v hq hv => ?_, fun q hq => ?_, fun q => (World.frozen?_setCell ..).trans (h.fz q)⟩
  · have e := h.keep q v hq hv
    by_cases hpq : p = q
    · rw [← hpq, hp] at e
      cases e
      exact absurd rfl (hv y)
    · rw [World.cell?_setCell_other _ _ _ _ hpq]; exact e
  · by_cases hpq : p = q
    · rw [← hpq, World.cell?_setCell_same _ _ _ hp]; rfl
    · rw [World.cell?_setCell_other _ _ _ _ hpq]; exact h.is q hq
theorem RowF.ints {n : Nat} {O : Nat → Prop} {W W' : World} {v : Value} {len : Nat} {c : Nat → List Value} (h : RowF n O W v len c) (hi : Ints W W') (hs : W.heap.size ≤ W'.heap.size) (hc : ∀ q, q < len → ∀ u ∈ c q, ∀ z, u ≠ .int .i64 z) : RowF n O W' v len c := by
  obtain ⟨a, cap, c1, c2, c3, c4, c5⟩ := h
  refine ⟨a, cap, c1, c2, c3, c4, fun ad e => ?_⟩
  obtain ⟨g, d1, d2, d3, d4, d5, d6⟩ := c5 ad e
  exact ⟨g, d1, d2, Nat.lt_of_lt_of_le d3 hs, fun j hj => hi.is _ (d4 j hj), fun j => (hi.fz _).trans (d5 j), fun q hq k u hu => hi.keep _ _ (d6 q hq k u hu) (hc q hq u (List.mem_of_getElem? hu))⟩
theorem ar_noint (a : Ar) : ∀ u ∈ a.vals, ∀ z, u ≠ .int .i64 z := by
  intro u hu z e
  subst e
  simp [Ar.vals, M6.vals, I4.vals] at hu
set_option maxRecDepth 100000 in
set_option maxHeartbeats 2000000 in
theorem nums2_any {w : World} {aa ba : Option Addr} {ca bc : Nat} {L : List Int} {O1 O2 : Nat → Prop} (ha : RowN O1 w (.slice aa L.length ca) L) (hb : RowN O2 w (.slice ba L.length bc) L) (hd : ∀ g, O1 g → ¬ O2 g) (hl : L.length ≤ 1000) :
    Calls Try.prog 28 #[.slice aa L.length ca, .slice ba L.length bc] w fun e w' => e = .returned (.bool true) ∧ But O1 w w' ∧ Ints w w' := by
  obtain ⟨m, hm⟩ : ∃ m, m = L.length := ⟨_, rfl⟩
  have HM := hide hm
  have HA := hide (fun hp : 0 < L.length => ha.all hp)
  rw [← hm] at ha hb hl ⊢
  have HB := hide hb
  have HD := hide hd
  have zm : (m : Int) ≤ 1000 := by omega
  clear ha hb hd hm
  go_enter Try.func28, Try.ntmps28
  go_wp2
  go_loopw [5, 6] (fun v5 v6 wr => ∃ i : Nat, v5 = .bool true ∧ v6 = .int .i64 (i : Int) ∧ i ≤ m ∧ Hid (But O1 w wr ∧ Ints w wr ∧ ∀ g off, aa = some ⟨g, off, none⟩ → O1 g → 0 < L.length → (∀ j y, i ≤ j → L[j]? = some y → wr.cell? ⟨g, off + j, none⟩ = some (.int .i64 y)) ∧ ∀ j, wr.frozen? ⟨g, j, none⟩ = false)) (fun _ v6 _ => m - (intOf v6).toNat)
  case atStart =>
    refine ⟨0, rfl, rfl, Nat.zero_le _, But.refl _ _, Ints.refl _, fun g off e _ hp => ?_⟩
    obtain ⟨g', off', e', _, _, hf, hc⟩ := HA.out hp
    rw [e] at e'
    cases e'
    exact ⟨fun j y _ hy => hc j y hy, hf⟩
  case round =>
    obtain ⟨i, rfl, rfl, hi, hq⟩ := hrel
    by_cases hlt : i < m
    · have zi : (i : Int) < (m : Int) := by omega
      have hp : 0 < L.length := by have := HM.out; omega
      obtain ⟨y, hy⟩ : ∃ y, L[i]? = some y := ⟨_, List.getElem?_eq_getElem (by have := HM.out; omega)⟩
      obtain ⟨g, off, rfl, hg, og, _, _⟩ := HA.out hp
      obtain ⟨bw, iw, hcw⟩ := hq.out
      obtain ⟨hc, hf⟩ := hcw g off rfl og hp
      have hb1 := HB.out.but bw (fun b e1 e2 => HD.out b e2 e1)
      obtain ⟨bg, boff, rfl, hbl, hbo, hcs⟩ := hb1.at hp
      have cb := hcs i y hy
      have cg := hc i y (Nat.le_refl _) hy
      have fg := hf (off + i)
      have Q2 : Hid (∀ t, But O1 w ((wr.drewN t).setCell ⟨g, off + i, none⟩ (.int .i64 (-9))) ∧ Ints w ((wr.drewN t).setCell ⟨g, off + i, none⟩ (.int .i64 (-9))) ∧ ∀ g' off', some (⟨g, off, none⟩ : Addr) = some ⟨g', off', none⟩ → O1 g' → 0 < L.length → (∀ j y, i + 1 ≤ j → L[j]? = some y → ((wr.drewN t).setCell ⟨g, off + i, none⟩ (.int .i64 (-9))).cell? ⟨g', off' + j, none⟩ = some (.int .i64 y)) ∧ ∀ j, ((wr.drewN t).setCell ⟨g, off + i, none⟩ (.int .i64 (-9))).frozen? ⟨g', j, none⟩ = false) := fun t => by
        refine ⟨(bw.drewN t).setCell (p := ⟨g, off + i, none⟩) (.inr og) _, (iw.drewN t).set (y := y) cg, fun g' off' e _ _ => ?_⟩
        cases e
        refine ⟨fun j y' hj hy' => ?_, fun j => (World.frozen?_setCell ..).trans (hf j)⟩
        rw [setCell_out (by omega)]
        exact hc j y' (by omega) hy'
      clear hb1 hcs hq hy hc hf hcw bw iw
      go_upto_region 7 with fail
      go_quiet (fail)
      have Q3 := hide (Q2.out nq)
      clear Q2
      go_wp2
      go_roundw
      case rel => exact ⟨i + 1, rfl, by go_num, hlt, Q3.out⟩
      case measure => simp [intOf]; omega
    · obtain rfl : i = m := by omega
      have zi : ¬ (i : Int) < (i : Int) := by omega
      have F := hide (And.intro hq.out.1 hq.out.2.1)
      clear hq
      go_wp2
      go_ret
      exact ⟨rfl, F.out⟩

/-- what a call of each leaves of all others' -/
structure Do2 (ρ ρ' : Nat → Role) (w w' : World) : Prop where
  but : But (fun g => (ρ g).1 = 1 ∨ (ρ g).1 = 2) w w'
  keep : ∀ g, g < w.heap.size → (ρ g).1 ≠ 1 → (ρ g).1 ≠ 2 → ρ' g = ρ g
def DoE (ρ : Nat → Role) (w : World) (c r : Nat) (m : M6) (i : I4) (L : List Nb) (w' : World) : Prop := ∃ ρ', Ca ρ' 1 w' c m i L ∧ Ca ρ' 2 w' r m i L ∧ Fit ρ' w' ∧ Do2 ρ ρ' w w'
/-- both have been called; what both told is still to be compared -/
structure DM (ρ ρ2 : Nat → Role) (w W : World) (c r : Nat) (m : M6) (i : I4) (L : List Nb) (O1 O2 : Nat → Prop) (av bv : Value) (n : Nat) (B : Nat → Ar) : Prop where
  ca1 : Ca ρ2 1 W c m i L
  ca2 : Ca ρ2 2 W r m i L
  fit : Fit ρ2 W
  d : Do2 ρ ρ2 w W
  ra : RowF 21 O1 W av n (fun q => (B q).vals)
  rb : RowF 21 O2 W bv n (fun q => (B q).vals)
  dis : ∀ g, O1 g → ¬ O2 g
  cle : ∀ g, O1 g → ρ2 g = (0, 0, 0) ∧ (w.heap.size ≤ g ∨ (ρ g).1 = 1)
section
variable {ρ ρ1 ρ2 : Nat → Role} {w W W' : World} {c r : Nat} {m : M6} {i : I4} {L : List Nb} {O1 O2 : Nat → Prop} {av bv : Value} {n : Nat} {B : Nat → Ar}
theorem DM.base (h : DM ρ ρ2 w W c r m i L O1 O2 av bv n B) (hb : But O1 W W') : Ca ρ2 1 W' c m i L ∧ Ca ρ2 2 W' r m i L ∧ Fit ρ2 W' ∧ Do2 ρ ρ2 w W' := by
  have e0 : ∀ k, 0 < k → ∀ g, (ρ2 g).1 = k → ¬ O1 g := fun k hk g e o => by
    rw [(h.cle g o).1] at e
    have e : 0 = k := e
    omega
  refine ⟨h.ca1.but hb (e0 1 (by omega)), h.ca2.but hb (e0 2 (by omega)), h.fit.below hb.size, ⟨h.d.but.trans' hb (fun g hg o => ?_), h.d.keep⟩⟩
  rcases (h.cle g o).2 with e | e
  · omega
  · exact .inl e
theorem DM.turn (h : DM ρ ρ2 w W c r m i L O1 O2 av bv n B) (hb : But O1 W W') (hi : Ints W W') : DM ρ ρ2 w W' c r m i L O1 O2 av bv n B :=
  have hx := h.base hb
  ⟨hx.1, hx.2.1, hx.2.2.1, hx.2.2.2, h.ra.ints hi hb.size (fun _ _ => ar_noint _), h.rb.but hb (fun g e e2 => h.dis g e2 e), h.dis, h.cle⟩
theorem DM.last (h : DM ρ ρ2 w W c r m i L O1 O2 av bv n B) (hb : But O1 W W') : DoE ρ w c r m i L W' :=
  ⟨ρ2, h.base hb⟩
/-- whose rows the first call's are, whose the second's -/
def Oa (ρ ρ1 ρ2 : Nat → Role) (w w1 : World) (g : Nat) : Prop := g < w1.heap.size ∧ ρ1 g = (0, 0, 0) ∧ ρ2 g = (0, 0, 0) ∧ (w.heap.size ≤ g ∨ (ρ g).1 = 1)
def Ob (ρ1 : Nat → Role) (w1 : World) (g : Nat) : Prop := w1.heap.size ≤ g ∨ (ρ1 g).1 = 2
theorem DM.make {W1 w1 W2 w2 W3 : World} {L' : List Nb} {gv lv : Value} {G : List Int} (b1 : Below w.heap.size w W1)
    (k1 : Ca ρ1 1 w1 c m i L') (F1 : Fit ρ1 w1) (M1 : Mv 1 ρ ρ1 W1 w1) (g1 : RowN (Free ρ ρ1 1 W1) w1 gv G) (a1 : RowF 21 (Free ρ ρ1 1 W1) w1 av n (fun q => (B q).vals))
    (b2 : Below w1.heap.size w1 W2) (k2 : Ca ρ2 2 w2 r m i L') (F2 : Fit ρ2 w2) (M2 : Mv 2 ρ1 ρ2 W2 w2) (g2 : RowN (Free ρ1 ρ2 2 W2) w2 lv G) (a2 : RowF 21 (Free ρ1 ρ2 2 W2) w2 bv n (fun q => (B q).vals)) (b3 : Below w2.heap.size w2 W3) :
    DM ρ ρ2 w W3 c r m i L' (Oa ρ ρ1 ρ2 w w1) (Ob ρ1 w1) av bv n B ∧ RowN (Oa ρ ρ1 ρ2 w w1) W3 gv G ∧ RowN (Ob ρ1 w1) W3 lv G := by
  have N1 : Mv 1 ρ ρ1 w w1 := (Mv.below b1).trans M1
  have N2 : Mv 2 ρ1 ρ2 w1 w2 := (Mv.below b2).trans M2
  have N3 : Mv 2 ρ1 ρ2 w1 W3 := N2.trans (Mv.below b3)
  have o1 : ∀ g, g < w1.heap.size → Free ρ ρ1 1 W1 g → Oa ρ ρ1 ρ2 w w1 g := fun g hg e => by
    refine ⟨hg, e.1, ?_, ?_⟩
    · rw [N2.keep g hg (by rw [e.1]; simp)]; exact e.1
    · rcases e.2 with h | h
      · exact .inl (by have := b1.size; omega)
      · exact .inr h
  have n1 : ∀ g, Oa ρ ρ1 ρ2 w w1 g → ¬ (ρ1 g).1 = 2 := fun g e e2 => by rw [e.2.1] at e2; simp at e2
  have o2 : ∀ g, g < w2.heap.size → Free ρ1 ρ2 2 W2 g → Ob ρ1 w1 g := fun g hg e => by
    rcases e.2 with h | h
    · exact .inl (by have := b2.size; omega)
    · exact .inr h
  refine ⟨⟨(k1.move F1 N2 (by omega)).later b3, k2.later b3, F2.below b3.size, ⟨?_, ?_⟩, (a1.own o1).but N3.but n1, (a2.own o2).later b3, fun g e e2 => ?_, fun g e => ⟨e.2.2.1, e.2.2.2⟩⟩, (g1.own o1).but N3.but n1, (g2.own o2).later b3⟩
  · refine (N1.but.mono (fun _ e => .inl e)).trans' N3.but (fun g hg e => ?_)
    by_cases h1 : (ρ g).1 = 1
    · exact .inl h1
    · rw [N1.keep g hg h1] at e; exact .inr e
  · intro g hg h1 h2
    have e := N1.keep g hg h1
    rw [N2.keep g (Nat.lt_of_lt_of_le hg N1.but.size) (by rw [e]; exact h2), e]
  · rcases e2 with h | h
    · have := e.1; omega
    · exact n1 g e h
end

theorem tkA_len (now : Int) (L : List Nb) : (tkA now L).length ≤ L.length := List.length_filterMap_le _ _
set_option maxRecDepth 100000 in
set_option maxHeartbeats 4000000 in
theorem does_2 {ρ : Nat → Role} {w : World} {c r : Nat} {m : M6} {i : I4} {L : List Nb} (h1 : Ca ρ 1 w c m i L) (h2 : Ca ρ 2 w r m i L) (hF : Fit ρ w) (now : Int) (hok : LOk now L) (hn1 : now ≤ 4611686018427387904) (o : Op8) (k0 : o.kind ≠ 0) (k1 : o.kind ≠ 1) :
    Calls Try.prog 15 #[.pointer (some ⟨c, 0, none⟩), .pointer (some ⟨r, 0, none⟩), .agg o.cells.toArray, .int .i64 now] w fun e w' => e = .returned (.bool true) ∧ DoE ρ w c r m i (tkL now L) w' := by
  obtain ⟨s, hs⟩ : ∃ s, s = w.heap.size := ⟨_, rfl⟩
  obtain ⟨X, hX⟩ : ∃ X, X = o.cells := ⟨_, rfl⟩
  have lX : X.length = 25 := by rw [hX]; rfl
  rw [← hX]
  obtain ⟨w1, hw1⟩ : ∃ w1, w1 = w.alloc (.cells X.toArray 46) := ⟨_, rfl⟩
  have b1 : Below w.heap.size w w1 := by rw [hw1]; exact (Below.refl _ w).alloc (Nat.le_refl _) _
  have c1 : CellsAt w1 s 0 X := by rw [hw1, hs]; exact CellsAt.new w X 46
  have x0 : w1.cell? ⟨s, 0, none⟩ = some (.int .i64 o.kind) := c1 0 _ (by rw [hX]; rfl)
  have q0 : (o.kind == 0) = false := by rw [beq_dec]; exact decide_eq_false k0
  have q1 : (o.kind == 1) = false := by rw [beq_dec]; exact decide_eq_false k1
  have TK := hide (Tick_any (h1.later b1) (hF.below b1.size) now hok hn1)
  have H2 := hide (h2.later b1)
  have HF := hide hF
  have HB1 := hide b1
  have HOK := hide hok
  have GL : Hid ((tkG now L).length ≤ 1000 ∧ (tkA now L).length ≤ 1000) := by
    have e1 := tkG_len (now := now) (fun x hx => (hok.all x hx).pd2)
    have e2 := tkA_len now L
    have e3 := hok.len
    exact ⟨by omega, by omega⟩
  clear h1 h2 hF hok b1 c1 hX k0 k1
  go_enter Try.func15, Try.ntmps15
  have hw1' := hw1.symm
  have hs' := hs.symm
  clear hw1 hs
  go_wp2_with fail
  clear hw1' hs' x0 q0 q1 lX
  refine TK.out.mono ?_
  rintro _ w2 ⟨ρ1, av, gv, rfl, k1, F1, M1, g1, a1⟩
  obtain ⟨ga, gc, rfl⟩ := g1.shape
  obtain ⟨aa, ac, rfl⟩ := a1.shape
  have RT := hide (rTick_any (Ca.move H2.out (HF.out.below HB1.out.size) M1 (by omega)) F1 now HOK.out hn1)
  have K1 := hide k1
  have FF1 := hide F1
  have MM1 := hide M1
  have GG1 := hide g1
  have AA1 := hide a1
  obtain ⟨gl, hgl⟩ : ∃ gl, gl = (tkG now L).length := ⟨_, rfl⟩
  obtain ⟨al, hal⟩ : ∃ al, al = (tkA now L).length := ⟨_, rfl⟩
  rw [← hgl] at GG1 ⊢
  rw [← hal] at AA1 ⊢
  have HGL := hide hgl
  have HAL := hide hal
  clear k1 F1 M1 g1 a1 TK H2 hgl hal
  go_wp2_with fail
  refine RT.out.mono ?_
  rintro _ w3 ⟨ρ2, bv, lv, rfl, k2, F2, M2, g2, a2⟩
  obtain ⟨la, lc, rfl⟩ := g2.shape
  obtain ⟨ba, bc, rfl⟩ := a2.shape
  rw [← HGL.out] at g2 ⊢
  rw [← HAL.out] at a2 ⊢
  obtain ⟨D3, G3, L3⟩ := DM.make (B := fun q => ⟨false, m, i, zM, (tkA now L)[q]?.getD zI⟩) HB1.out K1.out FF1.out MM1.out GG1.out AA1.out (Below.refl _ _) k2 F2 M2 g2 a2 (Below.refl _ _)
  have NU := nums2_any (ca := gc) (bc := lc) (aa := ga) (ba := la) (by rw [HGL.out] at G3; exact G3) (by rw [HGL.out] at L3; exact L3) D3.dis GL.out.1
  rw [← HGL.out] at NU
  have NUM := hide NU
  have DD3 := hide D3
  clear k2 F2 M2 g2 a2 G3 L3 NU D3 RT
  go_wp2_with fail
  refine NUM.out.mono ?_
  rintro _ w4 ⟨rfl, b4, i4⟩
  have D4 := DD3.out.turn b4 i4
  have AR := hide (arps_any D4.ra D4.rb D4.dis (by rw [HAL.out]; exact GL.out.2))
  have DD4 := hide D4
  clear b4 i4 D4 NUM DD3
  go_wp2_with fail
  refine AR.out.mono ?_
  rintro _ w5 ⟨rfl, b5⟩
  have FIN := hide (DD4.out.last b5)
  clear b5 AR DD4
  go_wp2
  go_ret
  exact ⟨rfl, FIN.out⟩

/-- cache k has been called; the address M that it told lies in block s -/
structure One (k : Nat) (ρ ρ1 : Nat → Role) (w W : World) (b : Nat) (m : M6) (i : I4) (L : List Nb) (gv : Value) (G : List Int) (av : Value) (n : Nat) (B : Nat → Ar) (s : Nat) (M : M6) : Prop where
  ca : Ca ρ1 k W b m i L
  fit : Fit ρ1 W
  mv : Mv k ρ ρ1 w W
  rg : RowN (fun g => Free ρ ρ1 k w g ∧ g ≠ s) W gv G
  ra : RowF 21 (fun g => Free ρ ρ1 k w g ∧ g ≠ s) W av n (fun q => (B q).vals)
  ge : w.heap.size ≤ s
  lt : s < W.heap.size
  c : CellsAt W s 0 M.vals
  r : ρ1 s = (0, 0, 0)
section
variable {k : Nat} {ρ ρ1 ρ2 : Nat → Role} {w W1 we W : World} {b : Nat} {m : M6} {i : I4} {L : List Nb} {gv : Value} {G : List Int} {av : Value} {n : Nat} {B : Nat → Ar} {s : Nat} {M : M6}
/-- the variable is made behind the call -/
theorem One.after (b1 : Below w.heap.size w W1) (hc : Ca ρ1 k we b m i L) (hF : Fit ρ1 we) (hM : Mv k ρ ρ1 W1 we) (hg : RowN (Free ρ ρ1 k W1) we gv G) (ha : RowF 21 (Free ρ ρ1 k W1) we av n (fun q => (B q).vals)) (b2 : Below we.heap.size we W) (hs : we.heap.size ≤ s) (hl : s < W.heap.size) (c : CellsAt W s 0 M.vals) : One k ρ ρ1 w W b m i L gv G av n B s M := by
  have fr : ∀ g, g < we.heap.size → Free ρ ρ1 k W1 g → Free ρ ρ1 k w g ∧ g ≠ s := fun g hg e => by
    refine ⟨⟨e.1, ?_⟩, by omega⟩
    rcases e.2 with h | h
    · exact .inl (by have := b1.size; omega)
    · exact .inr h
  exact ⟨hc.later b2, hF.below b2.size, (Mv.below b1).trans (hM.trans (Mv.below b2)), (hg.own fr).later b2, (ha.own fr).later b2, by have := b1.size; have := hM.but.size; omega, hl, c, hF s hs⟩
/-- the variable was made ahead of the call -/
theorem One.before (hF0 : Fit ρ w) (b1 : Below w.heap.size w W1) (hs : w.heap.size ≤ s) (hl : s < W1.heap.size) {z : M6} (cz : CellsAt W1 s 0 z.vals) (fz : ∀ y, W1.frozen? ⟨s, y, none⟩ = false)
    (hc : Ca ρ1 k we b m i L) (hF : Fit ρ1 we) (hM : Mv k ρ ρ1 W1 we) (hg : RowN (Free ρ ρ1 k W1) we gv G) (ha : RowF 21 (Free ρ ρ1 k W1) we av n (fun q => (B q).vals)) (M : M6) :
    CellsAt we s 0 z.vals ∧ (∀ y, we.frozen? ⟨s, y, none⟩ = false) ∧ One k ρ ρ1 w (we.setCells s 0 M.vals) b m i L gv G av n B s M := by
  have rs : ρ s = (0, 0, 0) := hF0 s hs
  have k0 := hc.pos
  have ns : ¬ (ρ s).1 = k := by rw [rs]; intro e; have e : 0 = k := e; omega
  have r1 : ρ1 s = (0, 0, 0) := by rw [hM.keep s hl ns]; exact rs
  have fr : ∀ g, g < we.heap.size → Free ρ ρ1 k W1 g → Free ρ ρ1 k w g ∧ g ≠ s := fun g hg e => by
    have ne : g ≠ s := fun e2 => by
      subst e2
      rcases e.2 with h | h
      · omega
      · exact ns h
    refine ⟨⟨e.1, ?_⟩, ne⟩
    rcases e.2 with h | h
    · exact .inl (by have := b1.size; omega)
    · exact .inr h
  have c1 := cz.but hl hM.but ns
  have f1 : ∀ y, we.frozen? ⟨s, y, none⟩ = false := fun y => (hM.but.frozen (p := ⟨s, y, none⟩) hl ns).trans (fz y)
  have bo := But.cells s M.vals 0 we
  refine ⟨c1, f1, hc.but bo (fun g e e2 => ?_), hF.below bo.size, ⟨fun g hg hk => ?_, ?_⟩, (hg.own fr).but bo (fun g e e2 => e.2 e2), (ha.own fr).but bo (fun g e e2 => e.2 e2), hs, Nat.lt_of_lt_of_le hl (Nat.le_trans hM.but.size bo.size), c1.stored rfl, r1⟩
  · have e2 : g = s := e2
    rw [e2, r1] at e
    have e : 0 = k := e
    omega
  · exact ((Mv.below b1).trans hM).keep g hg hk
  · exact ((Mv.below b1).trans hM).but.trans' bo (fun g hg e => by have e : g = s := e; omega)
end
/-- whose rows the first call's are, whose the second's -/
def Oc (ρ ρ1 ρ2 : Nat → Role) (w w1 : World) (s : Nat) (g : Nat) : Prop := g < w1.heap.size ∧ ρ1 g = (0, 0, 0) ∧ ρ2 g = (0, 0, 0) ∧ (w.heap.size ≤ g ∨ (ρ g).1 = 1) ∧ g ≠ s
theorem DM.make2 {ρ ρ1 ρ2 : Nat → Role} {w w1 w2 : World} {c r : Nat} {m : M6} {i : I4} {L : List Nb} {gv lv av bv : Value} {G : List Int} {n : Nat} {B : Nat → Ar} {s t : Nat} {M : M6} (h : One 1 ρ ρ1 w w1 c m i L gv G av n B s M) (h2 : One 2 ρ1 ρ2 w1 w2 r m i L lv G bv n B t M) :
    DM ρ ρ2 w w2 c r m i L (Oc ρ ρ1 ρ2 w w1 s) (Ob ρ1 w1) av bv n B ∧ RowN (Oc ρ ρ1 ρ2 w w1 s) w2 gv G ∧ RowN (Ob ρ1 w1) w2 lv G ∧ CellsAt w2 s 0 M.vals ∧ s < w2.heap.size ∧ ¬ Oc ρ ρ1 ρ2 w w1 s s ∧ ¬ Oc ρ ρ1 ρ2 w w1 s t := by
  have o1 : ∀ g, g < w1.heap.size → (Free ρ ρ1 1 w g ∧ g ≠ s) → Oc ρ ρ1 ρ2 w w1 s g := fun g hg e => by
    refine ⟨hg, e.1.1, ?_, e.1.2, e.2⟩
    rw [h2.mv.keep g hg (by rw [e.1.1]; simp)]; exact e.1.1
  have n1 : ∀ g, Oc ρ ρ1 ρ2 w w1 s g → ¬ (ρ1 g).1 = 2 := fun g e e2 => by rw [e.2.1] at e2; simp at e2
  have o2 : ∀ g, g < w2.heap.size → (Free ρ1 ρ2 2 w1 g ∧ g ≠ t) → Ob ρ1 w1 g := fun g hg e => e.1.2
  refine ⟨⟨h.ca.move h.fit h2.mv (by omega), h2.ca, h2.fit, ⟨?_, ?_⟩, (h.ra.own o1).but h2.mv.but n1, h2.ra.own o2, fun g e e2 => ?_, fun g e => ⟨e.2.2.1, e.2.2.2.1⟩⟩, (h.rg.own o1).but h2.mv.but n1, h2.rg.own o2, h.c.but h.lt h2.mv.but (by rw [h.r]; simp), Nat.lt_of_lt_of_le h.lt h2.mv.but.size, fun e => e.2.2.2.2 rfl, fun e => by have := e.1; have := h2.ge; omega⟩
  · refine (h.mv.but.mono (fun _ e => .inl e)).trans' h2.mv.but (fun g hg e => ?_)
    by_cases h1 : (ρ g).1 = 1
    · exact .inl h1
    · rw [h.mv.keep g hg h1] at e; exact .inr e
  · intro g hg h1 h3
    have e := h.mv.keep g hg h1
    rw [h2.mv.keep g (Nat.lt_of_lt_of_le hg h.mv.but.size) (by rw [e]; exact h3), e]
  · rcases e2 with h | h
    · have := e.1; omega
    · exact n1 g e h
/-- the box that holds the call -/
theorem box_op {w : World} (o : Op8) : ∀ X, X = o.cells → CellsAt (w.alloc (.cells X.toArray 46)) w.heap.size 0 o.cells := by
  rintro X rfl
  exact CellsAt.new w _ 46
theorem op_a {W : World} {s : Nat} {o : Op8} (h : CellsAt W s 0 o.cells) : CellsAt W s 3 o.a.vals := by
  have h1 := (CellsAt.append.1 h).2
  exact (CellsAt.append.1 h1).1
set_option maxRecDepth 100000 in
set_option maxHeartbeats 4000000 in
theorem does_1 {ρ : Nat → Role} {w : World} {c r : Nat} {m : M6} {i : I4} {L : List Nb} (h1 : Ca ρ 1 w c m i L) (h2 : Ca ρ 2 w r m i L) (hF : Fit ρ w) (now : Int) (hok : LOk now L) (o : Op8) (k1 : o.kind = 1) :
    Calls Try.prog 15 #[.pointer (some ⟨c, 0, none⟩), .pointer (some ⟨r, 0, none⟩), .agg o.cells.toArray, .int .i64 now] w fun e w' => e = .returned (.bool true) ∧ DoE ρ w c r m i (hd i o.a now L).L w' := by
  obtain ⟨s, hs⟩ : ∃ s, s = w.heap.size := ⟨_, rfl⟩
  obtain ⟨X, hX⟩ : ∃ X, X = o.cells := ⟨_, rfl⟩
  have lX : X.length = 25 := by rw [hX]; rfl
  rw [← hX]
  obtain ⟨w1, hw1⟩ : ∃ w1, w1 = w.alloc (.cells X.toArray 46) := ⟨_, rfl⟩
  have b1 : Below w.heap.size w w1 := by rw [hw1]; exact (Below.refl _ w).alloc (Nat.le_refl _) _
  have c1 : CellsAt w1 s 0 o.cells := by rw [hw1, hs]; exact box_op o X hX
  have l1 : s < w1.heap.size := by rw [hw1, hs]; simp
  have x0 : w1.cell? ⟨s, 0, none⟩ = some (.int .i64 o.kind) := c1 0 _ rfl
  have q0 : (o.kind == 0) = false := by rw [k1]; rfl
  have q1 : (o.kind == 1) = true := by rw [k1]; rfl
  obtain ⟨V, hV⟩ : ∃ V, V = o.a.vals := ⟨_, rfl⟩
  have lV : Hid (V.length = 21) := by rw [hV]; exact (rfl : o.a.vals.length = 21)
  have CV : Hid (CellsAt w1 s 3 V) := by rw [hV]; exact op_a c1
  obtain ⟨R, hR⟩ : ∃ R, R = hd i o.a now L := ⟨_, rfl⟩
  have HD := Heard_any (h1.later b1) (hF.below b1.size) now hok o.a
  rw [show o.a.val = .agg V.toArray by rw [hV]; rfl, ← hR] at HD
  rw [← hR]
  have HDD := hide HD
  have H2 := hide (h2.later b1)
  have HF := hide hF
  have HB1 := hide b1
  have HOK := hide hok
  have HV := hide hV
  have HR := hide hR
  have HS := hide hs
  have HC1 := hide c1
  have HL1 := hide l1
  have ML : Hid (R.may.length ≤ 1000) := by
    have e3 := hok.len
    have e2 : R.may.length ≤ 2 := by
      rw [hR]
      unfold hd
      split
      · simp
      · split
        · split
          · simp
          · rename_i x hx
            exact (hok.all x (List.mem_of_getElem? hx)).pd2
        · simp
    unfold Hid
    omega
  clear h1 h2 hF hok b1 c1 hX k1 hV HD hR l1
  go_enter Try.func15, Try.ntmps15
  have hw1' := hw1.symm
  have hs' := hs.symm
  clear hw1 hs
  go_wp2_with (refine wpList_loadA rfl 27 21 aggA sizA _ rfl s 3 rfl V lV.out CV.out ?_)
  clear hw1' hs' x0 q0 q1 lX
  refine HDD.out.mono ?_
  rintro _ w2 ⟨ρ1, av, gv, rfl, k1, F1, M1, g1, a1⟩
  obtain ⟨ga, gc, rfl⟩ := g1.shape
  obtain ⟨aa, ac, rfl⟩ := a1.shape
  obtain ⟨gl, hgl⟩ : ∃ gl, gl = R.may.length := ⟨_, rfl⟩
  obtain ⟨al, hal⟩ : ∃ al, al = (if R.ans then 1 else 0) := ⟨_, rfl⟩
  rw [← hgl] at g1 ⊢
  rw [← hal] at a1 ⊢
  have HGL := hide hgl
  have HAL := hide hal
  simp only [M6.val]
  obtain ⟨s2, hs2⟩ : ∃ s2, s2 = w2.heap.size := ⟨_, rfl⟩
  obtain ⟨w3, hw3⟩ : ∃ w3, w3 = w2.alloc (.cells #[.int .u8 R.mac.a, .int .u8 R.mac.b, .int .u8 R.mac.c, .int .u8 R.mac.d, .int .u8 R.mac.e, .int .u8 R.mac.f] 23) := ⟨_, rfl⟩
  have b3 : Below w2.heap.size w2 w3 := by rw [hw3]; exact (Below.refl _ _).alloc (Nat.le_refl _) _
  have c3 : CellsAt w3 s2 0 R.mac.vals := by rw [hw3, hs2]; exact CellsAt.new w2 R.mac.vals 23
  have l3 : s2 < w3.heap.size := by rw [hw3, hs2]; simp
  have O1 := One.after HB1.out k1 F1 M1 g1 a1 b3 (by omega) l3 c3
  have ns : ¬ (ρ s).1 = 1 := by rw [HF.out s (by have := HS.out; omega)]; simp
  have cb3 : CellsAt w3 s 0 o.cells := (HC1.out.but HL1.out M1.but ns).later (Nat.lt_of_lt_of_le HL1.out M1.but.size) b3
  have CV3 : Hid (CellsAt w3 s 3 V) := by rw [HV.out]; exact op_a cb3
  have HD := rHeard_any ((Ca.move H2.out (HF.out.below HB1.out.size) M1 (by omega)).later b3) O1.fit now HOK.out o.a
  rw [show o.a.val = .agg V.toArray by rw [HV.out]; rfl, ← HR.out] at HD
  have HDR := hide HD
  have OO1 := hide O1
  have hw3' := hw3.symm
  have hs2' := hs2.symm
  clear k1 F1 M1 g1 a1 hgl hal hw3 hs2 b3 c3 l3 O1 ns cb3 HD HDD H2
  go_wp2_with (refine wpList_loadA rfl 27 21 aggA sizA _ rfl s 3 rfl V lV.out CV3.out ?_)
  clear hw3' hs2'
  refine HDR.out.mono ?_
  rintro _ w4 ⟨ρ2, bv, lv, rfl, k2, F2, M2, g2, a2⟩
  obtain ⟨la, lc, rfl⟩ := g2.shape
  obtain ⟨ba, bc, rfl⟩ := a2.shape
  rw [← HGL.out] at g2 ⊢
  rw [← HAL.out] at a2 ⊢
  simp only [M6.val]
  obtain ⟨s4, hs4⟩ : ∃ s4, s4 = w4.heap.size := ⟨_, rfl⟩
  obtain ⟨w5, hw5⟩ : ∃ w5, w5 = w4.alloc (.cells #[.int .u8 R.mac.a, .int .u8 R.mac.b, .int .u8 R.mac.c, .int .u8 R.mac.d, .int .u8 R.mac.e, .int .u8 R.mac.f] 23) := ⟨_, rfl⟩
  have b5 : Below w4.heap.size w4 w5 := by rw [hw5]; exact (Below.refl _ _).alloc (Nat.le_refl _) _
  have c5 : CellsAt w5 s4 0 R.mac.vals := by rw [hw5, hs4]; exact CellsAt.new w4 R.mac.vals 23
  have l5 : s4 < w5.heap.size := by rw [hw5, hs4]; simp
  have O2 := One.after (Below.refl _ _) k2 F2 M2 g2 a2 b5 (by omega) l5 c5
  obtain ⟨D5, G5, L5, cs5, ls5, no1, no2⟩ := DM.make2 OO1.out O2
  have NU := nums2_any (ca := gc) (bc := lc) (aa := ga) (ba := la) (by rw [HGL.out] at G5; exact G5) (by rw [HGL.out] at L5; exact L5) D5.dis ML.out
  rw [← HGL.out] at NU
  have NUM := hide NU
  have DD5 := hide D5
  have CS := hide cs5
  have CT := hide c5
  have NO := hide (And.intro (And.intro ls5 l5) (And.intro no1 no2))
  have hw5' := hw5.symm
  have hs4' := hs4.symm
  clear k2 F2 M2 g2 a2 G5 L5 NU D5 HDR OO1 O2 b5 c5 l5 hw5 hs4 cs5 ls5 no1 no2
  go_wp2_with fail
  clear hw5' hs4'
  refine NUM.out.mono ?_
  rintro _ w6 ⟨rfl, b6, i6⟩
  have D6 := DD5.out.turn b6 i6
  have CS6 := hide (CS.out.but NO.out.1.1 b6 NO.out.2.1)
  have CT6 := hide (CT.out.but NO.out.1.2 b6 NO.out.2.2)
  have NZ6 : Hid (s2 < w6.heap.size ∧ s4 < w6.heap.size) := ⟨Nat.lt_of_lt_of_le NO.out.1.1 b6.size, Nat.lt_of_lt_of_le NO.out.1.2 b6.size⟩
  have AR := hide (arps_any D6.ra D6.rb D6.dis (by rw [HAL.out]; split <;> omega))
  have DD6 := hide D6
  clear b6 i6 D6 NUM DD5 CS CT
  go_wp2_with fail
  refine AR.out.mono ?_
  rintro _ w7 ⟨rfl, b7⟩
  have FIN := hide (DD6.out.last b7)
  have cs := CS6.out.but NZ6.out.1 b7 NO.out.2.1
  have ct := CT6.out.but NZ6.out.2 b7 NO.out.2.2
  have x0 := cs 0 _ rfl
  have x1 := cs 1 _ rfl
  have x2 := cs 2 _ rfl
  have x3 := cs 3 _ rfl
  have x4 := cs 4 _ rfl
  have x5 := cs 5 _ rfl
  have y0 := ct 0 _ rfl
  have y1 := ct 1 _ rfl
  have y2 := ct 2 _ rfl
  have y3 := ct 3 _ rfl
  have y4 := ct 4 _ rfl
  have y5 := ct 5 _ rfl
  simp only [Nat.reduceAdd] at x0 x1 x2 x3 x4 x5 y0 y1 y2 y3 y4 y5
  have EM := eq_mac
  have ES : eqM ⟨R.mac.a, R.mac.b, R.mac.c, R.mac.d, R.mac.e, R.mac.f⟩ ⟨R.mac.a, R.mac.b, R.mac.c, R.mac.d, R.mac.e, R.mac.f⟩ = true := eqM_self _
  clear b7 AR DD6 cs ct CS6 CT6
  go_wp2
  go_ret
  exact ⟨rfl, FIN.out⟩

theorem oneU (w : World) : (isAgg 5).run Try.prog w = .ok false w := by kernel_rfl
theorem exec_allocM {o : Oper} {w : World} {ev : Operand → Value} (ho : o.op = .alloc 23) : (execOp ev o).run Try.prog w = .ok (.value (.pointer (some ⟨w.heap.size, 0, none⟩))) (w.alloc (.cells zM.vals.toArray 23)) := by
  unfold execOp
  rw [ho]
  kernel_rfl
theorem exec_ext {o : Oper} {w : World} {ev : Operand → Value} (x : Operand) (k : Nat) (vs : List Value) (v : Value) (ho : o.op = .extract x k) (hx : ev x = .tuple vs.toArray) (hk : vs[k]? = some v) : (execOp ev o).run Try.prog w = .ok (.value v) w := by
  unfold execOp
  simp [ho, hx, go_sem, hk]
/-- what Find tells, in the walk's words -/
def FR (k : Nat) (ρ : Nat → Role) (W : World) (b : Nat) (m : M6) (i ip : I4) (fr : FdR) (gl al : Nat) (er : Int) (v : Value) (w' : World) : Prop :=
  ∃ ρ' ga gc aa ac, v = .tuple #[.agg fr.mac.vals.toArray, .slice ga gl gc, .slice aa al ac, .int .i64 er] ∧ Ca ρ' k w' b m i fr.L ∧ Fit ρ' w' ∧ Mv k ρ ρ' W w' ∧ RowN (Free ρ ρ' k W) w' (.slice ga gl gc) fr.gone ∧ RowF 21 (Free ρ ρ' k W) w' (.slice aa al ac) al (fun q => ((fun _ => (⟨false, m, i, zM, ip⟩ : Ar)) q).vals)
theorem FR.of {k : Nat} {ρ : Nat → Role} {W : World} {b : Nat} {m : M6} {i ip : I4} {fr : FdR} {gl al : Nat} {er : Int} (hg : gl = fr.gone.length) (ha : al = (if fr.ask then 1 else 0)) (he : er = fr.err) {e : Ending} {w' : World} (h : FdEnd ρ k W b m i ip fr e w') : ∃ v, e = .returned v ∧ FR k ρ W b m i ip fr gl al er v w' := by
  obtain ⟨ρ', gv, av, rfl, h1, h2, h3, h4, h5⟩ := h
  obtain ⟨ga, gc, rfl⟩ := h4.shape
  obtain ⟨aa, ac, rfl⟩ := h5.shape
  subst hg ha he
  exact ⟨_, rfl, ρ', ga, gc, aa, ac, rfl, h1, h2, h3, h4, h5⟩
set_option maxRecDepth 100000 in
set_option maxHeartbeats 8000000 in
theorem does_0 {ρ : Nat → Role} {w : World} {c r : Nat} {m : M6} {i : I4} {L : List Nb} (h1 : Ca ρ 1 w c m i L) (h2 : Ca ρ 2 w r m i L) (hF : Fit ρ w) (now : Int) (hok : LOk now L) (hn1 : now ≤ 4611686018427387904) (o : Op8) (k0 : o.kind = 0) :
    Calls Try.prog 15 #[.pointer (some ⟨c, 0, none⟩), .pointer (some ⟨r, 0, none⟩), .agg o.cells.toArray, .int .i64 now] w fun e w' => e = .returned (.bool true) ∧ DoE ρ w c r m i (fd ⟨10, 0, 0, o.ip⟩ o.buf now L).L w' := by
  obtain ⟨s, hs⟩ : ∃ s, s = w.heap.size := ⟨_, rfl⟩
  obtain ⟨X, hX⟩ : ∃ X, X = o.cells := ⟨_, rfl⟩
  have lX : X.length = 25 := by rw [hX]; rfl
  rw [← hX]
  obtain ⟨w1, hw1⟩ : ∃ w1, w1 = w.alloc (.cells X.toArray 46) := ⟨_, rfl⟩
  have b1 : Below w.heap.size w w1 := by rw [hw1]; exact (Below.refl _ w).alloc (Nat.le_refl _) _
  have c1 : CellsAt w1 s 0 o.cells := by rw [hw1, hs]; exact box_op o X hX
  have l1 : s < w1.heap.size := by rw [hw1, hs]; simp
  have x0 : w1.cell? ⟨s, 0, none⟩ = some (.int .i64 o.kind) := c1 0 _ rfl
  have q0 : (o.kind == 0) = true := by rw [k0]; rfl
  obtain ⟨fr, hfr⟩ : ∃ fr, fr = fd ⟨10, 0, 0, o.ip⟩ o.buf now L := ⟨_, rfl⟩
  obtain ⟨gl, hgl⟩ : ∃ gl, gl = fr.gone.length := ⟨_, rfl⟩
  obtain ⟨al, hal⟩ : ∃ al, al = (if fr.ask then 1 else 0) := ⟨_, rfl⟩
  obtain ⟨er, her⟩ : ∃ er, er = fr.err := ⟨_, rfl⟩
  rw [← hfr]
  have FDA : ∀ W', Below w1.heap.size w1 W' → Calls Try.prog 19 #[.pointer (some ⟨c, 0, none⟩), I4.val ⟨10, 0, 0, o.ip⟩, .int .i64 o.buf, .int .i64 now] W' fun e w2 => ∃ v, e = .returned v ∧ FR 1 ρ W' c m i ⟨10, 0, 0, o.ip⟩ fr gl al er v w2 := fun W' hb => by
    refine (Find_any ((h1.later b1).later hb) ((hF.below b1.size).below hb.size) now o.buf hok hn1 ⟨10, 0, 0, o.ip⟩).mono ?_
    rw [← hfr]
    intro e w2 h
    exact FR.of hgl hal her h
  have FDAH := hide FDA
  have GLB : Hid (fr.gone.length ≤ 1000) := by
    have e2 : fr.gone.length ≤ 2 := by
      rw [hfr]
      unfold fd
      split
      · split <;> simp
      · split
        · simp
        · rename_i x hx
          split
          · show (wtG x.pd).length ≤ 2
            unfold wtG
            split
            · simp
            · simp; omega
          · split <;> simp
    unfold Hid
    omega
  have H2 := hide h2
  have HF := hide hF
  have HB1 := hide b1
  have HOK := hide hok
  have HS := hide hs
  have HC1 := hide c1
  have SL := l1
  have HFR := hide hfr
  have HGL := hide hgl
  have HAL := hide hal
  have HER := hide her
  have CI : Hid (∀ W : World, Calls Try.prog 14 #[.int .u8 o.ip] W fun e w2 => ∃ v, e = .returned v ∧ (v = I4.val ⟨10, 0, 0, o.ip⟩ ∧ Below W.heap.size W w2)) := fun W => (ip_any o.ip W).mono (by rintro _ w2 ⟨rfl, b⟩; exact ⟨_, rfl, rfl, b⟩)
  have SQ : Hid (∀ W : World, CellsAt W s 0 o.cells → W.cell? ⟨s, 1, none⟩ = some (.int .u8 o.ip) ∧ W.cell? ⟨s, 2, none⟩ = some (.int .i64 o.buf)) := fun W h => ⟨h 1 _ rfl, h 2 _ rfl⟩
  clear h1 h2 hF hok b1 c1 hX k0 l1 FDA hfr hgl hal her
  go_enter Try.func15, Try.ntmps15
  have hw1' := hw1.symm
  have hs' := hs.symm
  clear hw1 hs
  go_upto_region 3 with fail
  clear hw1' hs' x0 q0 lX
  go_cut [9, 10, 11, 12] from 37 to 49 (fun v9 v10 v11 v12 wx => ∃ (ρ1 : Nat → Role) (s9 : Nat) (ga : Option Addr) (gc : Nat) (aa : Option Addr) (ac : Nat), v9 = .pointer (some ⟨s9, 0, none⟩) ∧ v10 = .slice ga gl gc ∧ v11 = .slice aa al ac ∧ v12 = .int .i64 er ∧ Hid (One 1 ρ ρ1 w wx c m i fr.L (.slice ga gl gc) fr.gone (.slice aa al ac) al (fun _ => ⟨false, m, i, zM, ⟨10, 0, 0, o.ip⟩⟩) s9 fr.mac) ∧ Hid (ρ1 s = (0, 0, 0) ∧ CellsAt wx s 0 o.cells))
  case first =>
    have SP : ∀ W, Below w1.heap.size w1 W → CellsAt W s 0 o.cells := fun W hb => HC1.out.later SL hb
    have SQ := SQ.out
    have CI := CI.out
    have FD := FDAH.out
    have R0 : ρ s = (0, 0, 0) := HF.out s (by have := HS.out; omega)
    have NS : ¬ (ρ s).1 = 1 := by rw [R0]; simp
    have F0 := HF.out
    have HB := HB1.out
    have hsz : w.heap.size ≤ s := by have := HS.out; omega
    have bd : Below w1.heap.size w1 w1.drew := (Below.refl _ w1).drew
    have S0 := SQ _ (SP _ bd)
    refine region_out (fun W => W.cell? ⟨s, 1, none⟩ = some (.int .u8 o.ip) ∧ W.cell? ⟨s, 2, none⟩ = some (.int .i64 o.buf)) (by kernel_rfl) ?_
    refine takeD (i := 0) (v := .pointer (some ⟨c, 0, none⟩)) 38 rfl rfl (by kernel_rfl) (by kernel_rfl) (by kernel_rfl) (fun _ _ _ h => h) (.inl ⟨by rfl, fun W hW => exec_move _ _ rfl rfl⟩) (S0) ?_
    try simp only [Act.put, List.setIfInBounds_toArray, List.set_cons_zero, List.set_cons_succ]
    refine takeD (i := 1) (v := .pointer (some ⟨s, 1, none⟩)) 39 rfl rfl (by kernel_rfl) (by kernel_rfl) (by kernel_rfl) (fun _ _ _ h => h) (.inl ⟨by rfl, fun W hW => exec_fieldO 46 _ 1 s 0 1 rfl rfl (fun w => by kernel_rfl)⟩) (S0) ?_
    try simp only [Act.put, List.setIfInBounds_toArray, List.set_cons_zero, List.set_cons_succ]
    refine takeD (i := 2) (v := .int .u8 o.ip) 40 rfl rfl (by kernel_rfl) (by kernel_rfl) (by kernel_rfl) (fun _ _ _ h => h) (.inl ⟨by rfl, fun W hW => exec_load1 5 oneU _ rfl s 1 rfl (.int .u8 o.ip) (hW.1)⟩) (S0) ?_
    try simp only [Act.put, List.setIfInBounds_toArray, List.set_cons_zero, List.set_cons_succ]
    refine takeD (i := 4) (v := .pointer (some ⟨s, 2, none⟩)) 42 rfl rfl (by kernel_rfl) (by kernel_rfl) (by kernel_rfl) (fun _ _ _ h => h) (.inl ⟨by rfl, fun W hW => exec_fieldO 46 _ 2 s 0 2 rfl rfl (fun w => by kernel_rfl)⟩) (S0) ?_
    try simp only [Act.put, List.setIfInBounds_toArray, List.set_cons_zero, List.set_cons_succ]
    refine takeD (i := 5) (v := .int .i64 o.buf) 43 rfl rfl (by kernel_rfl) (by kernel_rfl) (by kernel_rfl) (fun _ _ _ h => h) (.inl ⟨by rfl, fun W hW => exec_load1 3 one1 _ rfl s 2 rfl (.int .i64 o.buf) (hW.2)⟩) (S0) ?_
    try simp only [Act.put, List.setIfInBounds_toArray, List.set_cons_zero, List.set_cons_succ]
    refine takeD (i := 6) (v := .int .i64 now) 44 rfl rfl (by kernel_rfl) (by kernel_rfl) (by kernel_rfl) (fun _ _ _ h => h) (.inl ⟨by rfl, fun W hW => exec_move _ _ rfl rfl⟩) (S0) ?_
    try simp only [Act.put, List.setIfInBounds_toArray, List.set_cons_zero, List.set_cons_succ]
    refine wpAnyH_all (rs := [3, 13]) (by kernel_rfl) (by simp) (fun q' hq' => ?_)
    rcases List.mem_cons.1 hq' with rfl | hq'
    · skip
      refine opD_call (w' := w1.drew) 3 41 rfl rfl (by rfl) 14 #[.int .u8 o.ip] (by kernel_rfl) _ (CI w1.drew) ?_
      rintro _ wa ⟨rfl, bwa⟩
      have Bwa : Below w1.heap.size w1 wa := bd.trans (bwa.mono bd.size)
      have Swa := SQ _ (SP wa Bwa)
      refine ⟨Swa, ?_⟩
      simp only [Act.put, List.setIfInBounds_toArray, List.set_cons_zero, List.set_cons_succ]
      refine wpAnyH_all (rs := [7, 13]) (by kernel_rfl) (by simp) (fun q' hq' => ?_)
      rcases List.mem_cons.1 hq' with rfl | hq'
      · skip
        refine opD_call (w' := wa) 7 45 rfl rfl (by rfl) 19 #[.pointer (some ⟨c, 0, none⟩), I4.val ⟨10, 0, 0, o.ip⟩, .int .i64 o.buf, .int .i64 now] (by kernel_rfl) _ (FD wa Bwa) ?_
        rintro _ wf ⟨ρ', ga, gc, aa, ac, rfl, k1, F1, M1, g1, a1⟩
        have cbf : CellsAt wf s 0 o.cells := (SP wa Bwa).but (Nat.lt_of_lt_of_le SL Bwa.size) M1.but NS
        have RS : ρ' s = (0, 0, 0) := by rw [M1.keep s (Nat.lt_of_lt_of_le SL Bwa.size) NS]; exact R0
        have Swf := SQ _ cbf
        refine ⟨Swf, ?_⟩
        simp only [Act.put, List.setIfInBounds_toArray, List.set_cons_zero, List.set_cons_succ]
        refine takeD (i := 8) (v := .tuple #[.agg fr.mac.vals.toArray, .slice ga gl gc, .slice aa al ac, .int .i64 er]) 37 rfl rfl (by kernel_rfl) (by kernel_rfl) (by kernel_rfl) (fun _ _ _ h => h) (.inl ⟨by rfl, fun W hW => exec_move _ _ rfl rfl⟩) (Swf) ?_
        try simp only [Act.put, List.setIfInBounds_toArray, List.set_cons_zero, List.set_cons_succ]
        refine takeD (i := 9) (v := .agg fr.mac.vals.toArray) 46 rfl rfl (by kernel_rfl) (by kernel_rfl) (by kernel_rfl) (fun _ _ _ h => h) (.inl ⟨by rfl, fun W hW => exec_ext _ 0 [.agg fr.mac.vals.toArray, .slice ga gl gc, .slice aa al ac, .int .i64 er] _ rfl rfl rfl⟩) (Swf) ?_
        try simp only [Act.put, List.setIfInBounds_toArray, List.set_cons_zero, List.set_cons_succ]
        refine takeD (i := 10) (v := .slice ga gl gc) 47 rfl rfl (by kernel_rfl) (by kernel_rfl) (by kernel_rfl) (fun _ _ _ h => h) (.inl ⟨by rfl, fun W hW => exec_ext _ 1 [.agg fr.mac.vals.toArray, .slice ga gl gc, .slice aa al ac, .int .i64 er] _ rfl rfl rfl⟩) (Swf) ?_
        try simp only [Act.put, List.setIfInBounds_toArray, List.set_cons_zero, List.set_cons_succ]
        refine takeD (i := 11) (v := .slice aa al ac) 48 rfl rfl (by kernel_rfl) (by kernel_rfl) (by kernel_rfl) (fun _ _ _ h => h) (.inl ⟨by rfl, fun W hW => exec_ext _ 2 [.agg fr.mac.vals.toArray, .slice ga gl gc, .slice aa al ac, .int .i64 er] _ rfl rfl rfl⟩) (Swf) ?_
        try simp only [Act.put, List.setIfInBounds_toArray, List.set_cons_zero, List.set_cons_succ]
        refine takeD (i := 12) (v := .int .i64 er) 49 rfl rfl (by kernel_rfl) (by kernel_rfl) (by kernel_rfl) (fun _ _ _ h => h) (.inl ⟨by rfl, fun W hW => exec_ext _ 3 [.agg fr.mac.vals.toArray, .slice ga gl gc, .slice aa al ac, .int .i64 er] _ rfl rfl rfl⟩) (Swf) ?_
        try simp only [Act.put, List.setIfInBounds_toArray, List.set_cons_zero, List.set_cons_succ]
        obtain ⟨s9, hs9⟩ : ∃ s9, s9 = wf.heap.size := ⟨_, rfl⟩
        obtain ⟨wz, hwz⟩ : ∃ wz, wz = wf.alloc (.cells zM.vals.toArray 23) := ⟨_, rfl⟩
        have bz : Below wf.heap.size wf wz := by rw [hwz]; exact (Below.refl _ _).alloc (Nat.le_refl _) _
        have z1 : wf.heap.size ≤ s9 := by omega
        have z2 : s9 < wz.heap.size := by rw [hwz, hs9]; simp
        have cz : CellsAt wz s9 0 zM.vals := by rw [hwz, hs9]; exact CellsAt.new wf zM.vals 23
        have fz : ∀ y, wz.frozen? ⟨s9, y, none⟩ = false := fun y => by rw [hwz, hs9]; exact frozen_new wf _ _ _
        have CBZ : CellsAt wz s 0 o.cells := cbf.later (Nat.lt_of_lt_of_le SL (Nat.le_trans Bwa.size M1.but.size)) bz
        have LBZ : s < wz.heap.size := Nat.lt_of_lt_of_le SL (Nat.le_trans Bwa.size (Nat.le_trans M1.but.size bz.size))
        have Swz := SQ _ CBZ
        refine nextD (w' := wz) 13 9 (.pointer (some ⟨s9, 0, none⟩)) (by kernel_rfl) rfl rfl (by rfl) (by rw [hwz, hs9]; exact exec_allocM rfl) (Swz) ?_
        try simp only [Act.put, List.setIfInBounds_toArray, List.set_cons_zero, List.set_cons_succ]
        have sne : s ≠ s9 := by have := SL; have := Bwa.size; have := M1.but.size; omega
        clear hwz hs9
        have ON := One.after (HB.trans (Bwa.mono HB.size)) k1 F1 M1 g1 a1 (bz.trans ((But.cells s9 fr.mac.vals 0 wz).below bz.size (fun g hg e => by have e : g = s9 := e; omega))) z1 (Nat.lt_of_lt_of_le z2 (But.cells s9 fr.mac.vals 0 wz).size) (cz.stored (vs := fr.mac.vals) rfl)
        have cby : CellsAt (wz.setCells s9 0 fr.mac.vals) s 0 o.cells := CBZ.but LBZ (But.cells s9 fr.mac.vals 0 wz) (fun e => by have e : s = s9 := e; omega)
        have Swy := SQ _ cby
        refine storeD (w' := wz.setCells s9 0 fr.mac.vals) 14 (by kernel_rfl) rfl rfl (by rfl) (exec_storeA 23 6 sizM _ _ rfl s9 0 rfl _ zM.vals rfl rfl rfl cz fz (m6_one _)) (Swy) ?_
        try simp only [Act.put, List.setIfInBounds_toArray, List.set_cons_zero, List.set_cons_succ]
        refine takeD (i := 15) (v := .slice ga gl gc) 10 rfl rfl (by kernel_rfl) (by kernel_rfl) (by kernel_rfl) (fun _ _ _ h => h) (.inl ⟨by rfl, fun W hW => exec_assign _ _ rfl rfl⟩) (Swy) ?_
        try simp only [Act.put, List.setIfInBounds_toArray, List.set_cons_zero, List.set_cons_succ]
        refine takeD (i := 16) (v := .slice aa al ac) 11 rfl rfl (by kernel_rfl) (by kernel_rfl) (by kernel_rfl) (fun _ _ _ h => h) (.inl ⟨by rfl, fun W hW => exec_assign _ _ rfl rfl⟩) (Swy) ?_
        try simp only [Act.put, List.setIfInBounds_toArray, List.set_cons_zero, List.set_cons_succ]
        refine takeD (i := 17) (v := .int .i64 er) 12 rfl rfl (by kernel_rfl) (by kernel_rfl) (by kernel_rfl) (fun _ _ _ h => h) (.inl ⟨by rfl, fun W hW => exec_assign _ _ rfl rfl⟩) (Swy) ?_
        try simp only [Act.put, List.setIfInBounds_toArray, List.set_cons_zero, List.set_cons_succ]
        refine wpAnyH_done (by kernel_rfl) ?_ _
        obtain ⟨wy, hwy⟩ : ∃ wy, wy = wz.setCells s9 0 fr.mac.vals := ⟨_, rfl⟩
        rw [← hwy] at ON cby ⊢
        have ON1 := hide ON
        have CB1 := hide (And.intro RS cby)
        clear hwy ON cby
        go_wp2
        go_meet
        exact ⟨ρ', s9, ga, gc, aa, ac, rfl, rfl, rfl, rfl, ON1, CB1⟩
      · obtain rfl : q' = 13 := by simpa using hq'
        obtain ⟨s9, hs9⟩ : ∃ s9, s9 = wa.heap.size := ⟨_, rfl⟩
        obtain ⟨wz, hwz⟩ : ∃ wz, wz = wa.alloc (.cells zM.vals.toArray 23) := ⟨_, rfl⟩
        have bz : Below wa.heap.size wa wz := by rw [hwz]; exact (Below.refl _ _).alloc (Nat.le_refl _) _
        have z1 : wa.heap.size ≤ s9 := by omega
        have z2 : s9 < wz.heap.size := by rw [hwz, hs9]; simp
        have cz : CellsAt wz s9 0 zM.vals := by rw [hwz, hs9]; exact CellsAt.new wa zM.vals 23
        have fz : ∀ y, wz.frozen? ⟨s9, y, none⟩ = false := fun y => by rw [hwz, hs9]; exact frozen_new wa _ _ _
        have Bwz : Below w1.heap.size w1 wz := Bwa.trans (bz.mono Bwa.size)
        have Swz := SQ _ (SP wz Bwz)
        refine opD_val (w' := wz) 13 9 (.pointer (some ⟨s9, 0, none⟩)) rfl rfl (by rfl) (by rw [hwz, hs9]; exact exec_allocM rfl) ⟨Swz, ?_⟩
        simp only [Act.put, List.setIfInBounds_toArray, List.set_cons_zero, List.set_cons_succ]
        have z0 : w1.heap.size ≤ s9 := by have := Bwa.size; omega
        clear hwz hs9
        refine callD (w' := wz) 7 45 (by kernel_rfl) rfl rfl (by rfl) 19 #[.pointer (some ⟨c, 0, none⟩), I4.val ⟨10, 0, 0, o.ip⟩, .int .i64 o.buf, .int .i64 now] (by kernel_rfl) _ (FD wz Bwz) ?_
        rintro _ wf ⟨ρ', ga, gc, aa, ac, rfl, k1, F1, M1, g1, a1⟩
        have cbf : CellsAt wf s 0 o.cells := (SP wz Bwz).but (Nat.lt_of_lt_of_le SL Bwz.size) M1.but NS
        have RS : ρ' s = (0, 0, 0) := by rw [M1.keep s (Nat.lt_of_lt_of_le SL Bwz.size) NS]; exact R0
        have Swf := SQ _ cbf
        refine ⟨Swf, ?_⟩
        simp only [Act.put, List.setIfInBounds_toArray, List.set_cons_zero, List.set_cons_succ]
        refine takeD (i := 8) (v := .tuple #[.agg fr.mac.vals.toArray, .slice ga gl gc, .slice aa al ac, .int .i64 er]) 37 rfl rfl (by kernel_rfl) (by kernel_rfl) (by kernel_rfl) (fun _ _ _ h => h) (.inl ⟨by rfl, fun W hW => exec_move _ _ rfl rfl⟩) (Swf) ?_
        try simp only [Act.put, List.setIfInBounds_toArray, List.set_cons_zero, List.set_cons_succ]
        refine takeD (i := 9) (v := .agg fr.mac.vals.toArray) 46 rfl rfl (by kernel_rfl) (by kernel_rfl) (by kernel_rfl) (fun _ _ _ h => h) (.inl ⟨by rfl, fun W hW => exec_ext _ 0 [.agg fr.mac.vals.toArray, .slice ga gl gc, .slice aa al ac, .int .i64 er] _ rfl rfl rfl⟩) (Swf) ?_
        try simp only [Act.put, List.setIfInBounds_toArray, List.set_cons_zero, List.set_cons_succ]
        refine takeD (i := 10) (v := .slice ga gl gc) 47 rfl rfl (by kernel_rfl) (by kernel_rfl) (by kernel_rfl) (fun _ _ _ h => h) (.inl ⟨by rfl, fun W hW => exec_ext _ 1 [.agg fr.mac.vals.toArray, .slice ga gl gc, .slice aa al ac, .int .i64 er] _ rfl rfl rfl⟩) (Swf) ?_
        try simp only [Act.put, List.setIfInBounds_toArray, List.set_cons_zero, List.set_cons_succ]
        refine takeD (i := 11) (v := .slice aa al ac) 48 rfl rfl (by kernel_rfl) (by kernel_rfl) (by kernel_rfl) (fun _ _ _ h => h) (.inl ⟨by rfl, fun W hW => exec_ext _ 2 [.agg fr.mac.vals.toArray, .slice ga gl gc, .slice aa al ac, .int .i64 er] _ rfl rfl rfl⟩) (Swf) ?_
        try simp only [Act.put, List.setIfInBounds_toArray, List.set_cons_zero, List.set_cons_succ]
        refine takeD (i := 12) (v := .int .i64 er) 49 rfl rfl (by kernel_rfl) (by kernel_rfl) (by kernel_rfl) (fun _ _ _ h => h) (.inl ⟨by rfl, fun W hW => exec_ext _ 3 [.agg fr.mac.vals.toArray, .slice ga gl gc, .slice aa al ac, .int .i64 er] _ rfl rfl rfl⟩) (Swf) ?_
        try simp only [Act.put, List.setIfInBounds_toArray, List.set_cons_zero, List.set_cons_succ]
        have OB := One.before (s := s9) (M := fr.mac) F0 (HB.trans (Bwz.mono HB.size)) (Nat.le_trans HB.size z0) z2 cz fz k1 F1 M1 g1 a1
        have sne : s ≠ s9 := by have := SL; omega
        have CBZ := cbf
        have LBZ : s < wf.heap.size := Nat.lt_of_lt_of_le SL (Nat.le_trans Bwz.size M1.but.size)
        obtain ⟨cy, fy, ON⟩ := OB
        have cby : CellsAt (wf.setCells s9 0 fr.mac.vals) s 0 o.cells := CBZ.but LBZ (But.cells s9 fr.mac.vals 0 wf) (fun e => by have e : s = s9 := e; omega)
        have Swy := SQ _ cby
        refine storeD (w' := wf.setCells s9 0 fr.mac.vals) 14 (by kernel_rfl) rfl rfl (by rfl) (exec_storeA 23 6 sizM _ _ rfl s9 0 rfl _ zM.vals rfl rfl rfl cy fy (m6_one _)) (Swy) ?_
        try simp only [Act.put, List.setIfInBounds_toArray, List.set_cons_zero, List.set_cons_succ]
        refine takeD (i := 15) (v := .slice ga gl gc) 10 rfl rfl (by kernel_rfl) (by kernel_rfl) (by kernel_rfl) (fun _ _ _ h => h) (.inl ⟨by rfl, fun W hW => exec_assign _ _ rfl rfl⟩) (Swy) ?_
        try simp only [Act.put, List.setIfInBounds_toArray, List.set_cons_zero, List.set_cons_succ]
        refine takeD (i := 16) (v := .slice aa al ac) 11 rfl rfl (by kernel_rfl) (by kernel_rfl) (by kernel_rfl) (fun _ _ _ h => h) (.inl ⟨by rfl, fun W hW => exec_assign _ _ rfl rfl⟩) (Swy) ?_
        try simp only [Act.put, List.setIfInBounds_toArray, List.set_cons_zero, List.set_cons_succ]
        refine takeD (i := 17) (v := .int .i64 er) 12 rfl rfl (by kernel_rfl) (by kernel_rfl) (by kernel_rfl) (fun _ _ _ h => h) (.inl ⟨by rfl, fun W hW => exec_assign _ _ rfl rfl⟩) (Swy) ?_
        try simp only [Act.put, List.setIfInBounds_toArray, List.set_cons_zero, List.set_cons_succ]
        refine wpAnyH_done (by kernel_rfl) ?_ _
        obtain ⟨wy, hwy⟩ : ∃ wy, wy = wf.setCells s9 0 fr.mac.vals := ⟨_, rfl⟩
        rw [← hwy] at ON cby ⊢
        have ON1 := hide ON
        have CB1 := hide (And.intro RS cby)
        clear hwy ON cby
        go_wp2
        go_meet
        exact ⟨ρ', s9, ga, gc, aa, ac, rfl, rfl, rfl, rfl, ON1, CB1⟩
    · obtain rfl : q' = 13 := by simpa using hq'
      obtain ⟨s9, hs9⟩ : ∃ s9, s9 = w1.drew.heap.size := ⟨_, rfl⟩
      obtain ⟨wz, hwz⟩ : ∃ wz, wz = w1.drew.alloc (.cells zM.vals.toArray 23) := ⟨_, rfl⟩
      have bz : Below w1.drew.heap.size w1.drew wz := by rw [hwz]; exact (Below.refl _ _).alloc (Nat.le_refl _) _
      have z1 : w1.drew.heap.size ≤ s9 := by omega
      have z2 : s9 < wz.heap.size := by rw [hwz, hs9]; simp
      have cz : CellsAt wz s9 0 zM.vals := by rw [hwz, hs9]; exact CellsAt.new w1.drew zM.vals 23
      have fz : ∀ y, wz.frozen? ⟨s9, y, none⟩ = false := fun y => by rw [hwz, hs9]; exact frozen_new w1.drew _ _ _
      have Bwz : Below w1.heap.size w1 wz := bd.trans (bz.mono bd.size)
      have Swz := SQ _ (SP wz Bwz)
      refine opD_val (w' := wz) 13 9 (.pointer (some ⟨s9, 0, none⟩)) rfl rfl (by rfl) (by rw [hwz, hs9]; exact exec_allocM rfl) ⟨Swz, ?_⟩
      simp only [Act.put, List.setIfInBounds_toArray, List.set_cons_zero, List.set_cons_succ]
      have z0 : w1.heap.size ≤ s9 := by have := bd.size; omega
      clear hwz hs9
      refine callD (w' := wz) 3 41 (by kernel_rfl) rfl rfl (by rfl) 14 #[.int .u8 o.ip] (by kernel_rfl) _ (CI wz) ?_
      rintro _ wa ⟨rfl, bwa⟩
      have Bwa : Below w1.heap.size w1 wa := Bwz.trans (bwa.mono Bwz.size)
      have Swa := SQ _ (SP wa Bwa)
      refine ⟨Swa, ?_⟩
      simp only [Act.put, List.setIfInBounds_toArray, List.set_cons_zero, List.set_cons_succ]
      have cz := cz.later z2 bwa
      have fz : ∀ y, wa.frozen? ⟨s9, y, none⟩ = false := fun y => (bwa.frozen (p := ⟨s9, y, none⟩) z2).trans (fz y)
      have z2 : s9 < wa.heap.size := Nat.lt_of_lt_of_le z2 bwa.size
      refine callD (w' := wa) 7 45 (by kernel_rfl) rfl rfl (by rfl) 19 #[.pointer (some ⟨c, 0, none⟩), I4.val ⟨10, 0, 0, o.ip⟩, .int .i64 o.buf, .int .i64 now] (by kernel_rfl) _ (FD wa Bwa) ?_
      rintro _ wf ⟨ρ', ga, gc, aa, ac, rfl, k1, F1, M1, g1, a1⟩
      have cbf : CellsAt wf s 0 o.cells := (SP wa Bwa).but (Nat.lt_of_lt_of_le SL Bwa.size) M1.but NS
      have RS : ρ' s = (0, 0, 0) := by rw [M1.keep s (Nat.lt_of_lt_of_le SL Bwa.size) NS]; exact R0
      have Swf := SQ _ cbf
      refine ⟨Swf, ?_⟩
      simp only [Act.put, List.setIfInBounds_toArray, List.set_cons_zero, List.set_cons_succ]
      refine takeD (i := 8) (v := .tuple #[.agg fr.mac.vals.toArray, .slice ga gl gc, .slice aa al ac, .int .i64 er]) 37 rfl rfl (by kernel_rfl) (by kernel_rfl) (by kernel_rfl) (fun _ _ _ h => h) (.inl ⟨by rfl, fun W hW => exec_move _ _ rfl rfl⟩) (Swf) ?_
      try simp only [Act.put, List.setIfInBounds_toArray, List.set_cons_zero, List.set_cons_succ]
      refine takeD (i := 9) (v := .agg fr.mac.vals.toArray) 46 rfl rfl (by kernel_rfl) (by kernel_rfl) (by kernel_rfl) (fun _ _ _ h => h) (.inl ⟨by rfl, fun W hW => exec_ext _ 0 [.agg fr.mac.vals.toArray, .slice ga gl gc, .slice aa al ac, .int .i64 er] _ rfl rfl rfl⟩) (Swf) ?_
      try simp only [Act.put, List.setIfInBounds_toArray, List.set_cons_zero, List.set_cons_succ]
      refine takeD (i := 10) (v := .slice ga gl gc) 47 rfl rfl (by kernel_rfl) (by kernel_rfl) (by kernel_rfl) (fun _ _ _ h => h) (.inl ⟨by rfl, fun W hW => exec_ext _ 1 [.agg fr.mac.vals.toArray, .slice ga gl gc, .slice aa al ac, .int .i64 er] _ rfl rfl rfl⟩) (Swf) ?_
      try simp only [Act.put, List.setIfInBounds_toArray, List.set_cons_zero, List.set_cons_succ]
      refine takeD (i := 11) (v := .slice aa al ac) 48 rfl rfl (by kernel_rfl) (by kernel_rfl) (by kernel_rfl) (fun _ _ _ h => h) (.inl ⟨by rfl, fun W hW => exec_ext _ 2 [.agg fr.mac.vals.toArray, .slice ga gl gc, .slice aa al ac, .int .i64 er] _ rfl rfl rfl⟩) (Swf) ?_
      try simp only [Act.put, List.setIfInBounds_toArray, List.set_cons_zero, List.set_cons_succ]
      refine takeD (i := 12) (v := .int .i64 er) 49 rfl rfl (by kernel_rfl) (by kernel_rfl) (by kernel_rfl) (fun _ _ _ h => h) (.inl ⟨by rfl, fun W hW => exec_ext _ 3 [.agg fr.mac.vals.toArray, .slice ga gl gc, .slice aa al ac, .int .i64 er] _ rfl rfl rfl⟩) (Swf) ?_
      try simp only [Act.put, List.setIfInBounds_toArray, List.set_cons_zero, List.set_cons_succ]
      have OB := One.before (s := s9) (M := fr.mac) F0 (HB.trans (Bwa.mono HB.size)) (Nat.le_trans HB.size z0) z2 cz fz k1 F1 M1 g1 a1
      have sne : s ≠ s9 := by have := SL; omega
      have CBZ := cbf
      have LBZ : s < wf.heap.size := Nat.lt_of_lt_of_le SL (Nat.le_trans Bwa.size M1.but.size)
      obtain ⟨cy, fy, ON⟩ := OB
      have cby : CellsAt (wf.setCells s9 0 fr.mac.vals) s 0 o.cells := CBZ.but LBZ (But.cells s9 fr.mac.vals 0 wf) (fun e => by have e : s = s9 := e; omega)
      have Swy := SQ _ cby
      refine storeD (w' := wf.setCells s9 0 fr.mac.vals) 14 (by kernel_rfl) rfl rfl (by rfl) (exec_storeA 23 6 sizM _ _ rfl s9 0 rfl _ zM.vals rfl rfl rfl cy fy (m6_one _)) (Swy) ?_
      try simp only [Act.put, List.setIfInBounds_toArray, List.set_cons_zero, List.set_cons_succ]
      refine takeD (i := 15) (v := .slice ga gl gc) 10 rfl rfl (by kernel_rfl) (by kernel_rfl) (by kernel_rfl) (fun _ _ _ h => h) (.inl ⟨by rfl, fun W hW => exec_assign _ _ rfl rfl⟩) (Swy) ?_
      try simp only [Act.put, List.setIfInBounds_toArray, List.set_cons_zero, List.set_cons_succ]
      refine takeD (i := 16) (v := .slice aa al ac) 11 rfl rfl (by kernel_rfl) (by kernel_rfl) (by kernel_rfl) (fun _ _ _ h => h) (.inl ⟨by rfl, fun W hW => exec_assign _ _ rfl rfl⟩) (Swy) ?_
      try simp only [Act.put, List.setIfInBounds_toArray, List.set_cons_zero, List.set_cons_succ]
      refine takeD (i := 17) (v := .int .i64 er) 12 rfl rfl (by kernel_rfl) (by kernel_rfl) (by kernel_rfl) (fun _ _ _ h => h) (.inl ⟨by rfl, fun W hW => exec_assign _ _ rfl rfl⟩) (Swy) ?_
      try simp only [Act.put, List.setIfInBounds_toArray, List.set_cons_zero, List.set_cons_succ]
      refine wpAnyH_done (by kernel_rfl) ?_ _
      obtain ⟨wy, hwy⟩ : ∃ wy, wy = wf.setCells s9 0 fr.mac.vals := ⟨_, rfl⟩
      rw [← hwy] at ON cby ⊢
      have ON1 := hide ON
      have CB1 := hide (And.intro RS cby)
      clear hwy ON cby
      go_wp2
      go_meet
      exact ⟨ρ', s9, ga, gc, aa, ac, rfl, rfl, rfl, rfl, ON1, CB1⟩
  case rest =>
    obtain ⟨ρ1, s9, ga, gc, aa, ac, rfl, rfl, rfl, rfl, ON1, CB1⟩ := hcut
    obtain ⟨w3, hw3⟩ : ∃ w3, w3 = wc := ⟨_, rfl⟩
    rw [← hw3] at ON1 CB1 ⊢
    clear hw3 FDAH
    have SL3 : s < w3.heap.size := CB1.out.2.lt (by simp [Op8.cells])
    have hr := Ca.move H2.out HF.out ON1.out.mv (by omega)
    have FDB : Hid (∀ W', Below w3.heap.size w3 W' → Calls Try.prog 27 #[.pointer (some ⟨r, 0, none⟩), I4.val ⟨10, 0, 0, o.ip⟩, .int .i64 o.buf, .int .i64 now] W' fun e w2 => ∃ v, e = .returned v ∧ FR 2 ρ1 W' r m i ⟨10, 0, 0, o.ip⟩ fr gl al er v w2) := fun W' hb => by
      refine (rFind_any (hr.later hb) (ON1.out.fit.below hb.size) now o.buf HOK.out hn1 ⟨10, 0, 0, o.ip⟩).mono ?_
      rw [← HFR.out]
      intro e w2 h
      exact FR.of HGL.out HAL.out HER.out h
    clear hr
    go_upto_region 4 with fail
    go_cut [13, 14, 15, 16] from 50 to 62 (fun v9 v10 v11 v12 wx => ∃ (ρ2 : Nat → Role) (t9 : Nat) (la : Option Addr) (lc : Nat) (ba : Option Addr) (bc : Nat), v9 = .pointer (some ⟨t9, 0, none⟩) ∧ v10 = .slice la gl lc ∧ v11 = .slice ba al bc ∧ v12 = .int .i64 er ∧ Hid (One 2 ρ1 ρ2 w3 wx r m i fr.L (.slice la gl lc) fr.gone (.slice ba al bc) al (fun _ => ⟨false, m, i, zM, ⟨10, 0, 0, o.ip⟩⟩) t9 fr.mac) ∧ Hid (ρ2 s = (0, 0, 0) ∧ CellsAt wx s 0 o.cells))
    case first =>
      have SP : ∀ W, Below w3.heap.size w3 W → CellsAt W s 0 o.cells := fun W hb => CB1.out.2.later SL3 hb
      have SQ := SQ.out
      have CI := CI.out
      have FD := FDB.out
      have R0 : ρ1 s = (0, 0, 0) := CB1.out.1
      have NS : ¬ (ρ1 s).1 = 2 := by rw [R0]; simp
      have F0 := ON1.out.fit
      have HB := Below.refl w3.heap.size w3
      have SL := SL3
      have bd : Below w3.heap.size w3 w3.drew := (Below.refl _ w3).drew
      have S0 := SQ _ (SP _ bd)
      refine region_out (fun W => W.cell? ⟨s, 1, none⟩ = some (.int .u8 o.ip) ∧ W.cell? ⟨s, 2, none⟩ = some (.int .i64 o.buf)) (by kernel_rfl) ?_
      refine takeD (i := 0) (v := .pointer (some ⟨r, 0, none⟩)) 51 rfl rfl (by kernel_rfl) (by kernel_rfl) (by kernel_rfl) (fun _ _ _ h => h) (.inl ⟨by rfl, fun W hW => exec_move _ _ rfl rfl⟩) (S0) ?_
      try simp only [Act.put, List.setIfInBounds_toArray, List.set_cons_zero, List.set_cons_succ]
      refine takeD (i := 1) (v := .pointer (some ⟨s, 1, none⟩)) 52 rfl rfl (by kernel_rfl) (by kernel_rfl) (by kernel_rfl) (fun _ _ _ h => h) (.inl ⟨by rfl, fun W hW => exec_fieldO 46 _ 1 s 0 1 rfl rfl (fun w => by kernel_rfl)⟩) (S0) ?_
      try simp only [Act.put, List.setIfInBounds_toArray, List.set_cons_zero, List.set_cons_succ]
      refine takeD (i := 2) (v := .int .u8 o.ip) 53 rfl rfl (by kernel_rfl) (by kernel_rfl) (by kernel_rfl) (fun _ _ _ h => h) (.inl ⟨by rfl, fun W hW => exec_load1 5 oneU _ rfl s 1 rfl (.int .u8 o.ip) (hW.1)⟩) (S0) ?_
      try simp only [Act.put, List.setIfInBounds_toArray, List.set_cons_zero, List.set_cons_succ]
      refine takeD (i := 4) (v := .pointer (some ⟨s, 2, none⟩)) 55 rfl rfl (by kernel_rfl) (by kernel_rfl) (by kernel_rfl) (fun _ _ _ h => h) (.inl ⟨by rfl, fun W hW => exec_fieldO 46 _ 2 s 0 2 rfl rfl (fun w => by kernel_rfl)⟩) (S0) ?_
      try simp only [Act.put, List.setIfInBounds_toArray, List.set_cons_zero, List.set_cons_succ]
      refine takeD (i := 5) (v := .int .i64 o.buf) 56 rfl rfl (by kernel_rfl) (by kernel_rfl) (by kernel_rfl) (fun _ _ _ h => h) (.inl ⟨by rfl, fun W hW => exec_load1 3 one1 _ rfl s 2 rfl (.int .i64 o.buf) (hW.2)⟩) (S0) ?_
      try simp only [Act.put, List.setIfInBounds_toArray, List.set_cons_zero, List.set_cons_succ]
      refine takeD (i := 6) (v := .int .i64 now) 57 rfl rfl (by kernel_rfl) (by kernel_rfl) (by kernel_rfl) (fun _ _ _ h => h) (.inl ⟨by rfl, fun W hW => exec_move _ _ rfl rfl⟩) (S0) ?_
      try simp only [Act.put, List.setIfInBounds_toArray, List.set_cons_zero, List.set_cons_succ]
      refine wpAnyH_all (rs := [3, 13]) (by kernel_rfl) (by simp) (fun q' hq' => ?_)
      rcases List.mem_cons.1 hq' with rfl | hq'
      · skip
        refine opD_call (w' := w3.drew) 3 54 rfl rfl (by rfl) 14 #[.int .u8 o.ip] (by kernel_rfl) _ (CI w3.drew) ?_
        rintro _ wa ⟨rfl, bwa⟩
        have Bwa : Below w3.heap.size w3 wa := bd.trans (bwa.mono bd.size)
        have Swa := SQ _ (SP wa Bwa)
        refine ⟨Swa, ?_⟩
        simp only [Act.put, List.setIfInBounds_toArray, List.set_cons_zero, List.set_cons_succ]
        refine wpAnyH_all (rs := [7, 13]) (by kernel_rfl) (by simp) (fun q' hq' => ?_)
        rcases List.mem_cons.1 hq' with rfl | hq'
        · skip
          refine opD_call (w' := wa) 7 58 rfl rfl (by rfl) 27 #[.pointer (some ⟨r, 0, none⟩), I4.val ⟨10, 0, 0, o.ip⟩, .int .i64 o.buf, .int .i64 now] (by kernel_rfl) _ (FD wa Bwa) ?_
          rintro _ wf ⟨ρ', ga, gc, aa, ac, rfl, k1, F1, M1, g1, a1⟩
          have cbf : CellsAt wf s 0 o.cells := (SP wa Bwa).but (Nat.lt_of_lt_of_le SL Bwa.size) M1.but NS
          have RS : ρ' s = (0, 0, 0) := by rw [M1.keep s (Nat.lt_of_lt_of_le SL Bwa.size) NS]; exact R0
          have Swf := SQ _ cbf
          refine ⟨Swf, ?_⟩
          simp only [Act.put, List.setIfInBounds_toArray, List.set_cons_zero, List.set_cons_succ]
          refine takeD (i := 8) (v := .tuple #[.agg fr.mac.vals.toArray, .slice ga gl gc, .slice aa al ac, .int .i64 er]) 50 rfl rfl (by kernel_rfl) (by kernel_rfl) (by kernel_rfl) (fun _ _ _ h => h) (.inl ⟨by rfl, fun W hW => exec_move _ _ rfl rfl⟩) (Swf) ?_
          try simp only [Act.put, List.setIfInBounds_toArray, List.set_cons_zero, List.set_cons_succ]
          refine takeD (i := 9) (v := .agg fr.mac.vals.toArray) 59 rfl rfl (by kernel_rfl) (by kernel_rfl) (by kernel_rfl) (fun _ _ _ h => h) (.inl ⟨by rfl, fun W hW => exec_ext _ 0 [.agg fr.mac.vals.toArray, .slice ga gl gc, .slice aa al ac, .int .i64 er] _ rfl rfl rfl⟩) (Swf) ?_
          try simp only [Act.put, List.setIfInBounds_toArray, List.set_cons_zero, List.set_cons_succ]
          refine takeD (i := 10) (v := .slice ga gl gc) 60 rfl rfl (by kernel_rfl) (by kernel_rfl) (by kernel_rfl) (fun _ _ _ h => h) (.inl ⟨by rfl, fun W hW => exec_ext _ 1 [.agg fr.mac.vals.toArray, .slice ga gl gc, .slice aa al ac, .int .i64 er] _ rfl rfl rfl⟩) (Swf) ?_
          try simp only [Act.put, List.setIfInBounds_toArray, List.set_cons_zero, List.set_cons_succ]
          refine takeD (i := 11) (v := .slice aa al ac) 61 rfl rfl (by kernel_rfl) (by kernel_rfl) (by kernel_rfl) (fun _ _ _ h => h) (.inl ⟨by rfl, fun W hW => exec_ext _ 2 [.agg fr.mac.vals.toArray, .slice ga gl gc, .slice aa al ac, .int .i64 er] _ rfl rfl rfl⟩) (Swf) ?_
          try simp only [Act.put, List.setIfInBounds_toArray, List.set_cons_zero, List.set_cons_succ]
          refine takeD (i := 12) (v := .int .i64 er) 62 rfl rfl (by kernel_rfl) (by kernel_rfl) (by kernel_rfl) (fun _ _ _ h => h) (.inl ⟨by rfl, fun W hW => exec_ext _ 3 [.agg fr.mac.vals.toArray, .slice ga gl gc, .slice aa al ac, .int .i64 er] _ rfl rfl rfl⟩) (Swf) ?_
          try simp only [Act.put, List.setIfInBounds_toArray, List.set_cons_zero, List.set_cons_succ]
          obtain ⟨s9, hs9⟩ : ∃ s9, s9 = wf.heap.size := ⟨_, rfl⟩
          obtain ⟨wz, hwz⟩ : ∃ wz, wz = wf.alloc (.cells zM.vals.toArray 23) := ⟨_, rfl⟩
          have bz : Below wf.heap.size wf wz := by rw [hwz]; exact (Below.refl _ _).alloc (Nat.le_refl _) _
          have z1 : wf.heap.size ≤ s9 := by omega
          have z2 : s9 < wz.heap.size := by rw [hwz, hs9]; simp
          have cz : CellsAt wz s9 0 zM.vals := by rw [hwz, hs9]; exact CellsAt.new wf zM.vals 23
          have fz : ∀ y, wz.frozen? ⟨s9, y, none⟩ = false := fun y => by rw [hwz, hs9]; exact frozen_new wf _ _ _
          have CBZ : CellsAt wz s 0 o.cells := cbf.later (Nat.lt_of_lt_of_le SL (Nat.le_trans Bwa.size M1.but.size)) bz
          have LBZ : s < wz.heap.size := Nat.lt_of_lt_of_le SL (Nat.le_trans Bwa.size (Nat.le_trans M1.but.size bz.size))
          have Swz := SQ _ CBZ
          refine nextD (w' := wz) 13 13 (.pointer (some ⟨s9, 0, none⟩)) (by kernel_rfl) rfl rfl (by rfl) (by rw [hwz, hs9]; exact exec_allocM rfl) (Swz) ?_
          try simp only [Act.put, List.setIfInBounds_toArray, List.set_cons_zero, List.set_cons_succ]
          have sne : s ≠ s9 := by have := SL; have := Bwa.size; have := M1.but.size; omega
          clear hwz hs9
          have ON := One.after (HB.trans (Bwa.mono HB.size)) k1 F1 M1 g1 a1 (bz.trans ((But.cells s9 fr.mac.vals 0 wz).below bz.size (fun g hg e => by have e : g = s9 := e; omega))) z1 (Nat.lt_of_lt_of_le z2 (But.cells s9 fr.mac.vals 0 wz).size) (cz.stored (vs := fr.mac.vals) rfl)
          have cby : CellsAt (wz.setCells s9 0 fr.mac.vals) s 0 o.cells := CBZ.but LBZ (But.cells s9 fr.mac.vals 0 wz) (fun e => by have e : s = s9 := e; omega)
          have Swy := SQ _ cby
          refine storeD (w' := wz.setCells s9 0 fr.mac.vals) 14 (by kernel_rfl) rfl rfl (by rfl) (exec_storeA 23 6 sizM _ _ rfl s9 0 rfl _ zM.vals rfl rfl rfl cz fz (m6_one _)) (Swy) ?_
          try simp only [Act.put, List.setIfInBounds_toArray, List.set_cons_zero, List.set_cons_succ]
          refine takeD (i := 15) (v := .slice ga gl gc) 14 rfl rfl (by kernel_rfl) (by kernel_rfl) (by kernel_rfl) (fun _ _ _ h => h) (.inl ⟨by rfl, fun W hW => exec_assign _ _ rfl rfl⟩) (Swy) ?_
          try simp only [Act.put, List.setIfInBounds_toArray, List.set_cons_zero, List.set_cons_succ]
          refine takeD (i := 16) (v := .slice aa al ac) 15 rfl rfl (by kernel_rfl) (by kernel_rfl) (by kernel_rfl) (fun _ _ _ h => h) (.inl ⟨by rfl, fun W hW => exec_assign _ _ rfl rfl⟩) (Swy) ?_
          try simp only [Act.put, List.setIfInBounds_toArray, List.set_cons_zero, List.set_cons_succ]
          refine takeD (i := 17) (v := .int .i64 er) 16 rfl rfl (by kernel_rfl) (by kernel_rfl) (by kernel_rfl) (fun _ _ _ h => h) (.inl ⟨by rfl, fun W hW => exec_assign _ _ rfl rfl⟩) (Swy) ?_
          try simp only [Act.put, List.setIfInBounds_toArray, List.set_cons_zero, List.set_cons_succ]
          refine wpAnyH_done (by kernel_rfl) ?_ _
          obtain ⟨wy, hwy⟩ : ∃ wy, wy = wz.setCells s9 0 fr.mac.vals := ⟨_, rfl⟩
          rw [← hwy] at ON cby ⊢
          have ON1 := hide ON
          have CB1 := hide (And.intro RS cby)
          clear hwy ON cby
          go_wp2
          go_meet
          exact ⟨ρ', s9, ga, gc, aa, ac, rfl, rfl, rfl, rfl, ON1, CB1⟩
        · obtain rfl : q' = 13 := by simpa using hq'
          obtain ⟨s9, hs9⟩ : ∃ s9, s9 = wa.heap.size := ⟨_, rfl⟩
          obtain ⟨wz, hwz⟩ : ∃ wz, wz = wa.alloc (.cells zM.vals.toArray 23) := ⟨_, rfl⟩
          have bz : Below wa.heap.size wa wz := by rw [hwz]; exact (Below.refl _ _).alloc (Nat.le_refl _) _
          have z1 : wa.heap.size ≤ s9 := by omega
          have z2 : s9 < wz.heap.size := by rw [hwz, hs9]; simp
          have cz : CellsAt wz s9 0 zM.vals := by rw [hwz, hs9]; exact CellsAt.new wa zM.vals 23
          have fz : ∀ y, wz.frozen? ⟨s9, y, none⟩ = false := fun y => by rw [hwz, hs9]; exact frozen_new wa _ _ _
          have Bwz : Below w3.heap.size w3 wz := Bwa.trans (bz.mono Bwa.size)
          have Swz := SQ _ (SP wz Bwz)
          refine opD_val (w' := wz) 13 13 (.pointer (some ⟨s9, 0, none⟩)) rfl rfl (by rfl) (by rw [hwz, hs9]; exact exec_allocM rfl) ⟨Swz, ?_⟩
          simp only [Act.put, List.setIfInBounds_toArray, List.set_cons_zero, List.set_cons_succ]
          have z0 : w3.heap.size ≤ s9 := by have := Bwa.size; omega
          clear hwz hs9
          refine callD (w' := wz) 7 58 (by kernel_rfl) rfl rfl (by rfl) 27 #[.pointer (some ⟨r, 0, none⟩), I4.val ⟨10, 0, 0, o.ip⟩, .int .i64 o.buf, .int .i64 now] (by kernel_rfl) _ (FD wz Bwz) ?_
          rintro _ wf ⟨ρ', ga, gc, aa, ac, rfl, k1, F1, M1, g1, a1⟩
          have cbf : CellsAt wf s 0 o.cells := (SP wz Bwz).but (Nat.lt_of_lt_of_le SL Bwz.size) M1.but NS
          have RS : ρ' s = (0, 0, 0) := by rw [M1.keep s (Nat.lt_of_lt_of_le SL Bwz.size) NS]; exact R0
          have Swf := SQ _ cbf
          refine ⟨Swf, ?_⟩
          simp only [Act.put, List.setIfInBounds_toArray, List.set_cons_zero, List.set_cons_succ]
          refine takeD (i := 8) (v := .tuple #[.agg fr.mac.vals.toArray, .slice ga gl gc, .slice aa al ac, .int .i64 er]) 50 rfl rfl (by kernel_rfl) (by kernel_rfl) (by kernel_rfl) (fun _ _ _ h => h) (.inl ⟨by rfl, fun W hW => exec_move _ _ rfl rfl⟩) (Swf) ?_
          try simp only [Act.put, List.setIfInBounds_toArray, List.set_cons_zero, List.set_cons_succ]
          refine takeD (i := 9) (v := .agg fr.mac.vals.toArray) 59 rfl rfl (by kernel_rfl) (by kernel_rfl) (by kernel_rfl) (fun _ _ _ h => h) (.inl ⟨by rfl, fun W hW => exec_ext _ 0 [.agg fr.mac.vals.toArray, .slice ga gl gc, .slice aa al ac, .int .i64 er] _ rfl rfl rfl⟩) (Swf) ?_
          try simp only [Act.put, List.setIfInBounds_toArray, List.set_cons_zero, List.set_cons_succ]
          refine takeD (i := 10) (v := .slice ga gl gc) 60 rfl rfl (by kernel_rfl) (by kernel_rfl) (by kernel_rfl) (fun _ _ _ h => h) (.inl ⟨by rfl, fun W hW => exec_ext _ 1 [.agg fr.mac.vals.toArray, .slice ga gl gc, .slice aa al ac, .int .i64 er] _ rfl rfl rfl⟩) (Swf) ?_
          try simp only [Act.put, List.setIfInBounds_toArray, List.set_cons_zero, List.set_cons_succ]
          refine takeD (i := 11) (v := .slice aa al ac) 61 rfl rfl (by kernel_rfl) (by kernel_rfl) (by kernel_rfl) (fun _ _ _ h => h) (.inl ⟨by rfl, fun W hW => exec_ext _ 2 [.agg fr.mac.vals.toArray, .slice ga gl gc, .slice aa al ac, .int .i64 er] _ rfl rfl rfl⟩) (Swf) ?_
          try simp only [Act.put, List.setIfInBounds_toArray, List.set_cons_zero, List.set_cons_succ]
          refine takeD (i := 12) (v := .int .i64 er) 62 rfl rfl (by kernel_rfl) (by kernel_rfl) (by kernel_rfl) (fun _ _ _ h => h) (.inl ⟨by rfl, fun W hW => exec_ext _ 3 [.agg fr.mac.vals.toArray, .slice ga gl gc, .slice aa al ac, .int .i64 er] _ rfl rfl rfl⟩) (Swf) ?_
          try simp only [Act.put, List.setIfInBounds_toArray, List.set_cons_zero, List.set_cons_succ]
          have OB := One.before (s := s9) (M := fr.mac) F0 (HB.trans (Bwz.mono HB.size)) (Nat.le_trans HB.size z0) z2 cz fz k1 F1 M1 g1 a1
          have sne : s ≠ s9 := by have := SL; omega
          have CBZ := cbf
          have LBZ : s < wf.heap.size := Nat.lt_of_lt_of_le SL (Nat.le_trans Bwz.size M1.but.size)
          obtain ⟨cy, fy, ON⟩ := OB
          have cby : CellsAt (wf.setCells s9 0 fr.mac.vals) s 0 o.cells := CBZ.but LBZ (But.cells s9 fr.mac.vals 0 wf) (fun e => by have e : s = s9 := e; omega)
          have Swy := SQ _ cby
          refine storeD (w' := wf.setCells s9 0 fr.mac.vals) 14 (by kernel_rfl) rfl rfl (by rfl) (exec_storeA 23 6 sizM _ _ rfl s9 0 rfl _ zM.vals rfl rfl rfl cy fy (m6_one _)) (Swy) ?_
          try simp only [Act.put, List.setIfInBounds_toArray, List.set_cons_zero, List.set_cons_succ]
          refine takeD (i := 15) (v := .slice ga gl gc) 14 rfl rfl (by kernel_rfl) (by kernel_rfl) (by kernel_rfl) (fun _ _ _ h => h) (.inl ⟨by rfl, fun W hW => exec_assign _ _ rfl rfl⟩) (Swy) ?_
          try simp only [Act.put, List.setIfInBounds_toArray, List.set_cons_zero, List.set_cons_succ]
          refine takeD (i := 16) (v := .slice aa al ac) 15 rfl rfl (by kernel_rfl) (by kernel_rfl) (by kernel_rfl) (fun _ _ _ h => h) (.inl ⟨by rfl, fun W hW => exec_assign _ _ rfl rfl⟩) (Swy) ?_
          try simp only [Act.put, List.setIfInBounds_toArray, List.set_cons_zero, List.set_cons_succ]
          refine takeD (i := 17) (v := .int .i64 er) 16 rfl rfl (by kernel_rfl) (by kernel_rfl) (by kernel_rfl) (fun _ _ _ h => h) (.inl ⟨by rfl, fun W hW => exec_assign _ _ rfl rfl⟩) (Swy) ?_
          try simp only [Act.put, List.setIfInBounds_toArray, List.set_cons_zero, List.set_cons_succ]
          refine wpAnyH_done (by kernel_rfl) ?_ _
          obtain ⟨wy, hwy⟩ : ∃ wy, wy = wf.setCells s9 0 fr.mac.vals := ⟨_, rfl⟩
          rw [← hwy] at ON cby ⊢
          have ON1 := hide ON
          have CB1 := hide (And.intro RS cby)
          clear hwy ON cby
          go_wp2
          go_meet
          exact ⟨ρ', s9, ga, gc, aa, ac, rfl, rfl, rfl, rfl, ON1, CB1⟩
      · obtain rfl : q' = 13 := by simpa using hq'
        obtain ⟨s9, hs9⟩ : ∃ s9, s9 = w3.drew.heap.size := ⟨_, rfl⟩
        obtain ⟨wz, hwz⟩ : ∃ wz, wz = w3.drew.alloc (.cells zM.vals.toArray 23) := ⟨_, rfl⟩
        have bz : Below w3.drew.heap.size w3.drew wz := by rw [hwz]; exact (Below.refl _ _).alloc (Nat.le_refl _) _
        have z1 : w3.drew.heap.size ≤ s9 := by omega
        have z2 : s9 < wz.heap.size := by rw [hwz, hs9]; simp
        have cz : CellsAt wz s9 0 zM.vals := by rw [hwz, hs9]; exact CellsAt.new w3.drew zM.vals 23
        have fz : ∀ y, wz.frozen? ⟨s9, y, none⟩ = false := fun y => by rw [hwz, hs9]; exact frozen_new w3.drew _ _ _
        have Bwz : Below w3.heap.size w3 wz := bd.trans (bz.mono bd.size)
        have Swz := SQ _ (SP wz Bwz)
        refine opD_val (w' := wz) 13 13 (.pointer (some ⟨s9, 0, none⟩)) rfl rfl (by rfl) (by rw [hwz, hs9]; exact exec_allocM rfl) ⟨Swz, ?_⟩
        simp only [Act.put, List.setIfInBounds_toArray, List.set_cons_zero, List.set_cons_succ]
        have z0 : w3.heap.size ≤ s9 := by have := bd.size; omega
        clear hwz hs9
        refine callD (w' := wz) 3 54 (by kernel_rfl) rfl rfl (by rfl) 14 #[.int .u8 o.ip] (by kernel_rfl) _ (CI wz) ?_
        rintro _ wa ⟨rfl, bwa⟩
        have Bwa : Below w3.heap.size w3 wa := Bwz.trans (bwa.mono Bwz.size)
        have Swa := SQ _ (SP wa Bwa)
        refine ⟨Swa, ?_⟩
        simp only [Act.put, List.setIfInBounds_toArray, List.set_cons_zero, List.set_cons_succ]
        have cz := cz.later z2 bwa
        have fz : ∀ y, wa.frozen? ⟨s9, y, none⟩ = false := fun y => (bwa.frozen (p := ⟨s9, y, none⟩) z2).trans (fz y)
        have z2 : s9 < wa.heap.size := Nat.lt_of_lt_of_le z2 bwa.size
        refine callD (w' := wa) 7 58 (by kernel_rfl) rfl rfl (by rfl) 27 #[.pointer (some ⟨r, 0, none⟩), I4.val ⟨10, 0, 0, o.ip⟩, .int .i64 o.buf, .int .i64 now] (by kernel_rfl) _ (FD wa Bwa) ?_
        rintro _ wf ⟨ρ', ga, gc, aa, ac, rfl, k1, F1, M1, g1, a1⟩
        have cbf : CellsAt wf s 0 o.cells := (SP wa Bwa).but (Nat.lt_of_lt_of_le SL Bwa.size) M1.but NS
        have RS : ρ' s = (0, 0, 0) := by rw [M1.keep s (Nat.lt_of_lt_of_le SL Bwa.size) NS]; exact R0
        have Swf := SQ _ cbf
        refine ⟨Swf, ?_⟩
        simp only [Act.put, List.setIfInBounds_toArray, List.set_cons_zero, List.set_cons_succ]
        refine takeD (i := 8) (v := .tuple #[.agg fr.mac.vals.toArray, .slice ga gl gc, .slice aa al ac, .int .i64 er]) 50 rfl rfl (by kernel_rfl) (by kernel_rfl) (by kernel_rfl) (fun _ _ _ h => h) (.inl ⟨by rfl, fun W hW => exec_move _ _ rfl rfl⟩) (Swf) ?_
        try simp only [Act.put, List.setIfInBounds_toArray, List.set_cons_zero, List.set_cons_succ]
        refine takeD (i := 9) (v := .agg fr.mac.vals.toArray) 59 rfl rfl (by kernel_rfl) (by kernel_rfl) (by kernel_rfl) (fun _ _ _ h => h) (.inl ⟨by rfl, fun W hW => exec_ext _ 0 [.agg fr.mac.vals.toArray, .slice ga gl gc, .slice aa al ac, .int .i64 er] _ rfl rfl rfl⟩) (Swf) ?_
        try simp only [Act.put, List.setIfInBounds_toArray, List.set_cons_zero, List.set_cons_succ]
        refine takeD (i := 10) (v := .slice ga gl gc) 60 rfl rfl (by kernel_rfl) (by kernel_rfl) (by kernel_rfl) (fun _ _ _ h => h) (.inl ⟨by rfl, fun W hW => exec_ext _ 1 [.agg fr.mac.vals.toArray, .slice ga gl gc, .slice aa al ac, .int .i64 er] _ rfl rfl rfl⟩) (Swf) ?_
        try simp only [Act.put, List.setIfInBounds_toArray, List.set_cons_zero, List.set_cons_succ]
        refine takeD (i := 11) (v := .slice aa al ac) 61 rfl rfl (by kernel_rfl) (by kernel_rfl) (by kernel_rfl) (fun _ _ _ h => h) (.inl ⟨by rfl, fun W hW => exec_ext _ 2 [.agg fr.mac.vals.toArray, .slice ga gl gc, .slice aa al ac, .int .i64 er] _ rfl rfl rfl⟩) (Swf) ?_
        try simp only [Act.put, List.setIfInBounds_toArray, List.set_cons_zero, List.set_cons_succ]
        refine takeD (i := 12) (v := .int .i64 er) 62 rfl rfl (by kernel_rfl) (by kernel_rfl) (by kernel_rfl) (fun _ _ _ h => h) (.inl ⟨by rfl, fun W hW => exec_ext _ 3 [.agg fr.mac.vals.toArray, .slice ga gl gc, .slice aa al ac, .int .i64 er] _ rfl rfl rfl⟩) (Swf) ?_
        try simp only [Act.put, List.setIfInBounds_toArray, List.set_cons_zero, List.set_cons_succ]
        have OB := One.before (s := s9) (M := fr.mac) F0 (HB.trans (Bwa.mono HB.size)) (Nat.le_trans HB.size z0) z2 cz fz k1 F1 M1 g1 a1
        have sne : s ≠ s9 := by have := SL; omega
        have CBZ := cbf
        have LBZ : s < wf.heap.size := Nat.lt_of_lt_of_le SL (Nat.le_trans Bwa.size M1.but.size)
        obtain ⟨cy, fy, ON⟩ := OB
        have cby : CellsAt (wf.setCells s9 0 fr.mac.vals) s 0 o.cells := CBZ.but LBZ (But.cells s9 fr.mac.vals 0 wf) (fun e => by have e : s = s9 := e; omega)
        have Swy := SQ _ cby
        refine storeD (w' := wf.setCells s9 0 fr.mac.vals) 14 (by kernel_rfl) rfl rfl (by rfl) (exec_storeA 23 6 sizM _ _ rfl s9 0 rfl _ zM.vals rfl rfl rfl cy fy (m6_one _)) (Swy) ?_
        try simp only [Act.put, List.setIfInBounds_toArray, List.set_cons_zero, List.set_cons_succ]
        refine takeD (i := 15) (v := .slice ga gl gc) 14 rfl rfl (by kernel_rfl) (by kernel_rfl) (by kernel_rfl) (fun _ _ _ h => h) (.inl ⟨by rfl, fun W hW => exec_assign _ _ rfl rfl⟩) (Swy) ?_
        try simp only [Act.put, List.setIfInBounds_toArray, List.set_cons_zero, List.set_cons_succ]
        refine takeD (i := 16) (v := .slice aa al ac) 15 rfl rfl (by kernel_rfl) (by kernel_rfl) (by kernel_rfl) (fun _ _ _ h => h) (.inl ⟨by rfl, fun W hW => exec_assign _ _ rfl rfl⟩) (Swy) ?_
        try simp only [Act.put, List.setIfInBounds_toArray, List.set_cons_zero, List.set_cons_succ]
        refine takeD (i := 17) (v := .int .i64 er) 16 rfl rfl (by kernel_rfl) (by kernel_rfl) (by kernel_rfl) (fun _ _ _ h => h) (.inl ⟨by rfl, fun W hW => exec_assign _ _ rfl rfl⟩) (Swy) ?_
        try simp only [Act.put, List.setIfInBounds_toArray, List.set_cons_zero, List.set_cons_succ]
        refine wpAnyH_done (by kernel_rfl) ?_ _
        obtain ⟨wy, hwy⟩ : ∃ wy, wy = wf.setCells s9 0 fr.mac.vals := ⟨_, rfl⟩
        rw [← hwy] at ON cby ⊢
        have ON1 := hide ON
        have CB1 := hide (And.intro RS cby)
        clear hwy ON cby
        go_wp2
        go_meet
        exact ⟨ρ', s9, ga, gc, aa, ac, rfl, rfl, rfl, rfl, ON1, CB1⟩
    case rest =>
      obtain ⟨ρ2, t9, la, lc, ba, bc, rfl, rfl, rfl, rfl, ON2, CB2⟩ := hcut
      obtain ⟨w5, hw5⟩ : ∃ w5, w5 = wc := ⟨_, rfl⟩
      rw [← hw5] at ON2 CB2 ⊢
      clear hw5 FDB
      obtain ⟨D5, G5, L5, cs5, ls5, no1, no2⟩ := DM.make2 ON1.out ON2.out
      have NU := nums2_any (ca := gc) (bc := lc) (aa := ga) (ba := la) (by rw [HGL.out] at G5; exact G5) (by rw [HGL.out] at L5; exact L5) D5.dis GLB.out
      rw [← HGL.out] at NU
      have NUM := hide NU
      have DD5 := hide D5
      have CS := hide cs5
      have CT := hide ON2.out.c
      have NO := hide (And.intro (And.intro ls5 ON2.out.lt) (And.intro no1 no2))
      clear G5 L5 NU D5 ON1 ON2 CB1 CB2 cs5 ls5 no1 no2
      go_wp2_with fail
      refine NUM.out.mono ?_
      rintro _ w6 ⟨rfl, b6, i6⟩
      have D6 := DD5.out.turn b6 i6
      have CS6 := hide (CS.out.but NO.out.1.1 b6 NO.out.2.1)
      have CT6 := hide (CT.out.but NO.out.1.2 b6 NO.out.2.2)
      have NZ6 : Hid (s9 < w6.heap.size ∧ t9 < w6.heap.size) := ⟨Nat.lt_of_lt_of_le NO.out.1.1 b6.size, Nat.lt_of_lt_of_le NO.out.1.2 b6.size⟩
      have AR := hide (arps_any D6.ra D6.rb D6.dis (by rw [HAL.out]; split <;> omega))
      have DD6 := hide D6
      clear b6 i6 D6 NUM DD5 CS CT
      go_wp2_with fail
      refine AR.out.mono ?_
      rintro _ w7 ⟨rfl, b7⟩
      have FIN := hide (DD6.out.last b7)
      have cs := CS6.out.but NZ6.out.1 b7 NO.out.2.1
      have ct := CT6.out.but NZ6.out.2 b7 NO.out.2.2
      have x0 := cs 0 _ rfl
      have x1 := cs 1 _ rfl
      have x2 := cs 2 _ rfl
      have x3 := cs 3 _ rfl
      have x4 := cs 4 _ rfl
      have x5 := cs 5 _ rfl
      have y0 := ct 0 _ rfl
      have y1 := ct 1 _ rfl
      have y2 := ct 2 _ rfl
      have y3 := ct 3 _ rfl
      have y4 := ct 4 _ rfl
      have y5 := ct 5 _ rfl
      simp only [Nat.reduceAdd] at x0 x1 x2 x3 x4 x5 y0 y1 y2 y3 y4 y5
      have EM := eq_mac
      have ES : eqM ⟨fr.mac.a, fr.mac.b, fr.mac.c, fr.mac.d, fr.mac.e, fr.mac.f⟩ ⟨fr.mac.a, fr.mac.b, fr.mac.c, fr.mac.d, fr.mac.e, fr.mac.f⟩ = true := eqM_self _
      clear b7 AR DD6 cs ct CS6 CT6
      go_wp2
      go_ret
      exact ⟨rfl, FIN.out⟩

theorem does_any {ρ : Nat → Role} {w : World} {c r : Nat} {m : M6} {i : I4} {L : List Nb} (h1 : Ca ρ 1 w c m i L) (h2 : Ca ρ 2 w r m i L) (hF : Fit ρ w) (now : Int) (hok : LOk now L) (h0 : 0 ≤ now) (hn1 : now ≤ 4611686018427387904) (o : Op8) :
    Calls Try.prog 15 #[.pointer (some ⟨c, 0, none⟩), .pointer (some ⟨r, 0, none⟩), .agg o.cells.toArray, .int .i64 now] w fun e w' => e = .returned (.bool true) ∧ ∃ L', LOk now L' ∧ DoE ρ w c r m i L' w' := by
  by_cases k0 : o.kind = 0
  · exact (does_0 h1 h2 hF now hok hn1 o k0).mono fun e w' h => ⟨h.1, _, hok.fd h0 _ _, h.2⟩
  · by_cases k1 : o.kind = 1
    · exact (does_1 h1 h2 hF now hok o k1).mono fun e w' h => ⟨h.1, _, hok.hd h0 _ _, h.2⟩
    · exact (does_2 h1 h2 hF now hok hn1 o k0 k1).mono fun e w' h => ⟨h.1, _, hok.tk h0, h.2⟩
/-- both caches of the law -/
structure Bo (n : Nat) (w0 : World) (c r : Nat) (L : List Nb) (ρ : Nat → Role) (W : World) : Prop where
  ca1 : Ca ρ 1 W c hostM hostI L
  ca2 : Ca ρ 2 W r hostM hostI L
  fit : Fit ρ W
  clear : Clear n ρ
  bel : Below n w0 W
  sz : n ≤ W.heap.size
section
variable {n : Nat} {w0 W W' : World} {c r : Nat} {L L' : List Nb} {ρ : Nat → Role}
theorem Bo.later (h : Bo n w0 c r L ρ W) (hb : Below W.heap.size W W') : Bo n w0 c r L ρ W' :=
  ⟨h.ca1.later hb, h.ca2.later hb, h.fit.below hb.size, h.clear, h.bel.trans (hb.mono h.sz), Nat.le_trans h.sz hb.size⟩
theorem Bo.step (h : Bo n w0 c r L ρ W) (hd : DoE ρ W c r hostM hostI L' W') : ∃ ρ', Bo n w0 c r L' ρ' W' := by
  obtain ⟨ρ', k1, k2, hF, hD⟩ := hd
  have z : ∀ g, g < n → (ρ g).1 = 0 := fun g hg => by rw [h.clear g hg]
  refine ⟨ρ', k1, k2, hF, fun g hg => ?_, h.bel.trans (hD.but.below h.sz (fun g hg e => ?_)), Nat.le_trans h.sz hD.but.size⟩
  · have := z g hg
    rw [hD.keep g (by have := h.sz; omega) (by omega) (by omega)]
    exact h.clear g hg
  · have := z g hg
    omega
/-- a new one beside it: the document's -/
theorem Bo.begin (hn : n ≤ W.heap.size) (hc : Ca ρ 1 W c hostM hostI []) (hF : Fit ρ W) (hC : Clear n ρ) (hb : Below n w0 W) (cs : List Value) (hcs : cs = hostM.vals ++ (hostI.vals ++ [.slice none 0 0])) : ∃ ρ', Bo n w0 c W.heap.size [] ρ' (W.alloc (.cells cs.toArray 43)) := by
  obtain ⟨ρ', hρ⟩ : ∃ ρ' : Nat → Role, ∀ g, ρ' g = if g = W.heap.size then (2, 0, 0) else ρ g := ⟨_, fun _ => rfl⟩
  have ba : Below W.heap.size W (W.alloc (.cells cs.toArray 43)) := (Below.refl _ _).alloc (Nat.le_refl _) _
  have hm : Mv 2 ρ ρ' W (W.alloc (.cells cs.toArray 43)) := ⟨fun g hg _ => by rw [hρ, if_neg (by omega)], But.of_below ba⟩
  refine ⟨ρ', hc.move hF hm (by omega), ⟨_, [], rfl, CAt.new (by omega) (by rw [hρ, if_pos rfl]) (by rw [← hcs]; exact CellsAt.new W cs _) (fun j => frozen_new W _ _ _)⟩, fun g hg => ?_, fun g hg => ?_, hb.trans (ba.mono hn), Nat.le_trans hn ba.size⟩
  · rw [World.size_alloc] at hg
    rw [hρ, if_neg (by omega)]
    exact hF g (by omega)
  · rw [hρ, if_neg (by omega)]
    exact hC g hg
end
theorem aggO (w : World) : (isAgg 46).run Try.prog w = .ok true w := by kernel_rfl
theorem sizO (w : World) : (Go.sizeOf 46).run Try.prog w = .ok 25 w := by kernel_rfl
set_option maxRecDepth 100000 in
set_option maxHeartbeats 8000000 in
theorem Does_walk (now : Int) (v : Value) (l : List Op8) (w : World) (hn0 : -9223372036854775808 ≤ now) (hn1 : now ≤ 9223372036854775807) (hv : IsO w.heap.size w v l) (hl : l.length ≤ 4398046510976) : Calls Try.prog 4 #[.int .i64 now, v] w fun e w' => e = .returned (.bool true) ∧ Below w.heap.size w w' := by
  obtain ⟨oa, oc, rfl, hoc, hok⟩ := hv
  obtain ⟨n, hn⟩ : ∃ n, n = w.heap.size := ⟨_, rfl⟩
  rw [← hn] at hoc ⊢
  have HOC := hide hoc
  have HN := hide hn
  have zl : (l.length : Int) ≤ 4398046510976 := by omega
  clear hoc hok hn
  go_enter Try.func4, Try.ntmps4
  go_wp2_with fail
  refine (awake_any w).mono ?_
  rintro _ w2 ⟨rfl, b2⟩
  have B2 : Hid (Below n w w2) := b2.mono (by have := HN.out; omega)
  have Z2 : Hid (n ≤ w2.heap.size) := by have := b2.size; have := HN.out; unfold Hid; omega
  clear b2
  go_wp2_with fail
  refine (ip_any 1 _).mono ?_
  rintro _ w3 ⟨rfl, b3⟩
  have B3 : Hid (Below n w w3) := B2.out.trans (b3.mono Z2.out)
  have Z3 : Hid (n ≤ w3.heap.size) := by have := b3.size; have := Z2.out; unfold Hid; omega
  have NW := hide (new_host (n := n) Z3.out)
  simp only [hostM, hostI, M6.val, I4.val] at NW
  simp only [I4.val]
  clear b3
  go_wp2_with fail
  refine NW.out.mono ?_
  rintro _ w4 ⟨c, ρ, rfl, hc, hF, hC, hb4, hcl, _⟩
  have B4 : Below n w w4 := B3.out.trans (hb4.mono Z3.out)
  have Z4 : n ≤ w4.heap.size := by have := hb4.size; have := Z3.out; omega
  have HC := hide hc
  have HF := hide hF
  have HCL := hide hC
  have HB4 := hide (And.intro B4 Z4)
  clear hc hF hC hb4 hcl B4 Z4 NW
  go_wp2_with fail
  refine (ip_any 1 _).mono ?_
  rintro _ w5 ⟨rfl, b5⟩
  have Z5 : n ≤ w5.heap.size := Nat.le_trans HB4.out.2 b5.size
  have B5 : Below n w w5 := HB4.out.1.trans (b5.mono HB4.out.2)
  obtain ⟨ρ2, hBo⟩ := Bo.begin (w0 := w) Z5 (Ca.later HC.out b5) (HF.out.below b5.size) HCL.out B5 [.int .u8 2, .int .u8 0, .int .u8 0, .int .u8 0, .int .u8 0, .int .u8 0, .int .u8 10, .int .u8 0, .int .u8 0, .int .u8 1, .slice none 0 0] rfl
  simp only [I4.val]
  obtain ⟨r, hr⟩ : ∃ r, r = w5.heap.size := ⟨_, rfl⟩
  obtain ⟨w6, hw6⟩ : ∃ w6, w6 = w5.alloc (.cells #[.int .u8 2, .int .u8 0, .int .u8 0, .int .u8 0, .int .u8 0, .int .u8 0, .int .u8 10, .int .u8 0, .int .u8 0, .int .u8 1, .slice none 0 0] 43) := ⟨_, rfl⟩
  rw [← hr, ← hw6] at hBo
  have HBO := hide hBo
  have hr' := hr.symm
  have hw6' := hw6.symm
  clear hr hw6 hBo Z5 B5 b5 HC HF HCL HB4 B2 B3 Z2 Z3
  by_cases hlo : now < 0
  · go_wp2
    go_ret
    exact ⟨rfl, HBO.out.bel⟩
  by_cases hhi : 1099511627776 < now
  · go_wp2
    go_ret
    exact ⟨rfl, HBO.out.bel⟩
  have h0 : 0 ≤ now := by omega
  have h40 : now ≤ 1099511627776 := by omega
  go_wp2
  clear hr' hw6'
  obtain ⟨now0, hnow0⟩ : ∃ now0, now0 = now := ⟨_, rfl⟩
  have HNOW := hide (And.intro h0 h40)
  rw [← hnow0] at HNOW ⊢
  clear h0 h40 hlo hhi hn0 hn1 hnow0
  go_loopw [0, 8] (fun v0 v8 wr => ∃ (i : Nat) (t : Int) (ρ : Nat → Role) (L : List Nb), v0 = .int .i64 t ∧ v8 = .int .i64 (i : Int) ∧ i ≤ l.length ∧ Hid (0 ≤ t ∧ t ≤ 1099511627776 + 99 * i) ∧ Hid (Bo n w c r L ρ wr) ∧ Hid (LOk t L)) (fun _ v8 _ => l.length - (intOf v8).toNat)
  case atStart => exact ⟨0, now0, ρ2, [], rfl, rfl, by omega, ⟨HNOW.out.1, by have := HNOW.out.2; omega⟩, HBO.out, LOk.nil _⟩
  case round =>
    obtain ⟨i, t, ρ1, L, rfl, rfl, hi, HT, HB, HL⟩ := hrel
    by_cases hlt : i < l.length
    · have zi : (i : Int) < (l.length : Int) := by omega
      obtain ⟨o, ho⟩ : ∃ o, l[i]? = some o := ⟨_, List.getElem?_eq_getElem hlt⟩
      obtain ⟨og, off, rfl, hog, hcs⟩ := HOC.out (by omega)
      have co : Hid (∀ W, Below n w W → CellsAt W og (off + i * 25) o.cells) := fun W hb => (hcs i o ho).later (by have := HN.out; omega) (hb.mono (by have := HN.out; omega))
      have t62 : t ≤ 4611686018427387904 := by have := HT.out.2; omega
      have DO := hide (does_any HB.out.ca1 HB.out.ca2 HB.out.fit t HL.out HT.out.1 t62 o)
      obtain ⟨X, hX⟩ : ∃ X, X = o.cells := ⟨_, rfl⟩
      have CX : Hid (CellsAt wr og (off + i * 25) X) := by rw [hX]; exact co.out wr HB.out.bel
      have LX : Hid (X.length = 25) := by rw [hX]; exact (rfl : o.cells.length = 25)
      rw [← hX] at DO
      clear hX hcs ho hog
      go_wp2_with (refine wpList_loadA rfl 46 25 aggO sizO _ rfl og (off + i * 25) rfl X LX.out CX.out ?_)
      refine DO.out.mono ?_
      rintro _ w7 ⟨rfl, L', hL', hD⟩
      obtain ⟨ρ3, hB7⟩ := HB.out.step hD
      have HB7 := hide hB7
      have HL7 := hide hL'
      have AK := hide (alike_any hB7.ca1 hB7.ca2 hL')
      clear hD hB7 hL' DO CX LX HB HL
      go_wp2_with fail
      refine AK.out.mono ?_
      rintro _ w8 ⟨rfl, b8⟩
      have HB8 := hide (HB7.out.later b8)
      have cc : CellsAt w8 c 0 (hostM.vals ++ hostI.vals) := by
        obtain ⟨lv, Lt, _, hca⟩ := HB8.out.ca1
        exact hca.host
      have AN := hide (Announce_any c hostM hostI cc)
      simp only [Ar.val, Ar.vals, hostM, hostI, zM, M6.vals, I4.vals, List.cons_append, List.nil_append] at AN
      clear b8 AK HB7 cc
      go_wp2_with fail
      refine AN.out.mono ?_
      rintro _ w9 ⟨rfl, b9⟩
      have HB9 := hide (HB8.out.later b9)
      clear b9 AN HB8
      go_wp2_with fail
      refine (ip_any 1 _).mono ?_
      rintro _ w10 ⟨rfl, b10⟩
      have HB10 := hide (HB9.out.later b10)
      simp only [I4.val]
      clear b10 HB9
      go_wp2_with fail
      refine (ip_any 1 _).mono ?_
      rintro _ w11 ⟨rfl, b11⟩
      have HB11 := hide (HB10.out.later b11)
      simp only [I4.val]
      clear b11 HB10
      have xw : w11.cell? ⟨og, off + i * 25 + 24, none⟩ = some (.int .i64 o.wait) := co.out _ HB11.out.bel 24 _ rfl
      have EM := eq_mac
      have EI := eq_ip
      have m1 : eqM ⟨2, 0, 0, 0, 0, 0⟩ ⟨2, 0, 0, 0, 0, 0⟩ = true := eqM_self _
      have m2 : eqM ⟨0, 0, 0, 0, 0, 0⟩ ⟨0, 0, 0, 0, 0, 0⟩ = true := eqM_self _
      have m3 : eqI ⟨10, 0, 0, 1⟩ ⟨10, 0, 0, 1⟩ = true := eqI_self _
      by_cases hw : 0 < o.wait
      · obtain ⟨d, hd⟩ : ∃ d : Nat, o.wait.tmod 100 = (d : Int) ∧ d < 100 := ⟨(o.wait % 100).toNat, by rw [Int.tmod_eq_emod_of_nonneg (by omega)]; omega, by omega⟩
        obtain ⟨hd1, hd2⟩ := hd
        have t0 := HT.out.1
        have tb : t + (d : Int) ≤ 4611686018427387904 := by have := HT.out.2; omega
        have HD2 := hide hd2
        clear hd2
        go_wp2
        clear xw EM EI m1 m2 m3 hw hd1
        go_roundw
        case rel => exact ⟨i + 1, t + d, ρ3, L', rfl, val_int (by omega), by omega, ⟨by omega, by have := HT.out.2; have := HD2.out; omega⟩, HB11.out, HL7.out.later (by omega)⟩
        case measure => simp [intOf]; omega
      · go_wp2
        clear xw EM EI m1 m2 m3 hw
        go_roundw
        case rel => exact ⟨i + 1, t, ρ3, L', rfl, val_int (by omega), by omega, ⟨HT.out.1, by have := HT.out.2; omega⟩, HB11.out, HL7.out⟩
        case measure => simp [intOf]; omega
    · obtain rfl : i = l.length := by omega
      have F := hide HB.out.bel
      go_wp2
      go_ret
      exact ⟨rfl, F.out⟩
end Go.Proofs.Ytdcpnjlldocdcaa
