
/-
  sees: what both say of a frame on its way.
-/
import Derived.Test.YtghojbgjmpjhgaaX3
namespace Go.Proofs.Ytghojbgjmpjhgaa
open Go.RowKit

/-- where the bytes lie -/
theorem Gro.block {B : Nat} {W : World} {a : Option Addr} {n c : Nat} {bs : List Int} (h : Gro B W (.slice a n c) bs) (h0 : 0 < bs.length) :
    ∃ g, a = some ⟨g, 0, none⟩ ∧ B ≤ g ∧ (∀ j, j < bs.length → W.cell? ⟨g, j, none⟩ = some (.int .u8 (bs[j]?.getD 0))) ∧ ∀ j, W.frozen? ⟨g, j, none⟩ = false := by
  have h' := h
  obtain ⟨_, ⟨e, h1⟩ | ⟨g, cap, cur, e, hg, _⟩⟩ := h
  · omega
  · simp only [Value.slice.injEq] at e
    obtain ⟨rfl, rfl, rfl⟩ := e
    refine ⟨g, rfl, hg, fun j hj => ?_, fun j => World.ownsRow.frozenAt h' j⟩
    rw [World.ownsRow.cellAt h' j (by omega)]
    simp [hj]
theorem Gro.store {B : Nat} {W : World} {g n c : Nat} {bs : List Int} (h : Gro B W (.slice (some ⟨g, 0, none⟩) n c) bs) (hn : n = bs.length) (k : Nat) (x : Int) :
    Gro B (W.setCell ⟨g, k, none⟩ (.int .u8 x)) (.slice (some ⟨g, 0, none⟩) n c) (bs.set k x) := by
  subst hn
  have := (World.ownsRow.stored h k (.int .u8 x)).1
  unfold Gro
  rw [List.length_set, List.map_set]
  exact this

theorem Gro.keep' {B : Nat} {w w' : World} {v : Value} {bs : List Int} (h : Gro B w v bs) {K : Nat → Prop} (hb : But K w w') (hk : ∀ k, v.ownBlock = some k → ¬ K k) : Gro B w' v bs := row_keep h hb hk

/-- a struct's three cells, written anew -/
theorem T3.set {w : World} {s : Nat} {u0 u1 u2 : Value} (h : T3 w s u0 u1 u2) (v0 v1 v2 : Value) : T3 (((w.setCell ⟨s, 0, none⟩ v0).setCell ⟨s, 1, none⟩ v1).setCell ⟨s, 2, none⟩ v2) s v0 v1 v2 := by
  refine ⟨?_, ?_, ?_, ?_, ?_, ?_⟩
  · rw [cell_off (by omega), cell_off (by omega)]; exact World.cell?_setCell_same' _ _ _ (by rw [h.c0]; rfl)
  · rw [cell_off (by omega)]; exact World.cell?_setCell_same' _ _ _ (by rw [cell_off (by omega), h.c1]; rfl)
  · exact World.cell?_setCell_same' _ _ _ (by rw [cell_off (by omega), cell_off (by omega), h.c2]; rfl)
  · rw [World.frozen?_setCell, World.frozen?_setCell, World.frozen?_setCell]; exact h.f0
  · rw [World.frozen?_setCell, World.frozen?_setCell, World.frozen?_setCell]; exact h.f1
  · rw [World.frozen?_setCell, World.frozen?_setCell, World.frozen?_setCell]; exact h.f2
theorem T3.setB {w : World} {s : Nat} (v0 v1 v2 : Value) : But (Only s) w (((w.setCell ⟨s, 0, none⟩ v0).setCell ⟨s, 1, none⟩ v1).setCell ⟨s, 2, none⟩ v2) :=
  (((But.refl (Only s) w).setCell (p := ⟨s, 0, none⟩) (.inr rfl) v0).setCell (p := ⟨s, 1, none⟩) (.inr rfl) v1).setCell (p := ⟨s, 2, none⟩) (.inr rfl) v2

/-- while what was told is counted up -/
structure Sn (w : World) (s : Nat) (fa : Option Addr) (n c : Nat) (wr : World) (xs : List Int) : Prop where
  a0 : wr.cell? ⟨s, 0, none⟩ = some (.slice fa n c)
  g : Gro w.heap.size wr (.slice fa n c) xs
  l : xs.length = n
  ne : ∀ k, (Value.slice fa n c).ownBlock = some k → k ≠ s
  bel : Below w.heap.size w wr
theorem Sn.drew {w : World} {s : Nat} {fa : Option Addr} {n c : Nat} {wr : World} {xs : List Int} (h : Sn w s fa n c wr xs) : Sn w s fa n c wr.drew xs :=
  ⟨h.a0, h.g.but (K := fun _ => False) (But.refl _ _).drew (fun _ e => e.elim), h.l, h.ne, h.bel.trans (But.below (K := fun _ => False) (But.refl _ _).drew h.bel.size (fun _ _ => id))⟩
theorem Sn.put {w : World} {s kh n c : Nat} {wr : World} {xs : List Int} (h : Sn w s (some ⟨kh, 0, none⟩) n c wr xs) (hk : w.heap.size ≤ kh) (i : Nat) (y : Int) : Sn w s (some ⟨kh, 0, none⟩) n c (wr.setCell ⟨kh, i, none⟩ (.int .u8 y)) (xs.set i y) := by
  have hb := (But.refl (Only kh) wr).setCell (p := ⟨kh, i, none⟩) (.inr rfl) (.int .u8 y)
  have n1 := h.ne kh rfl
  have l1 : s < wr.heap.size := World.block_lt_of_cell? wr _ h.a0
  exact ⟨(hb.cell (p := ⟨s, 0, none⟩) l1 (fun e => n1 (Eq.symm e))).trans h.a0, h.g.store h.l.symm i y, by rw [List.length_set]; exact h.l, h.ne, h.bel.trans (hb.below h.bel.size (fun x hx e => by have e : x = kh := e; omega))⟩

section
variable {P : Pl} {ρ : Nat → Nat} {w : World} {ck : Int} {L R : Nat → List (Value × Frm)} {D : Nat → Dev} {T F : Nat → Nat} {m : Nat}
theorem look_len (h : Net ρ w P.b P.dv ck L D) (d k : Int) : (look L d k).bs.length ≤ 274 := by
  by_cases e0 : thE (lens L) d k = 0
  · obtain ⟨i, j, p, rfl, rfl, hi, hp⟩ := thE_get e0
    rw [(look_yes hi hp).2]; exact h.fl i hi p (List.mem_of_getElem? hp)
  · rw [look_no e0]; simp

set_option maxRecDepth 100000 in
set_option maxHeartbeats 4000000 in
theorem sees_any (h : Rig P ρ w ck L R D T F m) (d k : Int) :
    Calls Try.prog 32 #[.pointer (some ⟨P.x, 0, none⟩), .int .i64 d, .int .i64 k] w fun e w' => e = .returned (.bool true) ∧ Below w.heap.size w w' := by
  have X := See_any h.n d k
  have hle := look_len h.n d k
  have cw := h.c.cw
  have hxl := h.c.lt
  have H := hide h
  clear h
  obtain ⟨⟨bs, bad, tick⟩, hf⟩ : ∃ f, f = look L d k := ⟨_, rfl⟩
  rw [← hf] at X hle
  simp only at X hle
  have HF := hide hf
  obtain ⟨n, hn⟩ : ∃ n, n = bs.length := ⟨_, rfl⟩
  rw [← hn] at X hle
  have HN := hide hn
  clear hf hn
  have HX := hide X
  have z1 : (n : Int) ≤ 274 := by omega
  clear X

  cases hd : isDir d with
  | false =>
    have hd0 : ¬ (0 ≤ d ∧ d < 2) := by unfold isDir at hd; simpa using hd
    have q0 : (d == 0) = false := by simp; omega
    have q1 : (d == 1) = false := by simp; omega
    have e0 : thE (lens L) d k = 1 := thE_one hd
    have hz := look_no (L := L) (d := d) (k := k) (by rw [e0]; omega)
    rw [← HF.out] at hz
    simp only [Frm.mk.injEq] at hz
    obtain ⟨hz0, rfl, rfl⟩ := hz
    have EZ := hide hz0
    rw [e0] at HX
    clear hd hd0 e0 hz0

    go_enter Try.func32, Try.ntmps32
    go_wp2_with fail
    refine HX.out.mono ?_
    rintro e w1 ⟨fa, c, rfl, hG, hB⟩
    obtain ⟨s, hs⟩ : ∃ s, s = w1.heap.size := ⟨_, rfl⟩
    have b2 : Below w1.heap.size w1 (w1.alloc (.cells #[.slice fa n c, .bool false, .int .i64 0] 48)) := (Below.refl _ _).alloc (Nat.le_refl _) _
    have b3 : Below w1.heap.size w1 ((w1.alloc (.cells #[.slice fa n c, .bool false, .int .i64 0] 48)).alloc (.cells #[.slice none 0 0, .bool false, .int .i64 0] 48)) := b2.alloc b2.size _
    have ta := (T3.new w1 (.slice fa n c) (.bool false) (.int .i64 0) 48).al (.cells #[.slice none 0 0, .bool false, .int .i64 0] 48)
    have tb := T3.new (w1.alloc (.cells #[.slice fa n c, .bool false, .int .i64 0] 48)) (.slice none 0 0) (.bool false) (.int .i64 0) 48
    rw [World.size_alloc, ← hs] at tb
    rw [← hs] at ta
    have NE : Hid (∀ k, (Value.slice fa n c).ownBlock = some k → k ≠ s) := fun k e => by have := (hG.blk k e).2; omega
    have NE2 : Hid (∀ k, (Value.slice fa n c).ownBlock = some k → k ≠ s + 1) := fun k e => by have := (hG.blk k e).2; omega
    have g3 := hG.but (K := fun _ => False) (But.of_below b3) (fun _ e => e.elim)
    have BE3 := hide (hB.trans (b3.mono hB.size))
    have SZ : Hid (w.heap.size ≤ s) := by rw [hs]; exact hB.size
    have TA := hide ta
    have TB := hide tb
    have G3 := hide g3
    have CV := hide ((BE3.out.cell (p := ⟨P.x, 5, none⟩) hxl).trans H.out.c.cv)
    have hs' := hs
    clear hs hG hB b2 b3 ta tb g3 HX cw
    go_upto_region 4 with fail
    rw [← hs']
    clear hs'
    generalize (w1.alloc (.cells #[.slice fa n c, .bool false, .int .i64 0] 48)).alloc (.cells #[.slice none 0 0, .bool false, .int .i64 0] 48) = w3 at *

    have A5 := hide TA.out
    have B5 := hide TB.out
    have G5 := hide G3.out
    have BE := hide BE3.out
    obtain ⟨w5, hw5⟩ : ∃ w5 : World, w5 = w3 := ⟨_, rfl⟩
    subst hw5
    have x2 : (convert 27 9 (.slice none 0 0)).run Try.prog w5 = .ok (.string (strB bs)) w5 := by rw [EZ.out]; exact conv_str (IsF.nil (fun _ => False) w5)

    have x1 := conv_str (G5.out.isF (A := fun _ => False) (fun _ _ => id))
    have c0 := A5.out.c0
    have c1 := A5.out.c1
    have c2 := A5.out.c2
    have d0 := B5.out.c0
    have d1 := B5.out.c1
    have d2 := B5.out.c2
    have SN : Hid (Sn w s fa n c w5 bs) := ⟨c0, G5.out, HN.out.symm, NE.out, BE.out⟩
    generalize strB bs = sx at *
    go_wp2
    clear x1 x2 c0 c1 c2 d0 d1 d2
    go_loopw [12] (fun v12 wr => ∃ (i : Nat) (xs : List Int), v12 = .int .i64 (i : Int) ∧ i ≤ n ∧ Hid (Sn w s fa n c wr xs)) (fun v12 _ => n - (intOf v12).toNat)
    case atStart => exact ⟨0, bs, rfl, Nat.zero_le _, SN.out⟩
    case round =>
      obtain ⟨i, xs, rfl, hi, hS⟩ := hrel
      have q1 := hS.out.a0
      by_cases hil : i < n
      · obtain ⟨kh, rfl, hkh, hcc, hff⟩ := hS.out.g.block (by rw [hS.out.l]; omega)
        have c5 := hcc i (by rw [hS.out.l]; exact hil)
        have f5 := hff i
        have z5 : (i : Int) < n := by omega
        clear hcc hff
        obtain ⟨z, ez⟩ : ∃ z, xs[i]?.getD 0 = z := ⟨_, rfl⟩
        rw [ez] at c5
        clear ez
        go_wp2
        go_region
        go_wp2
        go_roundw
        case rel => exact ⟨i + 1, xs.set i ((z + 1) % 256), by go_num, by omega, (hS.out.put hkh i _).drew⟩
        case measure => simp [intOf]; omega
      · obtain rfl : i = n := by omega
        go_wp2
        go_ret
        exact ⟨rfl, hS.out.bel⟩

  | true =>
    obtain ⟨i, rfl, hi⟩ := isDir_nat hd
    have q0 : ((i : Int) == 0) = true ∨ ((i : Int) == 0) = false ∧ ((i : Int) == 1) = true := by
      have : i = 0 ∨ i = 1 := by omega
      rcases this with rfl | rfl
      · left; rfl
      · right; exact ⟨rfl, rfl⟩
    have hi2 : (i : Int) < 2 := by omega
    have hi0 : (0 : Int) ≤ (i : Int) := by omega
    obtain ⟨v, hv, hL⟩ := H.out.r.ls i hi
    have hlr : (R i).length = (L i).length := by have := congrFun H.out.rlens i; unfold lens at this; exact this
    have cvl := H.out.r.blt
    clear hd
    by_cases hk : 0 ≤ k ∧ k < ((L i).length : Int)
    · obtain ⟨j, rfl⟩ : ∃ j : Nat, k = (j : Int) := ⟨k.toNat, by omega⟩
      have e0 : thE (lens L) (i : Int) (j : Int) = 0 := thE_yes hi (by unfold lens; exact hk)
      obtain ⟨p, hp⟩ : ∃ p, (R i)[j]? = some p := ⟨_, List.getElem?_eq_getElem (by omega)⟩
      have hz := (look_yes hi hp).2
      rw [look_ab, ← H.out.e, ← look_ab, ← HF.out] at hz
      have hfr := hL.fr p (List.mem_of_getElem? hp)
      obtain ⟨g, cl, rfl, hgr, hg, c0, c1, c2, _⟩ := hL.at hp
      obtain ⟨pv, pf⟩ := p
      simp only at hz hfr c0 c1 c2
      subst hz
      simp only at hfr c1 c2
      obtain ⟨ra, rc, rfl, _, _⟩ := hfr.shape
      rw [← HN.out] at c0
      rw [e0] at HX
      have hjl : (j : Int) < (R i).length := by omega
      have hj0 : (0 : Int) ≤ (j : Int) := by omega
      have HFR := hide hfr
      have HV := hide (And.intro hv (And.intro c0 (And.intro c1 c2)))
      clear hL hp hfr hk e0 hv c0 c1 c2
      rcases q0 with q | ⟨q, q'⟩
      · go_enter Try.func32, Try.ntmps32
        go_wp2_with fail
        refine HX.out.mono ?_
        rintro e w1 ⟨fa, c, rfl, hG, hB⟩
        obtain ⟨s, hs⟩ : ∃ s, s = w1.heap.size := ⟨_, rfl⟩
        have b2 : Below w1.heap.size w1 (w1.alloc (.cells #[.slice fa n c, .bool bad, .int .i64 tick] 48)) := (Below.refl _ _).alloc (Nat.le_refl _) _
        have b3 : Below w1.heap.size w1 ((w1.alloc (.cells #[.slice fa n c, .bool bad, .int .i64 tick] 48)).alloc (.cells #[.slice none 0 0, .bool false, .int .i64 0] 48)) := b2.alloc b2.size _
        have ta := (T3.new w1 (.slice fa n c) (.bool bad) (.int .i64 tick) 48).al (.cells #[.slice none 0 0, .bool false, .int .i64 0] 48)
        have tb := T3.new (w1.alloc (.cells #[.slice fa n c, .bool bad, .int .i64 tick] 48)) (.slice none 0 0) (.bool false) (.int .i64 0) 48
        rw [World.size_alloc, ← hs] at tb
        rw [← hs] at ta
        have NE : Hid (∀ k, (Value.slice fa n c).ownBlock = some k → k ≠ s) := fun k e => by have := (hG.blk k e).2; omega
        have NE2 : Hid (∀ k, (Value.slice fa n c).ownBlock = some k → k ≠ s + 1) := fun k e => by have := (hG.blk k e).2; omega
        have g3 := hG.but (K := fun _ => False) (But.of_below b3) (fun _ e => e.elim)
        have BE3 := hide (hB.trans (b3.mono hB.size))
        have SZ : Hid (w.heap.size ≤ s) := by rw [hs]; exact hB.size
        have TA := hide ta
        have TB := hide tb
        have G3 := hide g3
        have CV := hide ((BE3.out.cell (p := ⟨P.x, 5, none⟩) hxl).trans H.out.c.cv)
        have hs' := hs
        clear hs hG hB b2 b3 ta tb g3 HX cw
        go_upto_region 4 with fail
        rw [← hs']
        clear hs'
        generalize (w1.alloc (.cells #[.slice fa n c, .bool bad, .int .i64 tick] 48)).alloc (.cells #[.slice none 0 0, .bool false, .int .i64 0] 48) = w3 at *

        have cv := CV.out
        have hv := (BE3.out.cell (p := ⟨P.rb, 2 + i, none⟩) cvl).trans HV.out.1
        have c0 := (BE3.out.cell (p := ⟨g, j * 3, none⟩) hg).trans HV.out.2.1
        have c1 := (BE3.out.cell (p := ⟨g, j * 3 + 1, none⟩) hg).trans HV.out.2.2.1
        have c2 := (BE3.out.cell (p := ⟨g, j * 3 + 2, none⟩) hg).trans HV.out.2.2.2
        obtain ⟨b0, b1, b2, y0, y1, y2⟩ := TB.out
        go_upto_region 8 with fail
        clear cv hv c0 c1 c2 b0 b1 b2 y0 y1 y2
        have A5 := hide (TA.out.but (T3.setB (w := w3) (s := s + 1) (.slice ra n rc) (.bool bad) (.int .i64 tick)) (fun e => by have e : s = s + 1 := e; omega))
        have B5 := hide (TB.out.set (.slice ra n rc) (.bool bad) (.int .i64 tick))
        have G5 := hide (Gro.keep' G3.out (T3.setB (w := w3) (s := s + 1) (.slice ra n rc) (.bool bad) (.int .i64 tick)) (fun k e1 e2 => NE2.out k e1 e2))
        have BE := hide (BE3.out.trans ((T3.setB (w := w3) (s := s + 1) (.slice ra n rc) (.bool bad) (.int .i64 tick)).below BE3.out.size (fun x hx e => by have e : x = s + 1 := e; have := SZ.out; omega)))
        have x2 := conv_str (HFR.out.ext (K := fun _ => False) (But.of_below BE.out) (fun _ e => e.elim) (fun _ _ => (rfl : ρ _ = ρ _)))
        rw [HN.out.symm] at x2
        generalize ((w3.setCell ⟨s + 1, 0, none⟩ (.slice ra n rc)).setCell ⟨s + 1, 1, none⟩ (.bool bad)).setCell ⟨s + 1, 2, none⟩ (.int .i64 tick) = w5 at *

        have x1 := conv_str (G5.out.isF (A := fun _ => False) (fun _ _ => id))
        have c0 := A5.out.c0
        have c1 := A5.out.c1
        have c2 := A5.out.c2
        have d0 := B5.out.c0
        have d1 := B5.out.c1
        have d2 := B5.out.c2
        have SN : Hid (Sn w s fa n c w5 bs) := ⟨c0, G5.out, HN.out.symm, NE.out, BE.out⟩
        generalize strB bs = sx at *
        go_wp2
        clear x1 x2 c0 c1 c2 d0 d1 d2
        go_loopw [12] (fun v12 wr => ∃ (i : Nat) (xs : List Int), v12 = .int .i64 (i : Int) ∧ i ≤ n ∧ Hid (Sn w s fa n c wr xs)) (fun v12 _ => n - (intOf v12).toNat)
        case atStart => exact ⟨0, bs, rfl, Nat.zero_le _, SN.out⟩
        case round =>
          obtain ⟨i, xs, rfl, hi, hS⟩ := hrel
          have q1 := hS.out.a0
          by_cases hil : i < n
          · obtain ⟨kh, rfl, hkh, hcc, hff⟩ := hS.out.g.block (by rw [hS.out.l]; omega)
            have c5 := hcc i (by rw [hS.out.l]; exact hil)
            have f5 := hff i
            have z5 : (i : Int) < n := by omega
            clear hcc hff
            obtain ⟨z, ez⟩ : ∃ z, xs[i]?.getD 0 = z := ⟨_, rfl⟩
            rw [ez] at c5
            clear ez
            go_wp2
            go_region
            go_wp2
            go_roundw
            case rel => exact ⟨i + 1, xs.set i ((z + 1) % 256), by go_num, by omega, (hS.out.put hkh i _).drew⟩
            case measure => simp [intOf]; omega
          · obtain rfl : i = n := by omega
            go_wp2
            go_ret
            exact ⟨rfl, hS.out.bel⟩
      · go_enter Try.func32, Try.ntmps32
        go_wp2_with fail
        refine HX.out.mono ?_
        rintro e w1 ⟨fa, c, rfl, hG, hB⟩
        obtain ⟨s, hs⟩ : ∃ s, s = w1.heap.size := ⟨_, rfl⟩
        have b2 : Below w1.heap.size w1 (w1.alloc (.cells #[.slice fa n c, .bool bad, .int .i64 tick] 48)) := (Below.refl _ _).alloc (Nat.le_refl _) _
        have b3 : Below w1.heap.size w1 ((w1.alloc (.cells #[.slice fa n c, .bool bad, .int .i64 tick] 48)).alloc (.cells #[.slice none 0 0, .bool false, .int .i64 0] 48)) := b2.alloc b2.size _
        have ta := (T3.new w1 (.slice fa n c) (.bool bad) (.int .i64 tick) 48).al (.cells #[.slice none 0 0, .bool false, .int .i64 0] 48)
        have tb := T3.new (w1.alloc (.cells #[.slice fa n c, .bool bad, .int .i64 tick] 48)) (.slice none 0 0) (.bool false) (.int .i64 0) 48
        rw [World.size_alloc, ← hs] at tb
        rw [← hs] at ta
        have NE : Hid (∀ k, (Value.slice fa n c).ownBlock = some k → k ≠ s) := fun k e => by have := (hG.blk k e).2; omega
        have NE2 : Hid (∀ k, (Value.slice fa n c).ownBlock = some k → k ≠ s + 1) := fun k e => by have := (hG.blk k e).2; omega
        have g3 := hG.but (K := fun _ => False) (But.of_below b3) (fun _ e => e.elim)
        have BE3 := hide (hB.trans (b3.mono hB.size))
        have SZ : Hid (w.heap.size ≤ s) := by rw [hs]; exact hB.size
        have TA := hide ta
        have TB := hide tb
        have G3 := hide g3
        have CV := hide ((BE3.out.cell (p := ⟨P.x, 5, none⟩) hxl).trans H.out.c.cv)
        have hs' := hs
        clear hs hG hB b2 b3 ta tb g3 HX cw
        go_upto_region 4 with fail
        rw [← hs']
        clear hs'
        generalize (w1.alloc (.cells #[.slice fa n c, .bool bad, .int .i64 tick] 48)).alloc (.cells #[.slice none 0 0, .bool false, .int .i64 0] 48) = w3 at *

        have cv := CV.out
        have hv := (BE3.out.cell (p := ⟨P.rb, 2 + i, none⟩) cvl).trans HV.out.1
        have c0 := (BE3.out.cell (p := ⟨g, j * 3, none⟩) hg).trans HV.out.2.1
        have c1 := (BE3.out.cell (p := ⟨g, j * 3 + 1, none⟩) hg).trans HV.out.2.2.1
        have c2 := (BE3.out.cell (p := ⟨g, j * 3 + 2, none⟩) hg).trans HV.out.2.2.2
        obtain ⟨b0, b1, b2, y0, y1, y2⟩ := TB.out
        go_upto_region 8 with fail
        clear cv hv c0 c1 c2 b0 b1 b2 y0 y1 y2
        have A5 := hide (TA.out.but (T3.setB (w := w3) (s := s + 1) (.slice ra n rc) (.bool bad) (.int .i64 tick)) (fun e => by have e : s = s + 1 := e; omega))
        have B5 := hide (TB.out.set (.slice ra n rc) (.bool bad) (.int .i64 tick))
        have G5 := hide (Gro.keep' G3.out (T3.setB (w := w3) (s := s + 1) (.slice ra n rc) (.bool bad) (.int .i64 tick)) (fun k e1 e2 => NE2.out k e1 e2))
        have BE := hide (BE3.out.trans ((T3.setB (w := w3) (s := s + 1) (.slice ra n rc) (.bool bad) (.int .i64 tick)).below BE3.out.size (fun x hx e => by have e : x = s + 1 := e; have := SZ.out; omega)))
        have x2 := conv_str (HFR.out.ext (K := fun _ => False) (But.of_below BE.out) (fun _ e => e.elim) (fun _ _ => (rfl : ρ _ = ρ _)))
        rw [HN.out.symm] at x2
        generalize ((w3.setCell ⟨s + 1, 0, none⟩ (.slice ra n rc)).setCell ⟨s + 1, 1, none⟩ (.bool bad)).setCell ⟨s + 1, 2, none⟩ (.int .i64 tick) = w5 at *

        have x1 := conv_str (G5.out.isF (A := fun _ => False) (fun _ _ => id))
        have c0 := A5.out.c0
        have c1 := A5.out.c1
        have c2 := A5.out.c2
        have d0 := B5.out.c0
        have d1 := B5.out.c1
        have d2 := B5.out.c2
        have SN : Hid (Sn w s fa n c w5 bs) := ⟨c0, G5.out, HN.out.symm, NE.out, BE.out⟩
        generalize strB bs = sx at *
        go_wp2
        clear x1 x2 c0 c1 c2 d0 d1 d2
        go_loopw [12] (fun v12 wr => ∃ (i : Nat) (xs : List Int), v12 = .int .i64 (i : Int) ∧ i ≤ n ∧ Hid (Sn w s fa n c wr xs)) (fun v12 _ => n - (intOf v12).toNat)
        case atStart => exact ⟨0, bs, rfl, Nat.zero_le _, SN.out⟩
        case round =>
          obtain ⟨i, xs, rfl, hi, hS⟩ := hrel
          have q1 := hS.out.a0
          by_cases hil : i < n
          · obtain ⟨kh, rfl, hkh, hcc, hff⟩ := hS.out.g.block (by rw [hS.out.l]; omega)
            have c5 := hcc i (by rw [hS.out.l]; exact hil)
            have f5 := hff i
            have z5 : (i : Int) < n := by omega
            clear hcc hff
            obtain ⟨z, ez⟩ : ∃ z, xs[i]?.getD 0 = z := ⟨_, rfl⟩
            rw [ez] at c5
            clear ez
            go_wp2
            go_region
            go_wp2
            go_roundw
            case rel => exact ⟨i + 1, xs.set i ((z + 1) % 256), by go_num, by omega, (hS.out.put hkh i _).drew⟩
            case measure => simp [intOf]; omega
          · obtain rfl : i = n := by omega
            go_wp2
            go_ret
            exact ⟨rfl, hS.out.bel⟩

    · have e0 : thE (lens L) (i : Int) k = 7 := thE_no hi (by unfold lens; exact hk)
      have hz := look_no (L := L) (d := (i : Int)) (k := k) (by rw [e0]; omega)
      rw [← HF.out] at hz
      simp only [Frm.mk.injEq] at hz
      obtain ⟨hz0, rfl, rfl⟩ := hz
      have EZ := hide hz0
      rw [e0] at HX
      obtain ⟨ra, rc, rfl⟩ := hL.row.shape
      have HV := hide hv
      have kq : k < 0 ∨ ((0 : Int) ≤ k ∧ ((R i).length : Int) ≤ k) := by omega
      clear hL hk e0 hz0 hv
      rcases q0 with q | ⟨q, q'⟩
      all_goals rcases kq with kq | ⟨kq, kq'⟩
      · go_enter Try.func32, Try.ntmps32
        go_wp2_with fail
        refine HX.out.mono ?_
        rintro e w1 ⟨fa, c, rfl, hG, hB⟩
        obtain ⟨s, hs⟩ : ∃ s, s = w1.heap.size := ⟨_, rfl⟩
        have b2 : Below w1.heap.size w1 (w1.alloc (.cells #[.slice fa n c, .bool false, .int .i64 0] 48)) := (Below.refl _ _).alloc (Nat.le_refl _) _
        have b3 : Below w1.heap.size w1 ((w1.alloc (.cells #[.slice fa n c, .bool false, .int .i64 0] 48)).alloc (.cells #[.slice none 0 0, .bool false, .int .i64 0] 48)) := b2.alloc b2.size _
        have ta := (T3.new w1 (.slice fa n c) (.bool false) (.int .i64 0) 48).al (.cells #[.slice none 0 0, .bool false, .int .i64 0] 48)
        have tb := T3.new (w1.alloc (.cells #[.slice fa n c, .bool false, .int .i64 0] 48)) (.slice none 0 0) (.bool false) (.int .i64 0) 48
        rw [World.size_alloc, ← hs] at tb
        rw [← hs] at ta
        have NE : Hid (∀ k, (Value.slice fa n c).ownBlock = some k → k ≠ s) := fun k e => by have := (hG.blk k e).2; omega
        have NE2 : Hid (∀ k, (Value.slice fa n c).ownBlock = some k → k ≠ s + 1) := fun k e => by have := (hG.blk k e).2; omega
        have g3 := hG.but (K := fun _ => False) (But.of_below b3) (fun _ e => e.elim)
        have BE3 := hide (hB.trans (b3.mono hB.size))
        have SZ : Hid (w.heap.size ≤ s) := by rw [hs]; exact hB.size
        have TA := hide ta
        have TB := hide tb
        have G3 := hide g3
        have CV := hide ((BE3.out.cell (p := ⟨P.x, 5, none⟩) hxl).trans H.out.c.cv)
        have hs' := hs
        clear hs hG hB b2 b3 ta tb g3 HX cw
        go_upto_region 4 with fail
        rw [← hs']
        clear hs'
        generalize (w1.alloc (.cells #[.slice fa n c, .bool false, .int .i64 0] 48)).alloc (.cells #[.slice none 0 0, .bool false, .int .i64 0] 48) = w3 at *

        have cv := CV.out
        have hv := (BE3.out.cell (p := ⟨P.rb, 2 + i, none⟩) cvl).trans HV.out
        go_upto_region 9 with fail
        clear cv hv

        have A5 := hide TA.out
        have B5 := hide TB.out
        have G5 := hide G3.out
        have BE := hide BE3.out
        obtain ⟨w5, hw5⟩ : ∃ w5 : World, w5 = w3 := ⟨_, rfl⟩
        subst hw5
        have x2 : (convert 27 9 (.slice none 0 0)).run Try.prog w5 = .ok (.string (strB bs)) w5 := by rw [EZ.out]; exact conv_str (IsF.nil (fun _ => False) w5)

        have x1 := conv_str (G5.out.isF (A := fun _ => False) (fun _ _ => id))
        have c0 := A5.out.c0
        have c1 := A5.out.c1
        have c2 := A5.out.c2
        have d0 := B5.out.c0
        have d1 := B5.out.c1
        have d2 := B5.out.c2
        have SN : Hid (Sn w s fa n c w5 bs) := ⟨c0, G5.out, HN.out.symm, NE.out, BE.out⟩
        generalize strB bs = sx at *
        go_wp2
        clear x1 x2 c0 c1 c2 d0 d1 d2
        go_loopw [12] (fun v12 wr => ∃ (i : Nat) (xs : List Int), v12 = .int .i64 (i : Int) ∧ i ≤ n ∧ Hid (Sn w s fa n c wr xs)) (fun v12 _ => n - (intOf v12).toNat)
        case atStart => exact ⟨0, bs, rfl, Nat.zero_le _, SN.out⟩
        case round =>
          obtain ⟨i, xs, rfl, hi, hS⟩ := hrel
          have q1 := hS.out.a0
          by_cases hil : i < n
          · obtain ⟨kh, rfl, hkh, hcc, hff⟩ := hS.out.g.block (by rw [hS.out.l]; omega)
            have c5 := hcc i (by rw [hS.out.l]; exact hil)
            have f5 := hff i
            have z5 : (i : Int) < n := by omega
            clear hcc hff
            obtain ⟨z, ez⟩ : ∃ z, xs[i]?.getD 0 = z := ⟨_, rfl⟩
            rw [ez] at c5
            clear ez
            go_wp2
            go_region
            go_wp2
            go_roundw
            case rel => exact ⟨i + 1, xs.set i ((z + 1) % 256), by go_num, by omega, (hS.out.put hkh i _).drew⟩
            case measure => simp [intOf]; omega
          · obtain rfl : i = n := by omega
            go_wp2
            go_ret
            exact ⟨rfl, hS.out.bel⟩
      · go_enter Try.func32, Try.ntmps32
        go_wp2_with fail
        refine HX.out.mono ?_
        rintro e w1 ⟨fa, c, rfl, hG, hB⟩
        obtain ⟨s, hs⟩ : ∃ s, s = w1.heap.size := ⟨_, rfl⟩
        have b2 : Below w1.heap.size w1 (w1.alloc (.cells #[.slice fa n c, .bool false, .int .i64 0] 48)) := (Below.refl _ _).alloc (Nat.le_refl _) _
        have b3 : Below w1.heap.size w1 ((w1.alloc (.cells #[.slice fa n c, .bool false, .int .i64 0] 48)).alloc (.cells #[.slice none 0 0, .bool false, .int .i64 0] 48)) := b2.alloc b2.size _
        have ta := (T3.new w1 (.slice fa n c) (.bool false) (.int .i64 0) 48).al (.cells #[.slice none 0 0, .bool false, .int .i64 0] 48)
        have tb := T3.new (w1.alloc (.cells #[.slice fa n c, .bool false, .int .i64 0] 48)) (.slice none 0 0) (.bool false) (.int .i64 0) 48
        rw [World.size_alloc, ← hs] at tb
        rw [← hs] at ta
        have NE : Hid (∀ k, (Value.slice fa n c).ownBlock = some k → k ≠ s) := fun k e => by have := (hG.blk k e).2; omega
        have NE2 : Hid (∀ k, (Value.slice fa n c).ownBlock = some k → k ≠ s + 1) := fun k e => by have := (hG.blk k e).2; omega
        have g3 := hG.but (K := fun _ => False) (But.of_below b3) (fun _ e => e.elim)
        have BE3 := hide (hB.trans (b3.mono hB.size))
        have SZ : Hid (w.heap.size ≤ s) := by rw [hs]; exact hB.size
        have TA := hide ta
        have TB := hide tb
        have G3 := hide g3
        have CV := hide ((BE3.out.cell (p := ⟨P.x, 5, none⟩) hxl).trans H.out.c.cv)
        have hs' := hs
        clear hs hG hB b2 b3 ta tb g3 HX cw
        go_upto_region 4 with fail
        rw [← hs']
        clear hs'
        generalize (w1.alloc (.cells #[.slice fa n c, .bool false, .int .i64 0] 48)).alloc (.cells #[.slice none 0 0, .bool false, .int .i64 0] 48) = w3 at *

        have cv := CV.out
        have hv := (BE3.out.cell (p := ⟨P.rb, 2 + i, none⟩) cvl).trans HV.out
        go_upto_region 9 with fail
        clear cv hv

        have A5 := hide TA.out
        have B5 := hide TB.out
        have G5 := hide G3.out
        have BE := hide BE3.out
        obtain ⟨w5, hw5⟩ : ∃ w5 : World, w5 = w3 := ⟨_, rfl⟩
        subst hw5
        have x2 : (convert 27 9 (.slice none 0 0)).run Try.prog w5 = .ok (.string (strB bs)) w5 := by rw [EZ.out]; exact conv_str (IsF.nil (fun _ => False) w5)

        have x1 := conv_str (G5.out.isF (A := fun _ => False) (fun _ _ => id))
        have c0 := A5.out.c0
        have c1 := A5.out.c1
        have c2 := A5.out.c2
        have d0 := B5.out.c0
        have d1 := B5.out.c1
        have d2 := B5.out.c2
        have SN : Hid (Sn w s fa n c w5 bs) := ⟨c0, G5.out, HN.out.symm, NE.out, BE.out⟩
        generalize strB bs = sx at *
        go_wp2
        clear x1 x2 c0 c1 c2 d0 d1 d2
        go_loopw [12] (fun v12 wr => ∃ (i : Nat) (xs : List Int), v12 = .int .i64 (i : Int) ∧ i ≤ n ∧ Hid (Sn w s fa n c wr xs)) (fun v12 _ => n - (intOf v12).toNat)
        case atStart => exact ⟨0, bs, rfl, Nat.zero_le _, SN.out⟩
        case round =>
          obtain ⟨i, xs, rfl, hi, hS⟩ := hrel
          have q1 := hS.out.a0
          by_cases hil : i < n
          · obtain ⟨kh, rfl, hkh, hcc, hff⟩ := hS.out.g.block (by rw [hS.out.l]; omega)
            have c5 := hcc i (by rw [hS.out.l]; exact hil)
            have f5 := hff i
            have z5 : (i : Int) < n := by omega
            clear hcc hff
            obtain ⟨z, ez⟩ : ∃ z, xs[i]?.getD 0 = z := ⟨_, rfl⟩
            rw [ez] at c5
            clear ez
            go_wp2
            go_region
            go_wp2
            go_roundw
            case rel => exact ⟨i + 1, xs.set i ((z + 1) % 256), by go_num, by omega, (hS.out.put hkh i _).drew⟩
            case measure => simp [intOf]; omega
          · obtain rfl : i = n := by omega
            go_wp2
            go_ret
            exact ⟨rfl, hS.out.bel⟩
      · go_enter Try.func32, Try.ntmps32
        go_wp2_with fail
        refine HX.out.mono ?_
        rintro e w1 ⟨fa, c, rfl, hG, hB⟩
        obtain ⟨s, hs⟩ : ∃ s, s = w1.heap.size := ⟨_, rfl⟩
        have b2 : Below w1.heap.size w1 (w1.alloc (.cells #[.slice fa n c, .bool false, .int .i64 0] 48)) := (Below.refl _ _).alloc (Nat.le_refl _) _
        have b3 : Below w1.heap.size w1 ((w1.alloc (.cells #[.slice fa n c, .bool false, .int .i64 0] 48)).alloc (.cells #[.slice none 0 0, .bool false, .int .i64 0] 48)) := b2.alloc b2.size _
        have ta := (T3.new w1 (.slice fa n c) (.bool false) (.int .i64 0) 48).al (.cells #[.slice none 0 0, .bool false, .int .i64 0] 48)
        have tb := T3.new (w1.alloc (.cells #[.slice fa n c, .bool false, .int .i64 0] 48)) (.slice none 0 0) (.bool false) (.int .i64 0) 48
        rw [World.size_alloc, ← hs] at tb
        rw [← hs] at ta
        have NE : Hid (∀ k, (Value.slice fa n c).ownBlock = some k → k ≠ s) := fun k e => by have := (hG.blk k e).2; omega
        have NE2 : Hid (∀ k, (Value.slice fa n c).ownBlock = some k → k ≠ s + 1) := fun k e => by have := (hG.blk k e).2; omega
        have g3 := hG.but (K := fun _ => False) (But.of_below b3) (fun _ e => e.elim)
        have BE3 := hide (hB.trans (b3.mono hB.size))
        have SZ : Hid (w.heap.size ≤ s) := by rw [hs]; exact hB.size
        have TA := hide ta
        have TB := hide tb
        have G3 := hide g3
        have CV := hide ((BE3.out.cell (p := ⟨P.x, 5, none⟩) hxl).trans H.out.c.cv)
        have hs' := hs
        clear hs hG hB b2 b3 ta tb g3 HX cw
        go_upto_region 4 with fail
        rw [← hs']
        clear hs'
        generalize (w1.alloc (.cells #[.slice fa n c, .bool false, .int .i64 0] 48)).alloc (.cells #[.slice none 0 0, .bool false, .int .i64 0] 48) = w3 at *

        have cv := CV.out
        have hv := (BE3.out.cell (p := ⟨P.rb, 2 + i, none⟩) cvl).trans HV.out
        go_upto_region 9 with fail
        clear cv hv

        have A5 := hide TA.out
        have B5 := hide TB.out
        have G5 := hide G3.out
        have BE := hide BE3.out
        obtain ⟨w5, hw5⟩ : ∃ w5 : World, w5 = w3 := ⟨_, rfl⟩
        subst hw5
        have x2 : (convert 27 9 (.slice none 0 0)).run Try.prog w5 = .ok (.string (strB bs)) w5 := by rw [EZ.out]; exact conv_str (IsF.nil (fun _ => False) w5)

        have x1 := conv_str (G5.out.isF (A := fun _ => False) (fun _ _ => id))
        have c0 := A5.out.c0
        have c1 := A5.out.c1
        have c2 := A5.out.c2
        have d0 := B5.out.c0
        have d1 := B5.out.c1
        have d2 := B5.out.c2
        have SN : Hid (Sn w s fa n c w5 bs) := ⟨c0, G5.out, HN.out.symm, NE.out, BE.out⟩
        generalize strB bs = sx at *
        go_wp2
        clear x1 x2 c0 c1 c2 d0 d1 d2
        go_loopw [12] (fun v12 wr => ∃ (i : Nat) (xs : List Int), v12 = .int .i64 (i : Int) ∧ i ≤ n ∧ Hid (Sn w s fa n c wr xs)) (fun v12 _ => n - (intOf v12).toNat)
        case atStart => exact ⟨0, bs, rfl, Nat.zero_le _, SN.out⟩
        case round =>
          obtain ⟨i, xs, rfl, hi, hS⟩ := hrel
          have q1 := hS.out.a0
          by_cases hil : i < n
          · obtain ⟨kh, rfl, hkh, hcc, hff⟩ := hS.out.g.block (by rw [hS.out.l]; omega)
            have c5 := hcc i (by rw [hS.out.l]; exact hil)
            have f5 := hff i
            have z5 : (i : Int) < n := by omega
            clear hcc hff
            obtain ⟨z, ez⟩ : ∃ z, xs[i]?.getD 0 = z := ⟨_, rfl⟩
            rw [ez] at c5
            clear ez
            go_wp2
            go_region
            go_wp2
            go_roundw
            case rel => exact ⟨i + 1, xs.set i ((z + 1) % 256), by go_num, by omega, (hS.out.put hkh i _).drew⟩
            case measure => simp [intOf]; omega
          · obtain rfl : i = n := by omega
            go_wp2
            go_ret
            exact ⟨rfl, hS.out.bel⟩
      · go_enter Try.func32, Try.ntmps32
        go_wp2_with fail
        refine HX.out.mono ?_
        rintro e w1 ⟨fa, c, rfl, hG, hB⟩
        obtain ⟨s, hs⟩ : ∃ s, s = w1.heap.size := ⟨_, rfl⟩
        have b2 : Below w1.heap.size w1 (w1.alloc (.cells #[.slice fa n c, .bool false, .int .i64 0] 48)) := (Below.refl _ _).alloc (Nat.le_refl _) _
        have b3 : Below w1.heap.size w1 ((w1.alloc (.cells #[.slice fa n c, .bool false, .int .i64 0] 48)).alloc (.cells #[.slice none 0 0, .bool false, .int .i64 0] 48)) := b2.alloc b2.size _
        have ta := (T3.new w1 (.slice fa n c) (.bool false) (.int .i64 0) 48).al (.cells #[.slice none 0 0, .bool false, .int .i64 0] 48)
        have tb := T3.new (w1.alloc (.cells #[.slice fa n c, .bool false, .int .i64 0] 48)) (.slice none 0 0) (.bool false) (.int .i64 0) 48
        rw [World.size_alloc, ← hs] at tb
        rw [← hs] at ta
        have NE : Hid (∀ k, (Value.slice fa n c).ownBlock = some k → k ≠ s) := fun k e => by have := (hG.blk k e).2; omega
        have NE2 : Hid (∀ k, (Value.slice fa n c).ownBlock = some k → k ≠ s + 1) := fun k e => by have := (hG.blk k e).2; omega
        have g3 := hG.but (K := fun _ => False) (But.of_below b3) (fun _ e => e.elim)
        have BE3 := hide (hB.trans (b3.mono hB.size))
        have SZ : Hid (w.heap.size ≤ s) := by rw [hs]; exact hB.size
        have TA := hide ta
        have TB := hide tb
        have G3 := hide g3
        have CV := hide ((BE3.out.cell (p := ⟨P.x, 5, none⟩) hxl).trans H.out.c.cv)
        have hs' := hs
        clear hs hG hB b2 b3 ta tb g3 HX cw
        go_upto_region 4 with fail
        rw [← hs']
        clear hs'
        generalize (w1.alloc (.cells #[.slice fa n c, .bool false, .int .i64 0] 48)).alloc (.cells #[.slice none 0 0, .bool false, .int .i64 0] 48) = w3 at *

        have cv := CV.out
        have hv := (BE3.out.cell (p := ⟨P.rb, 2 + i, none⟩) cvl).trans HV.out
        go_upto_region 9 with fail
        clear cv hv

        have A5 := hide TA.out
        have B5 := hide TB.out
        have G5 := hide G3.out
        have BE := hide BE3.out
        obtain ⟨w5, hw5⟩ : ∃ w5 : World, w5 = w3 := ⟨_, rfl⟩
        subst hw5
        have x2 : (convert 27 9 (.slice none 0 0)).run Try.prog w5 = .ok (.string (strB bs)) w5 := by rw [EZ.out]; exact conv_str (IsF.nil (fun _ => False) w5)

        have x1 := conv_str (G5.out.isF (A := fun _ => False) (fun _ _ => id))
        have c0 := A5.out.c0
        have c1 := A5.out.c1
        have c2 := A5.out.c2
        have d0 := B5.out.c0
        have d1 := B5.out.c1
        have d2 := B5.out.c2
        have SN : Hid (Sn w s fa n c w5 bs) := ⟨c0, G5.out, HN.out.symm, NE.out, BE.out⟩
        generalize strB bs = sx at *
        go_wp2
        clear x1 x2 c0 c1 c2 d0 d1 d2
        go_loopw [12] (fun v12 wr => ∃ (i : Nat) (xs : List Int), v12 = .int .i64 (i : Int) ∧ i ≤ n ∧ Hid (Sn w s fa n c wr xs)) (fun v12 _ => n - (intOf v12).toNat)
        case atStart => exact ⟨0, bs, rfl, Nat.zero_le _, SN.out⟩
        case round =>
          obtain ⟨i, xs, rfl, hi, hS⟩ := hrel
          have q1 := hS.out.a0
          by_cases hil : i < n
          · obtain ⟨kh, rfl, hkh, hcc, hff⟩ := hS.out.g.block (by rw [hS.out.l]; omega)
            have c5 := hcc i (by rw [hS.out.l]; exact hil)
            have f5 := hff i
            have z5 : (i : Int) < n := by omega
            clear hcc hff
            obtain ⟨z, ez⟩ : ∃ z, xs[i]?.getD 0 = z := ⟨_, rfl⟩
            rw [ez] at c5
            clear ez
            go_wp2
            go_region
            go_wp2
            go_roundw
            case rel => exact ⟨i + 1, xs.set i ((z + 1) % 256), by go_num, by omega, (hS.out.put hkh i _).drew⟩
            case measure => simp [intOf]; omega
          · obtain rfl : i = n := by omega
            go_wp2
            go_ret
            exact ⟨rfl, hS.out.bel⟩


end
end Go.Proofs.Ytghojbgjmpjhgaa
