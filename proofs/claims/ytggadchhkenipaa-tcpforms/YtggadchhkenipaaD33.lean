
/-
  The document's tcp: what its read leaves. The document's tcp: read. The document's tcp: Decode.
-/
import Derived.Test.YtggadchhkenipaaD30
namespace Go.Proofs.Ytggadchhkenipaa
open Go.RowKit Go.Shelf

theorem rAt2_valT (v : Value) (bs : List Int) (k : Nat) (W : World) (hb : IsB W.heap.size W v bs) (hB : Bytes bs) (hl : (bs.length : Int) ≤ 4611686018427387904) (hk : k + 2 ≤ bs.length) :
    Calls Try.prog 42 #[v, .int .i64 (k : Int), .int .i64 2] W fun e W' => e = .returned (.int .i64 (w16 bs k)) ∧ W' = W :=
  (rAt2_any v bs (k : Int) W hb hB hl).mono (by
    rintro _ W' ⟨rfl, h⟩
    refine ⟨?_, h⟩
    have : stB bs.length (k : Int) 2 = true := by unfold stB; exact decide_eq_true ⟨by omega, by omega⟩
    rw [if_pos this, rd16_at hk])
theorem rAt4_valT (v : Value) (bs : List Int) (k : Nat) (W : World) (hb : IsB W.heap.size W v bs) (hB : Bytes bs) (hl : (bs.length : Int) ≤ 4611686018427387904) (hk : k + 4 ≤ bs.length) :
    Calls Try.prog 42 #[v, .int .i64 (k : Int), .int .i64 4] W fun e W' => e = .returned (.int .i64 (w32 bs k)) ∧ W' = W :=
  (rAt4_any v bs (k : Int) W hb hB hl).mono (by
    rintro _ W' ⟨rfl, h⟩
    refine ⟨?_, h⟩
    have : stB bs.length (k : Int) 4 = true := by unfold stB; exact decide_eq_true ⟨by omega, by omega⟩
    rw [if_pos this, rd32_at hk])
/-- the segment at sb says so; but for it all that was there is as it was -/
structure RoW (w1 : World) (sb : Nat) (h : Sg) (dv : Value) (r : Ro) (W : World) : Prop where
  fz : ∀ y, W.frozen? ⟨sb, y, none⟩ = false
  row : ∃ gv, CellsAt W sb 0 ((h.ro r).cells gv dv) ∧ GG (fun g => w1.heap.size ≤ g) W gv r.got
  bel : But (Only sb) w1 W
section
variable {w1 : World} {sb : Nat} {h : Sg} {dv : Value} {r : Ro} {W : World}
theorem RoW.mss (H : RoW w1 sb h dv r W) (hs : sb < w1.heap.size) (m : Int) : RoW w1 sb h dv { r with mss := m } (W.setCell ⟨sb, 6, none⟩ (.int .i64 m)) := by
  obtain ⟨gv, c, g⟩ := H.row
  refine ⟨fun y => by rw [World.frozen?_setCell]; exact H.fz y, ⟨gv, c.set 6 (.int .i64 m), ?_⟩, H.bel.cellb (b := sb) rfl 6 _⟩
  exact RowF.but g ((But.refl (Only sb) W).cellb (b := sb) rfl 6 _) (fun q e e2 => by have e2 : q = sb := e2; omega)
theorem RoW.sak (H : RoW w1 sb h dv r W) (hs : sb < w1.heap.size) : RoW w1 sb h dv { r with sak := true } (W.setCell ⟨sb, 7, none⟩ (.bool true)) := by
  obtain ⟨gv, c, g⟩ := H.row
  refine ⟨fun y => by rw [World.frozen?_setCell]; exact H.fz y, ⟨gv, c.set 7 (.bool true), ?_⟩, H.bel.cellb (b := sb) rfl 7 _⟩
  exact RowF.but g ((But.refl (Only sb) W).cellb (b := sb) rfl 7 _) (fun q e e2 => by have e2 : q = sb := e2; omega)
theorem RoW.none (H : RoW w1 sb h dv r W) : RoW w1 sb h dv { r with got := [] } (W.setCell ⟨sb, 8, none⟩ (.slice none 0 0)) := by
  obtain ⟨gv, c, g⟩ := H.row
  exact ⟨fun y => by rw [World.frozen?_setCell]; exact H.fz y, ⟨.slice .none 0 0, c.set 8 (.slice .none 0 0), RowF.nil _ _ _ _⟩, H.bel.cellb (b := sb) rfl 8 _⟩
theorem RoW.got_cell (H : RoW w1 sb h dv r W) : ∃ va vc, W.cell? ⟨sb, 8, Option.none⟩ = some (.slice va r.got.length vc) := by
  obtain ⟨gv, c, g⟩ := H.row
  obtain ⟨va, vc, rfl⟩ := g.shape
  exact ⟨va, vc, c 8 _ rfl⟩
theorem RoW.push (H : RoW w1 sb h dv r W) (hs : sb < w1.heap.size) (x : Sp) (hl : r.got.length ≤ 100) {va : Option Addr} {vc : Nat} (hv : W.cell? ⟨sb, 8, Option.none⟩ = some (.slice va r.got.length vc)) {w4 : World} (b4 : Below W.heap.size W w4) :
    ∃ a' c' wF, (Builtin.append_ #[23, 23] 23 #[.slice va r.got.length vc, .slice (some ⟨w4.heap.size, 0, Option.none⟩) 1 1]).run Try.prog (w4.alloc (.cells x.cells.toArray 68)) = .ok (.slice a' (r.got.length + 1) c') wF ∧ wF.cell? ⟨sb, 8, Option.none⟩ = some (.slice va r.got.length vc) ∧ wF.frozen? ⟨sb, 8, Option.none⟩ = false ∧ RoW w1 sb h dv { r with got := r.got ++ [x] } (wF.setCell ⟨sb, 8, Option.none⟩ (.slice a' (r.got.length + 1) c')) := by
  obtain ⟨gv, c, g⟩ := H.row
  obtain ⟨va', vc', rfl⟩ := g.shape
  have e8 : W.cell? ⟨sb, 8, Option.none⟩ = some (.slice va' r.got.length vc') := c 8 _ rfl
  rw [e8] at hv
  cases hv
  have zW := H.bel.size
  have lsW : sb < W.heap.size := by omega
  obtain ⟨i0, hi0, hz0, hz1', hz2⟩ := info_parts info_sp
  have b5 : Below w4.heap.size w4 (w4.alloc (.cells x.cells.toArray 68)) := later_alloc _ _
  have c5 : CellsAt (w4.alloc (.cells x.cells.toArray 68)) w4.heap.size 0 x.cells := CellsAt.new w4 _ _
  have r5 : GG (fun g => w1.heap.size ≤ g) (w4.alloc (.cells x.cells.toArray 68)) (.slice va r.got.length vc) r.got := RowF.later g (later b4 b5)
  obtain ⟨a', c', wF, hrun, rF, hbF⟩ := RowF.push 23 68 i0 _ Try.underlying23 hi0 hz0 hz1' (by rw [hz2]; decide) rfl r5 (fun q _ => spc_len r.got q) (fun q hq u hu => sp_one _ u hu) x.cells rfl (sp_one x) w4.heap.size c5 (by omega)
  have ns : ¬ (w1.heap.size ≤ sb) := by omega
  have bK : But (fun g => w1.heap.size ≤ g) W wF := (But.of_below (K := fun g => w1.heap.size ≤ g) (later b4 b5)).trans hbF
  have cF := c.but lsW bK ns
  have fF : ∀ y, wF.frozen? ⟨sb, y, Option.none⟩ = false := fun y => (bK.frozen (p := ⟨sb, y, Option.none⟩) lsW ns).trans (H.fz y)
  refine ⟨a', c', wF, hrun, cF 8 _ rfl, fF 8, fun y => by rw [World.frozen?_setCell]; exact fF y, ⟨.slice a' (r.got.length + 1) c', cF.set 8 _, ?_⟩, ?_⟩
  · have r1 : GG (fun q => w1.heap.size ≤ q) wF (.slice a' (r.got.length + 1) c') (r.got ++ [x]) := by
      unfold GG
      rw [List.length_append]
      refine (RowF.own rF (O' := fun q => w1.heap.size ≤ q) (fun q hq e => by
        rcases e with e | e
        · exact e
        · have := b4.size; have := b5.size; omega)).cong (fun q hq => by rw [spc_app r.got x q (by simpa using hq)])
    exact RowF.but r1 ((But.refl (Only sb) wF).cellb (b := sb) rfl 8 _) (fun q e e2 => by have e2 : q = sb := e2; omega)
  · exact (H.bel.trans' bK (fun q hq e => by omega)).cellb (b := sb) rfl 8 _
theorem RoW.below (H : RoW w1 sb h dv r W) (hs : sb < w1.heap.size) {W' : World} (hb : Below W.heap.size W W') : RoW w1 sb h dv r W' := by
  obtain ⟨gv, c, g⟩ := H.row
  have lsW : sb < W.heap.size := by have := H.bel.size; omega
  exact ⟨fun y => (hb.frozen (p := ⟨sb, y, Option.none⟩) lsW).trans (H.fz y), ⟨gv, c.later lsW hb, RowF.later g hb⟩, H.bel.trans (But.of_below hb)⟩
theorem RoW.isB (H : RoW w1 sb h dv r W) {a : Option Addr} {n c : Nat} {bs : List Int} (hb : IsB w1.heap.size w1 (.slice a n c) bs) (hg : ∀ g off, a = some ⟨g, off, Option.none⟩ → g ≠ sb) : IsB W.heap.size W (.slice a n c) bs := by
  obtain ⟨a', c', e, h1, h2, h3⟩ := hb
  simp only [Value.slice.injEq] at e
  obtain ⟨rfl, rfl, rfl⟩ := e
  refine ⟨a, c, rfl, h1, h2, fun h0 => ?_⟩
  obtain ⟨g, off, rfl, hl, hc⟩ := h3 h0
  refine ⟨g, off, rfl, Nat.lt_of_lt_of_le hl H.bel.size, fun j hj => ?_⟩
  exact (H.bel.cell (p := ⟨g, off + j, Option.none⟩) hl (fun e => hg g off rfl e)).trans (hc j hj)
end

def roA (sy : Bool) (bs : List Int) (b0 : Int) (z : Nat) (r : Ro) : Ro := if b0 = 2 ∧ z = 4 ∧ sy = true then { r with mss := w16 bs 2 } else r
def roC (sy : Bool) (b0 : Int) (z : Nat) (r : Ro) : Ro := if b0 = 4 ∧ z = 2 ∧ sy = true then { r with sak := true } else r
def roD (bs : List Int) (b0 : Int) (z : Nat) (r : Ro) : Ro := if b0 = 5 ∧ areS z = true then { r with got := spL (bs.drop 2) ((z - 2) / 8) } else r
theorem w32_takeD (bs : List Int) (z k : Nat) (h : 2 + k + 4 ≤ z) : w32 ((bs.take z).drop 2) k = w32 (bs.drop 2) k := by
  have e : ∀ i, 2 + i < z → nb ((bs.take z).drop 2) i = nb (bs.drop 2) i := fun i hi => by
    unfold nb
    rw [List.getElem?_drop, List.getElem?_drop, List.getElem?_take, if_pos hi]
  unfold w32
  rw [e k (by omega), e (k + 1) (by omega), e (k + 2) (by omega), e (k + 3) (by omega)]
theorem spL_take (bs : List Int) (z q : Nat) (h : 2 + 8 * q ≤ z) : spL ((bs.take z).drop 2) q = spL (bs.drop 2) q := by
  unfold spL
  refine List.map_congr_left fun i hi => ?_
  have hi := List.mem_range.1 hi
  rw [w32_takeD bs z (8 * i) (by omega), w32_takeD bs z (8 * i + 4) (by omega)]
theorem oneO_eq (sy : Bool) (bs : List Int) (b0 : Int) (z : Nat) (r : Ro) (hb : nb bs 0 = b0) (h2 : 2 ≤ z) (hl : z ≤ bs.length) : oneO sy (bs.take z) r = roD bs b0 z (roC sy b0 z (roA sy bs b0 z r)) := by
  have l : (bs.take z).length = z := by rw [List.length_take]; omega
  have n0 : nb (bs.take z) 0 = b0 := by rw [← hb]; unfold nb; rw [List.getElem?_take, if_pos (by omega)]
  unfold oneO roD roC roA
  rw [l, n0]
  by_cases c1 : b0 = 2 ∧ z = 4 ∧ sy = true
  · have e : w16 (bs.take z) 2 = w16 bs 2 := by
      unfold w16 nb
      rw [List.getElem?_take, if_pos (by omega), List.getElem?_take, if_pos (by omega)]
    rw [if_pos c1, if_pos c1, if_neg (fun e => by have := c1.1; omega), if_neg (fun e => by have := c1.1; omega), e]
  · rw [if_neg c1, if_neg c1]
    by_cases c2 : b0 = 4 ∧ z = 2 ∧ sy = true
    · rw [if_pos c2, if_pos c2, if_neg (fun e => by have := c2.1; omega)]
    · rw [if_neg c2, if_neg c2]
      by_cases c3 : b0 = 5 ∧ areS z = true
      · rw [if_pos c3, if_pos c3]
        have ha := c3.2
        unfold areS at ha
        rw [decide_eq_true_eq] at ha
        rw [spL_take bs z _ (by omega)]
      · rw [if_neg c3, if_neg c3]
theorem exec_cvB {o : Oper} {w : World} {ev : Operand → Value} (x : Operand) (n : Int) (ho : o.op = .convert 3 22 x) (hx : ev x = .int .i64 n) (h0 : 0 ≤ n) (h1 : n < 4294967296) : (execOp ev o).run Try.prog w = .ok (.value (.int .u32 n)) w := by
  have h := exec_cv32 (w := w) x n ho hx
  rw [Int.emod_eq_of_lt h0 h1] at h
  exact h
set_option maxRecDepth 100000 in
set_option maxHeartbeats 16000000 in
theorem rRead_any {w : World} (sb : Nat) (h : Sg) (dv : Value) (hfl : 0 ≤ h.flg ∧ h.flg ≤ 31) (r0 : Ro) (hR : RoW w sb h dv r0 w) (hsb : sb < w.heap.size) (a0 : Option Addr) (n0 c0 : Nat) (bs : List Int) (hn0 : n0 = bs.length) (hb : IsB w.heap.size w (.slice a0 n0 c0) bs) (hgs : ∀ g off, a0 = some ⟨g, off, none⟩ → g ≠ sb) (hB : Bytes bs) (hlb : n0 ≤ 40) :
    Calls Try.prog 43 #[.pointer (some ⟨sb, 0, none⟩), .slice a0 n0 c0] w fun e w' => e = .returned (.bool (rdO (hasB h.flg 2) bs r0).1) ∧ RoW w sb h dv (rdO (hasB h.flg 2) bs r0).2 w' := by
  obtain ⟨sy, hsy⟩ : ∃ sy, sy = hasB h.flg 2 := ⟨_, rfl⟩
  obtain ⟨F, hF⟩ : ∃ F, F = rdO sy bs r0 := ⟨_, rfl⟩
  rw [← hsy, ← hF]
  have qs : (h.flg / 2 % 2 != 0) = sy := by
    rw [hsy]
    unfold hasB
    by_cases e : h.flg / 2 % 2 = 1
    · rw [decide_eq_true e, e]; rfl
    · rw [decide_eq_false e, show h.flg / 2 % 2 = 0 by omega]; rfl
  obtain ⟨fl, hfl'⟩ : ∃ fl, fl = h.flg := ⟨_, rfl⟩
  rw [← hfl'] at qs hfl
  have HFL := hide hfl'
  obtain ⟨fl0, fl1⟩ := hfl
  have QS := hide qs
  have HF := hide hF
  have HR := hide hR
  have HB := hide hb
  have HGS := hide hgs
  have HBY := hide hB
  have HN0 := hide hn0
  clear hsy hF hfl' qs hR hb hgs hB hn0
  go_enter Try.func43, Try.ntmps43
  go_wp2
  go_loopw [1, 5, 6, 7] (fun v1 _ _ _ wr => ∃ (L : List Int) (a : Option Addr) (n c : Nat) (r : Ro), v1 = .slice a n c ∧ Hid (n = L.length) ∧ n ≤ 40 ∧ Hid (IsB w.heap.size w (.slice a n c) L) ∧ Hid (∀ g off, a = some ⟨g, off, none⟩ → g ≠ sb) ∧ Hid (Bytes L) ∧ Hid (RoW w sb h dv r wr) ∧ Hid (F = rdO sy L r)) (fun v1 _ _ _ _ => match v1 with | .slice _ n _ => n | _ => 0)
  case atStart => exact ⟨bs, a0, n0, c0, r0, rfl, HN0.out, hlb, HB.out, HGS.out, HBY.out, HR.out, HF.out⟩
  case round =>
    clear HF HR HB HGS HBY HN0 hlb
    obtain ⟨L, a, n, c, r, rfl, HN, n40, HB, HGS, HBY, HR, HF⟩ := hrel
    have zn : (n : Int) ≤ 40 := by omega
    by_cases e0 : n = 0
    · subst e0
      have eL : L = [] := List.eq_nil_of_length_eq_zero HN.out.symm
      have eF : F = (true, r) := by rw [HF.out, eL]; exact rdO_nil _ _
      subst eF
      go_wp2
      go_ret
      exact ⟨rfl, HR.out⟩
    have z0 : (0 : Int) < (n : Int) := by omega
    have IW := HR.out.isB HB.out HGS.out
    obtain ⟨g, off, rfl, hgl, hc⟩ : ∃ g off, a = some ⟨g, off, none⟩ ∧ g < wr.heap.size ∧ ∀ j, j < n → wr.cell? ⟨g, off + j, none⟩ = some (.int .u8 (nb L j)) := by
      obtain ⟨a', c', e', _, _, h3⟩ := IW
      simp only [Value.slice.injEq] at e'
      obtain ⟨rfl, e1, _⟩ := e'
      obtain ⟨g, off, rfl, hl, hc⟩ := h3 (by omega)
      exact ⟨g, off, rfl, hl, fun j hj => hc j (by omega)⟩
    obtain ⟨b0, hb0⟩ : ∃ b0, b0 = nb L 0 := ⟨_, rfl⟩
    have x0 : wr.cell? ⟨g, off, none⟩ = some (.int .u8 b0) := by have := hc 0 (by omega); rw [Nat.add_zero, ← hb0] at this; exact this
    have b00 : 0 ≤ b0 ∧ b0 ≤ 255 := by rw [hb0]; exact nb_bd HBY.out 0
    have HB0 := hide hb0
    have HC := hide hc
    have XW : Hid (∀ r' W', RoW w sb h dv r' W' → W'.cell? ⟨g, off, none⟩ = some (.int .u8 b0)) := fun r' W' H => by
      obtain ⟨a', c', e', _, _, h3⟩ := H.isB HB.out HGS.out
      simp only [Value.slice.injEq] at e'
      obtain ⟨rfl, e1, _⟩ := e'
      obtain ⟨g', off', e6, hl, hc⟩ := h3 (by omega)
      cases e6
      have := hc 0 (by omega)
      rw [Nat.add_zero] at this
      rw [this, hb0]
      rfl
    have e00 := hide e0
    clear hb0 hc IW e0
    by_cases d0 : b0 = 0
    · have eF : F = (true, r) := by rw [HF.out]; exact rdO_end (by rw [← HN.out]; omega) (by have := HB0.out; rw [d0] at this; exact this.symm)
      subst eF d0
      go_wp2
      go_ret
      exact ⟨rfl, HR.out⟩
    have q0 : (b0 != 0) = true := by simpa using d0
    have D0 := hide d0
    clear d0
    by_cases d1 : b0 = 1
    · subst d1
      obtain ⟨AD, hAD⟩ : ∃ AD, AD = (if c = 1 then some (⟨g, off, none⟩ : Addr) else some ⟨g, off + 1, none⟩) := ⟨_, rfl⟩
      have HAD := hide hAD
      have I2 : Hid (IsB w.heap.size w (.slice AD (n - 1) (c - 1)) (L.drop 1)) := by
        have h := HB.out.drop 1 (by rw [← HN.out]; omega)
        rw [drop_addrT] at h
        rw [hAD]; exact h
      have G2 : Hid (∀ g off, AD = some ⟨g, off, none⟩ → g ≠ sb) := fun g' off' e => by
        rw [hAD] at e
        split at e
        · cases e; exact HGS.out _ _ rfl
        · cases e; exact HGS.out _ _ rfl
      have F2 : Hid (F = rdO sy (L.drop 1) r) := by
        rw [HF.out]
        obtain ⟨x, t, e⟩ : ∃ x t, L = x :: t := by
          cases L with
          | nil => exact absurd HN.out e00.out
          | cons x t => exact ⟨x, t, rfl⟩
        have ex : x = 1 := by have := HB0.out; rw [e] at this; exact this.symm
        rw [e, ex]
        exact rdO_one t r
      have N2 : Hid (n - 1 = (L.drop 1).length) := by unfold Hid; rw [List.length_drop, ← HN.out]
      have E1 : Hid (1 ≤ n) := by have := e00.out; unfold Hid; omega
      have E3 : Hid (n - 1 < n ∧ n - 1 ≤ 40) := by have := e00.out; unfold Hid; omega
      clear hAD
      go_wp2_with (refine wpList_runV rfl (exec_slV _ _ g off n c 1 AD HAD.out rfl rfl rfl E1.out) ?_)
      go_roundw
      case rel => exact ⟨L.drop 1, AD, n - 1, c - 1, r, rfl, N2.out, E3.out.2, I2.out, G2.out, HBY.out.drop 1, HR.out, F2.out⟩
      case measure => exact E3.out.1
    have q1 : (b0 == 1) = false := by simpa using d1
    have D1 := hide d1
    clear d1
    have SZ : Hid (szT L = if L.length < 2 then 0 else if nb L 1 < 2 ∨ (L.length : Int) < nb L 1 then 0 else (nb L 1).toNat) := by
      unfold Hid szT
      rw [if_neg (fun e => D0.out (by rw [HB0.out]; exact e)), if_neg (fun e => D1.out (by rw [HB0.out]; exact e))]
      rfl
    have BAD : Hid (szT L = 0 → F = (false, r)) := fun hz => by
      rw [HF.out]
      exact rdO_bad (by rw [← HN.out]; have := e00.out; omega) (fun e => D0.out (by rw [HB0.out]; exact e)) hz
    by_cases e2 : n < 2
    · have eF : F = (false, r) := BAD.out (by rw [SZ.out, ← HN.out, if_pos e2])
      have z2 : (n : Int) < 2 := by omega
      subst eF
      go_wp2
      go_ret
      exact ⟨rfl, HR.out⟩
    have z2 : ¬ (n : Int) < 2 := by omega
    obtain ⟨b1, hb1⟩ : ∃ b1, b1 = nb L 1 := ⟨_, rfl⟩
    have x1 : wr.cell? ⟨g, off + 1, none⟩ = some (.int .u8 b1) := by have := HC.out 1 (by omega); rw [← hb1] at this; exact this
    obtain ⟨b10, b11⟩ : 0 ≤ b1 ∧ b1 ≤ 255 := by rw [hb1]; exact nb_bd HBY.out 1
    by_cases e3 : b1 < 2
    · have eF : F = (false, r) := BAD.out (by rw [SZ.out, ← HN.out, if_neg e2, ← hb1, if_pos (.inl e3)])
      subst eF
      go_wp2
      go_ret
      exact ⟨rfl, HR.out⟩
    by_cases e4 : (n : Int) < b1
    · have eF : F = (false, r) := BAD.out (by rw [SZ.out, ← HN.out, if_neg e2, ← hb1, if_pos (.inr e4)])
      subst eF
      go_wp2
      go_ret
      exact ⟨rfl, HR.out⟩
    obtain ⟨z, rfl⟩ := Int.eq_ofNat_of_zero_le b10
    have SZ2 : Hid (szT L = z) := by unfold Hid; rw [SZ.out, ← HN.out, if_neg e2, ← hb1, if_neg (by omega)]; rfl
    have k4 : wr.cell? ⟨sb, 4, none⟩ = some (.int .i64 fl) := by
      obtain ⟨gv, cc, _⟩ := HR.out.row
      rw [HFL.out]
      exact cc 4 _ rfl
    have qs := QS.out
    clear hb1 SZ BAD e2
    go_upto_region 8 with fail
    clear x1 k4 qs
    obtain ⟨r1, hr1⟩ : ∃ r1, r1 = roA sy L b0 z r := ⟨_, rfl⟩
    obtain ⟨r2, hr2⟩ : ∃ r2, r2 = roC sy b0 z r1 := ⟨_, rfl⟩
    obtain ⟨r3, hr3⟩ : ∃ r3, r3 = roD L b0 z r2 := ⟨_, rfl⟩
    have z2n : 2 ≤ z := by omega
    have zLn : z ≤ n := by omega
    have F3 : Hid (F = rdO sy (L.drop z) r3) := by
      rw [HF.out, rdO_more (by rw [← HN.out]; omega) (fun e => D0.out (by rw [HB0.out]; exact e)) (by rw [SZ2.out]; omega), SZ2.out, oneO_eq sy L b0 z r HB0.out.symm z2n (by rw [← HN.out]; exact zLn), hr3, hr2, hr1]
      exact rfl
    have HR1 := hide hr1
    have HR2 := hide hr2
    have HR3 := hide hr3
    have ZZ := hide (And.intro z2n zLn)
    clear hr1 hr2 hr3 z2n zLn SZ2 HF
    obtain ⟨tA, htt⟩ : ∃ tt, tt = decide (b0 = 2 ∧ z = 4 ∧ sy = true) := ⟨_, rfl⟩
    have HTT := hide htt
    clear htt
    go_cut [62] from 52 to 62 (fun v wq => v = .bool tA ∧ wr = wq)
    case first =>
      by_cases c2 : b0 = 2
      · by_cases c4 : z = 4
        · have et : tA = sy := by rw [HTT.out]; simp [c2, c4]
          subst c2 c4 et
          go_wp2
          all_goals go_meet
          all_goals exact ⟨rfl, rfl⟩
        · have et : tA = false := by rw [HTT.out]; simp [c4]
          have q4 : ((z : Int) == 4) = false := by simp; omega
          subst c2 et
          clear c4
          go_wp2
          go_meet
          case rel => exact ⟨rfl, rfl⟩
      · have et : tA = false := by rw [HTT.out]; simp [c2]
        have q4 : (b0 == 2) = false := by simpa using c2
        subst et
        clear c2
        go_wp2
        go_meet
        case rel => exact ⟨rfl, rfl⟩
    case rest =>
    obtain ⟨rfl, hcw⟩ := hcut
    subst hcw
    clear x0
    go_upto_if 62 with fail
    go_cut [] (fun wc => Hid (RoW w sb h dv r1 wc))
    case first =>
      cases tA with
      | true =>
        obtain ⟨e1, e2, e3⟩ : b0 = 2 ∧ z = 4 ∧ sy = true := of_decide_eq_true HTT.out.symm
        have er : r1 = { r with mss := w16 L 2 } := by rw [HR1.out]; unfold roA; rw [if_pos ⟨e1, e2, e3⟩]
        have AT : Hid (Calls Try.prog 42 #[.slice (some ⟨g, off, none⟩) n c, .int .i64 2, .int .i64 2] wr fun e W' => e = .returned (.int .i64 (w16 L 2)) ∧ W' = wr) := rAt2_valT _ L 2 wr (HR.out.isB HB.out HGS.out) HBY.out (by rw [← HN.out]; omega) (by have := ZZ.out.2; rw [← HN.out]; omega)
        have KF := HR.out.fz 6
        have k6 : wr.cell? ⟨sb, 6, none⟩ = some (.int .i64 r.mss) := by
          obtain ⟨gv, cc, _⟩ := HR.out.row
          exact cc 6 _ rfl
        have N1 := HR.out.mss hsb (w16 L 2)
        obtain ⟨m, hm⟩ : ∃ m, m = w16 L 2 := ⟨_, rfl⟩
        rw [← hm] at AT N1 er
        obtain ⟨wn, hwn⟩ : ∃ wn, wn = wr.setCell ⟨sb, 6, none⟩ (.int .i64 m) := ⟨_, rfl⟩
        rw [← hwn, ← er] at N1
        have HN1 := hide N1
        have hwn' := hwn.symm
        clear hm er hwn N1 e1 e2 e3
        go_wp2_with fail
        refine AT.out.mono ?_
        rintro _ wx ⟨rfl, hw⟩
        rw [hw]
        clear hw wx AT
        go_wp2
        go_meet
        case rel => exact HN1.out
      | false =>
        have er : r1 = r := by rw [HR1.out]; unfold roA; rw [if_neg (of_decide_eq_false HTT.out.symm)]
        rw [← er] at HR
        clear er
        go_wp2
        go_meet
        case rel => exact HR.out
    case rest =>
    have HRa : Hid (RoW w sb h dv r1 wc) := hcut.out
    clear HR hcut HTT
    obtain ⟨wd, hwd⟩ : ∃ wd, wd = wc := ⟨_, rfl⟩
    rw [← hwd] at HRa ⊢
    clear hwd
    have x0 : wd.cell? ⟨g, off, none⟩ = some (.int .u8 b0) := XW.out _ _ HRa.out
    obtain ⟨tC, htt⟩ : ∃ tt, tt = decide (b0 = 4 ∧ z = 2 ∧ sy = true) := ⟨_, rfl⟩
    have HTT := hide htt
    clear htt
    go_upto_region 10 with fail
    go_cut [78] from 68 to 78 (fun v wq => v = .bool tC ∧ wd = wq)
    case first =>
      by_cases c2 : b0 = 4
      · by_cases c4 : z = 2
        · have et : tC = sy := by rw [HTT.out]; simp [c2, c4]
          subst c2 c4 et
          go_wp2
          all_goals go_meet
          all_goals exact ⟨rfl, rfl⟩
        · have et : tC = false := by rw [HTT.out]; simp [c4]
          have q4 : ((z : Int) == 2) = false := by simp; omega
          subst c2 et
          clear c4
          go_wp2
          go_meet
          case rel => exact ⟨rfl, rfl⟩
      · have et : tC = false := by rw [HTT.out]; simp [c2]
        have q4 : (b0 == 4) = false := by simpa using c2
        subst et
        clear c2
        go_wp2
        go_meet
        case rel => exact ⟨rfl, rfl⟩
    case rest =>
    obtain ⟨rfl, hcw⟩ := hcut
    subst hcw
    clear x0
    go_upto_if 78 with fail
    go_cut [] (fun wc => Hid (RoW w sb h dv r2 wc))
    case first =>
      cases tC with
      | true =>
        obtain ⟨e1, e2, e3⟩ : b0 = 4 ∧ z = 2 ∧ sy = true := of_decide_eq_true HTT.out.symm
        have er : r2 = { r1 with sak := true } := by rw [HR2.out]; unfold roC; rw [if_pos ⟨e1, e2, e3⟩]
        have KF := HRa.out.fz 7
        have k7 : wd.cell? ⟨sb, 7, none⟩ = some (.bool r1.sak) := by
          obtain ⟨gv, cc, _⟩ := HRa.out.row
          exact cc 7 _ rfl
        have N1 := HRa.out.sak hsb
        obtain ⟨wn, hwn⟩ : ∃ wn, wn = wd.setCell ⟨sb, 7, none⟩ (.bool true) := ⟨_, rfl⟩
        rw [← hwn, ← er] at N1
        have HN1 := hide N1
        have hwn' := hwn.symm
        clear er hwn N1 e1 e2 e3
        go_wp2
        go_meet
        case rel => exact HN1.out
      | false =>
        have er : r2 = r1 := by rw [HR2.out]; unfold roC; rw [if_neg (of_decide_eq_false HTT.out.symm)]
        rw [← er] at HRa
        clear er
        go_wp2
        go_meet
        case rel => exact HRa.out
    case rest =>
    have HRb : Hid (RoW w sb h dv r2 wc) := hcut.out
    clear HRa hcut HTT
    obtain ⟨we, hwe⟩ : ∃ we, we = wc := ⟨_, rfl⟩
    rw [← hwe] at HRb ⊢
    clear hwe
    have x0 : we.cell? ⟨g, off, none⟩ = some (.int .u8 b0) := XW.out _ _ HRb.out
    obtain ⟨tt, htt⟩ : ∃ tt, tt = decide (b0 = 5 ∧ areS z = true) := ⟨_, rfl⟩
    have HTT := hide htt
    clear htt
    go_upto_region 12 with fail
    go_cut [97] from 82 to 97 (fun v wq => v = .bool tt ∧ we = wq)
    case first =>
      by_cases c5 : b0 = 5
      · have et : tt = areS z := by rw [HTT.out]; simp [c5]
        subst c5
        by_cases z10 : z = 10
        · subst z10
          have et2 : tt = true := by rw [et]; rfl
          subst et2
          clear et
          go_wp2
          go_meet
          case rel => exact ⟨rfl, rfl⟩
        · have p1 : ((z : Int) == 10) = false := by simp; omega
          by_cases z18 : z = 18
          · subst z18
            have et2 : tt = true := by rw [et]; rfl
            subst et2
            clear et
            go_wp2
            go_meet
            case rel => exact ⟨rfl, rfl⟩
          · have p2 : ((z : Int) == 18) = false := by simp; omega
            by_cases z26 : z = 26
            · subst z26
              have et2 : tt = true := by rw [et]; rfl
              subst et2
              clear et
              go_wp2
              go_meet
              case rel => exact ⟨rfl, rfl⟩
            · have p3 : ((z : Int) == 26) = false := by simp; omega
              have et2 : tt = false := by rw [et]; unfold areS; exact decide_eq_false (by omega)
              subst et2
              clear et z10 z18 z26
              go_wp2
              go_meet
              case rel => exact ⟨rfl, rfl⟩
      · have et2 : tt = false := by rw [HTT.out]; exact decide_eq_false (fun e => c5 e.1)
        have p5 : (b0 == 5) = false := by simpa using c5
        subst et2
        clear c5
        go_wp2
        go_meet
        case rel => exact ⟨rfl, rfl⟩
    case rest =>
    obtain ⟨rfl, hcw⟩ := hcut
    subst hcw
    clear x0
    go_upto_if 97 with fail
    go_cut [7] (fun _ wc => Hid (RoW w sb h dv r3 wc))
    case first =>
      cases tt with
      | false =>
        have er : r3 = r2 := by rw [HR3.out]; unfold roD; rw [if_neg (of_decide_eq_false HTT.out.symm)]
        rw [← er] at HRb
        clear er
        go_wp2
        go_meet
        case rel => exact HRb.out
      | true =>
        obtain ⟨e1, e2⟩ : b0 = 5 ∧ areS z = true := of_decide_eq_true HTT.out.symm
        have er : r3 = { r2 with got := spL (L.drop 2) ((z - 2) / 8) } := by rw [HR3.out]; unfold roD; rw [if_pos ⟨e1, e2⟩]
        have z8 : z = 10 ∨ z = 18 ∨ z = 26 := by unfold areS at e2; exact of_decide_eq_true e2
        have KF := HRb.out.fz 8
        obtain ⟨va, vc, k8⟩ := HRb.out.got_cell
        have N1 := HRb.out.none
        obtain ⟨wn, hwn⟩ : ∃ wn, wn = we.setCell ⟨sb, 8, none⟩ (.slice none 0 0) := ⟨_, rfl⟩
        rw [← hwn] at N1
        have HN1 := hide N1
        have HER := hide er
        have Z8 := hide z8
        have hwn' := hwn.symm
        clear er hwn N1 e1 e2 z8 HTT HRb
        go_wp2
        clear hwn' KF k8
        go_loopw [7] (fun v7 wq => ∃ k kk : Nat, v7 = .int .i64 (kk : Int) ∧ Hid (kk = 2 + 8 * k) ∧ kk ≤ z ∧ Hid (RoW w sb h dv { r2 with got := spL (L.drop 2) k } wq)) (fun v7 _ => z - (intOf v7).toNat)
        case atStart => exact ⟨0, 2, rfl, rfl, ZZ.out.1, HN1.out⟩
        case round =>
          clear HN1
          obtain ⟨k, kk, rfl, HK, hkz, HQ⟩ := hrel
          by_cases hlt : kk < z
          · have zk : (kk : Int) < (z : Int) := by omega
            have kz : kk + 8 ≤ z := by have := HK.out; have := Z8.out; omega
            have zz : (z : Int) ≤ 40 := by have := ZZ.out.2; omega
            obtain ⟨x, hx⟩ : ∃ x : Sp, x = ⟨w32 (L.drop 2) (8 * k), w32 (L.drop 2) (8 * k + 4)⟩ := ⟨_, rfl⟩
            obtain ⟨Q, hQ⟩ : ∃ Q, Q = spL (L.drop 2) k := ⟨_, rfl⟩
            have QL : Q.length = k := by rw [hQ]; exact spL_len _ _
            have TK : Hid (spL (L.drop 2) (k + 1) = Q ++ [x]) := by rw [hQ, hx]; exact spL_succ _ _
            have wd2 : ∀ i, w32 L (2 + i) = w32 (L.drop 2) i := fun i => by
              unfold w32 nb
              simp only [List.getElem?_drop, Nat.add_assoc]
            have X1 : w32 L kk = x.f := by rw [hx, HK.out]; exact wd2 _
            have X2 : w32 L (kk + 4) = x.t := by rw [hx, HK.out, Nat.add_assoc]; exact wd2 _
            have HL4 : (L.length : Int) ≤ 4611686018427387904 := by rw [← HN.out]; omega
            have kL : kk + 8 ≤ L.length := by rw [← HN.out]; have := ZZ.out.2; omega
            have A1 : Hid (Calls Try.prog 42 #[.slice (some ⟨g, off, none⟩) n c, .int .i64 (kk : Int), .int .i64 4] wr.drew fun e W' => e = .returned (.int .i64 x.f) ∧ W' = wr.drew) := by
              have hh := rAt4_valT (.slice (some ⟨g, off, none⟩) n c) L kk wr.drew ((HQ.out.isB HB.out HGS.out).later (later_drew _)) HBY.out HL4 (by omega)
              rw [X1] at hh
              exact hh
            have A2 : Hid (Calls Try.prog 42 #[.slice (some ⟨g, off, none⟩) n c, .int .i64 ((kk : Int) + 4), .int .i64 4] wr.drew fun e W' => e = .returned (.int .i64 x.t) ∧ W' = wr.drew) := by
              have hh := rAt4_valT (.slice (some ⟨g, off, none⟩) n c) L (kk + 4) wr.drew ((HQ.out.isB HB.out HGS.out).later (later_drew _)) HBY.out HL4 (by omega)
              rw [X2] at hh
              exact hh
            obtain ⟨ux0, ux1⟩ : 0 ≤ x.f ∧ x.f < 4294967296 := by rw [← X1]; exact w32_bd HBY.out _
            obtain ⟨ut0, ut1⟩ : 0 ≤ x.t ∧ x.t < 4294967296 := by rw [← X2]; exact w32_bd HBY.out _
            rw [← hQ] at HQ
            obtain ⟨va, vc, k8⟩ := HQ.out.got_cell
            obtain ⟨a', c', wF, hrun, cF, fF, HG⟩ := HQ.out.push hsb x (by show Q.length ≤ 100; have := Z8.out; have := HK.out; omega) k8 (later_drew wr)
            rw [show ({ r2 with got := Q } : Ro).got.length = k from QL] at k8 hrun cF HG
            rw [← TK.out] at HG
            obtain ⟨wG, hwG⟩ : ∃ wG, wG = wF.setCell ⟨sb, 8, none⟩ (.slice a' (k + 1) c') := ⟨_, rfl⟩
            rw [← hwG] at HG
            go_upto_region 17 with fail
            have SD : wr.drew.cell? ⟨sb, 8, none⟩ = some (.slice va k vc) := k8
            have S5 : (wr.drew.alloc (.cells x.cells.toArray 68)).cell? ⟨sb, 8, none⟩ = some (.slice va k vc) := by
              have ls : sb < wr.heap.size := World.block_lt_of_cell? wr _ k8
              exact ((later_alloc wr.drew (.cells x.cells.toArray 68)).cell (p := ⟨sb, 8, none⟩) ls).trans SD
            refine regionJ (fun i => decide (i ≤ 18)) (fun W => W.cell? ⟨sb, 8, none⟩ = some (.slice va k vc)) (by kernel_rfl) ?_
            refine takeJ (i := 0) (v := .pointer (some ⟨sb, 0, none⟩)) 106 rfl rfl (by kernel_rfl) (by kernel_rfl) (by kernel_rfl) (by kernel_rfl) (fun _ _ _ h => h) (.inl ⟨by rfl, fun W hW => exec_move _ _ rfl rfl⟩) (SD) ?_
            try simp only [Act.put, List.setIfInBounds_toArray, List.set_cons_zero, List.set_cons_succ]
            refine takeJ (i := 1) (v := .pointer (some ⟨sb, 0, none⟩)) 107 rfl rfl (by kernel_rfl) (by kernel_rfl) (by kernel_rfl) (by kernel_rfl) (fun _ _ _ h => h) (.inl ⟨by rfl, fun W hW => exec_move _ _ rfl rfl⟩) (SD) ?_
            try simp only [Act.put, List.setIfInBounds_toArray, List.set_cons_zero, List.set_cons_succ]
            refine takeJ (i := 2) (v := .pointer (some ⟨sb, 0, none⟩)) 108 rfl rfl (by kernel_rfl) (by kernel_rfl) (by kernel_rfl) (by kernel_rfl) (fun _ _ _ h => h) (.inl ⟨by rfl, fun W hW => exec_nil _ _ rfl rfl⟩) (SD) ?_
            try simp only [Act.put, List.setIfInBounds_toArray, List.set_cons_zero, List.set_cons_succ]
            refine takeJ (i := 3) (v := .pointer (some ⟨sb, 8, none⟩)) 109 rfl rfl (by kernel_rfl) (by kernel_rfl) (by kernel_rfl) (by kernel_rfl) (fun _ _ _ h => h) (.inl ⟨by rfl, fun W hW => exec_fieldO 26 _ 8 sb 0 8 rfl rfl (fun w => by kernel_rfl)⟩) (SD) ?_
            try simp only [Act.put, List.setIfInBounds_toArray, List.set_cons_zero, List.set_cons_succ]
            refine takeJ (i := 4) (v := .slice va k vc) 110 rfl rfl (by kernel_rfl) (by kernel_rfl) (by kernel_rfl) (by kernel_rfl) (fun _ _ _ h => h) (.inl ⟨by rfl, fun W hW => exec_load1 23 oneSps _ rfl sb 8 rfl (.slice va k vc) (hW)⟩) (SD) ?_
            try simp only [Act.put, List.setIfInBounds_toArray, List.set_cons_zero, List.set_cons_succ]
            refine takeJ (i := 5) (v := .slice (some ⟨g, off, none⟩) n c) 111 rfl rfl (by kernel_rfl) (by kernel_rfl) (by kernel_rfl) (by kernel_rfl) (fun _ _ _ h => h) (.inl ⟨by rfl, fun W hW => exec_move _ _ rfl rfl⟩) (SD) ?_
            try simp only [Act.put, List.setIfInBounds_toArray, List.set_cons_zero, List.set_cons_succ]
            refine takeJ (i := 6) (v := .int .i64 (kk : Int)) 112 rfl rfl (by kernel_rfl) (by kernel_rfl) (by kernel_rfl) (by kernel_rfl) (fun _ _ _ h => h) (.inl ⟨by rfl, fun W hW => exec_move _ _ rfl rfl⟩) (SD) ?_
            try simp only [Act.put, List.setIfInBounds_toArray, List.set_cons_zero, List.set_cons_succ]
            refine takeJ (i := 9) (v := .slice (some ⟨g, off, none⟩) n c) 115 rfl rfl (by kernel_rfl) (by kernel_rfl) (by kernel_rfl) (by kernel_rfl) (fun _ _ _ h => h) (.inl ⟨by rfl, fun W hW => exec_move _ _ rfl rfl⟩) (SD) ?_
            try simp only [Act.put, List.setIfInBounds_toArray, List.set_cons_zero, List.set_cons_succ]
            refine takeJ (i := 10) (v := .int .i64 (kk : Int)) 116 rfl rfl (by kernel_rfl) (by kernel_rfl) (by kernel_rfl) (by kernel_rfl) (fun _ _ _ h => h) (.inl ⟨by rfl, fun W hW => exec_move _ _ rfl rfl⟩) (SD) ?_
            try simp only [Act.put, List.setIfInBounds_toArray, List.set_cons_zero, List.set_cons_succ]
            refine takeJ (i := 11) (v := .int .i64 ((kk : Int) + 4)) 117 rfl rfl (by kernel_rfl) (by kernel_rfl) (by kernel_rfl) (by kernel_rfl) (fun _ _ _ h => h) (.inl ⟨by rfl, fun W hW => exec_addi _ _ _ _ _ rfl rfl rfl (by omega) (by omega)⟩) (SD) ?_
            try simp only [Act.put, List.setIfInBounds_toArray, List.set_cons_zero, List.set_cons_succ]
            refine callJ 7 113 (by kernel_rfl) rfl rfl (by rfl) 42 #[.slice (some ⟨g, off, none⟩) n c, .int .i64 (kk : Int), .int .i64 4] (exec_callF _ _ _ _ rfl (map3 rfl rfl rfl) (enters_of Try.func42 (by kernel_rfl) rfl)) (fun v w9 => v = .int .i64 x.f ∧ w9 = wr.drew) (A1.out.mono (fun e w' hh => ⟨_, hh.1, rfl, hh.2⟩)) ?_
            rintro v _ ⟨rfl, rfl⟩
            refine ⟨SD, ?_⟩
            simp only [Act.put, List.setIfInBounds_toArray, List.set_cons_zero, List.set_cons_succ]
            refine takeJ (i := 8) (v := .int .u32 x.f) 114 rfl rfl (by kernel_rfl) (by kernel_rfl) (by kernel_rfl) (by kernel_rfl) (fun _ _ _ h => h) (.inl ⟨by rfl, fun W hW => exec_cvB _ _ rfl rfl ux0 ux1⟩) (SD) ?_
            try simp only [Act.put, List.setIfInBounds_toArray, List.set_cons_zero, List.set_cons_succ]
            refine callJ 12 118 (by kernel_rfl) rfl rfl (by rfl) 42 #[.slice (some ⟨g, off, none⟩) n c, .int .i64 ((kk : Int) + 4), .int .i64 4] (exec_callF _ _ _ _ rfl (map3 rfl rfl rfl) (enters_of Try.func42 (by kernel_rfl) rfl)) (fun v w9 => v = .int .i64 x.t ∧ w9 = wr.drew) (A2.out.mono (fun e w' hh => ⟨_, hh.1, rfl, hh.2⟩)) ?_
            rintro v _ ⟨rfl, rfl⟩
            refine ⟨SD, ?_⟩
            simp only [Act.put, List.setIfInBounds_toArray, List.set_cons_zero, List.set_cons_succ]
            refine nextJ (w' := wr.drew) 13 119 (.int .u32 x.t) (by kernel_rfl) rfl rfl (by rfl) (exec_cvB _ _ rfl rfl ut0 ut1) (SD) ?_
            try simp only [Act.put, List.setIfInBounds_toArray, List.set_cons_zero, List.set_cons_succ]
            refine nextJ (w' := wr.drew) 14 120 (.agg x.cells.toArray) (by kernel_rfl) rfl rfl (by rfl) (exec_bldSp _ _ _ _ rfl rfl rfl) (SD) ?_
            try simp only [Act.put, List.setIfInBounds_toArray, List.set_cons_zero, List.set_cons_succ]
            refine nextJ (w' := wr.drew.alloc (.cells x.cells.toArray 68)) 15 121 (.slice (some ⟨wr.drew.heap.size, 0, none⟩) 1 1) (by kernel_rfl) rfl rfl (by rfl) (exec_bsSp _ x rfl rfl) (S5) ?_
            try simp only [Act.put, List.setIfInBounds_toArray, List.set_cons_zero, List.set_cons_succ]
            refine nextJ (w' := wF) 16 122 (.slice a' (k + 1) c') (by kernel_rfl) rfl rfl (by rfl) (exec_app _ _ 23 23 rfl (.slice va k vc) (.slice (some ⟨wr.drew.heap.size, 0, none⟩) 1 1) rfl rfl 23 rfl hrun) (cF) ?_
            try simp only [Act.put, List.setIfInBounds_toArray, List.set_cons_zero, List.set_cons_succ]
            refine nextJ (w' := wF) 17 123 (.pointer (some ⟨sb, 0, none⟩)) (by kernel_rfl) rfl rfl (by rfl) (exec_nil _ _ rfl rfl) (cF) ?_
            try simp only [Act.put, List.setIfInBounds_toArray, List.set_cons_zero, List.set_cons_succ]
            refine nextJ (w' := wF) 18 124 (.pointer (some ⟨sb, 8, none⟩)) (by kernel_rfl) rfl rfl (by rfl) (exec_fieldO 26 _ 8 sb 0 8 rfl rfl (fun w => by kernel_rfl)) (cF) ?_
            try simp only [Act.put, List.setIfInBounds_toArray, List.set_cons_zero, List.set_cons_succ]
            refine storeJ (w' := wG) 19 (by kernel_rfl) rfl rfl (by rfl) (by rw [hwG]; exact exec_store1 23 s1Sps _ _ rfl sb 8 rfl _ _ rfl cF fF rfl) ((fun e => by simp at e)) ?_
            try simp only [Act.put, List.setIfInBounds_toArray, List.set_cons_zero, List.set_cons_succ]
            refine doneJ (by kernel_rfl) ?_ _
            have HG2 := hide HG
            have K2 : Hid (kk + 8 = 2 + 8 * (k + 1)) := by unfold Hid; rw [HK.out]; omega
            clear SD S5 hrun cF fF hwG HG X1 X2 hx hQ A1 A2 k8 wd2 HL4 kL
            go_wp2
            go_roundw
            case rel => exact ⟨k + 1, kk + 8, by go_num, K2.out, kz, HG2.out⟩
            case measure => simp [intOf]; omega
          · obtain rfl : kk = z := by omega
            have zk : ¬ (kk : Int) < (kk : Int) := by omega
            have er : { r2 with got := spL (L.drop 2) k } = r3 := by rw [HER.out, HK.out]; congr 2; omega
            rw [er] at HQ
            clear er
            go_wp2
            go_meet
            case rel => exact HQ.out
    case rest =>
    have HRc : Hid (RoW w sb h dv r3 wc) := hcut.out
    clear HRb hcut
    obtain ⟨AD, hAD⟩ : ∃ AD, AD = (if c = z then some (⟨g, off, none⟩ : Addr) else some ⟨g, off + z, none⟩) := ⟨_, rfl⟩
    have HAD := hide hAD
    have I2 : Hid (IsB w.heap.size w (.slice AD (n - z) (c - z)) (L.drop z)) := by
      have h := HB.out.drop z (by rw [← HN.out]; exact ZZ.out.2)
      rw [drop_addrT] at h
      rw [hAD]; exact h
    have G2 : Hid (∀ g off, AD = some ⟨g, off, none⟩ → g ≠ sb) := fun g' off' e => by
      rw [hAD] at e
      split at e
      · cases e; exact HGS.out _ _ rfl
      · cases e; exact HGS.out _ _ rfl
    have N2 : Hid (n - z = (L.drop z).length) := by unfold Hid; rw [List.length_drop, ← HN.out]
    have E3 : Hid (n - z < n ∧ n - z ≤ 40) := by have := ZZ.out; unfold Hid; omega
    have E1 : Hid (z ≤ n) := ZZ.out.2
    clear hAD
    go_wp2_with (refine wpList_runV rfl (exec_slV _ _ g off n c z AD HAD.out rfl rfl rfl E1.out) ?_)
    go_roundw
    case rel => exact ⟨L.drop z, AD, n - z, c - z, r3, rfl, N2.out, E3.out.2, I2.out, G2.out, HBY.out.drop z, HRc.out, F3.out⟩
    case measure => exact E3.out.1

def BoxSeg (n0 : Nat) (W : World) (v : Value) (vs : List Value) : Prop := ∃ s, v = .pointer (some ⟨s, 0, none⟩) ∧ n0 ≤ s ∧ s < W.heap.size ∧ CellsAt W s 0 vs ∧ ∀ y, W.frozen? ⟨s, y, none⟩ = false
theorem BoxSeg.later {n0 : Nat} {W W' : World} {v : Value} {vs : List Value} (h : BoxSeg n0 W v vs) (hb : Below W.heap.size W W') : BoxSeg n0 W' v vs := by
  obtain ⟨s, e, h1, h2, h3, h4⟩ := h
  exact ⟨s, e, h1, Nat.lt_of_lt_of_le h2 hb.size, h3.later h2 hb, fun y => (hb.frozen (p := ⟨s, y, none⟩) h2).trans (h4 y)⟩
theorem exec_allocT {o : Oper} {w : World} {ev : Operand → Value} (ho : o.op = .alloc 26) : (execOp ev o).run Try.prog w = .ok (.value (.pointer (some ⟨w.heap.size, 0, none⟩))) (w.alloc (.cells (zSg.cells (.slice none 0 0) (.slice none 0 0)).toArray 26)) := by
  unfold execOp
  rw [ho]
  kernel_rfl
theorem boxSeg_made {n0 : Nat} {ev : Operand → Value} {o : Oper} {W : World} (ho : o.op = .alloc 26) (hn : n0 ≤ W.heap.size) : ∃ v W', (execOp ev o).run Try.prog W = .ok (.value v) W' ∧ Below W.heap.size W W' ∧ BoxSeg n0 W' v (zSg.cells (.slice none 0 0) (.slice none 0 0)) :=
  ⟨_, _, exec_allocT ho, later_alloc _ _, W.heap.size, rfl, hn, by simp, CellsAt.new W _ _, fun y => frozen_new W _ _ _⟩
theorem exec_bldD {o : Oper} {w : World} {ev : Operand → Value} (x0 x1 x2 x3 x4 x5 x9 : Operand) (a b c d e f : Int) (ad : Option Addr) (n k : Nat) (ho : o.op = .build 26 #[(0, x0), (1, x1), (2, x2), (3, x3), (4, x4), (5, x5), (9, x9)]) (h0 : ev x0 = .int .i64 a) (h1 : ev x1 = .int .i64 b) (h2 : ev x2 = .int .u32 c) (h3 : ev x3 = .int .u32 d) (h4 : ev x4 = .int .i64 e) (h5 : ev x5 = .int .i64 f) (h9 : ev x9 = .slice ad n k) :
    (execOp ev o).run Try.prog w = .ok (.value (.agg (Sg.cells ⟨a, b, c, d, e, f, 0, false, [], []⟩ (.slice none 0 0) (.slice ad n k)).toArray)) w := by
  unfold execOp
  rw [ho]
  simp only [List.map_toArray, List.map_cons, List.map_nil, h0, h1, h2, h3, h4, h5, h9]
  kernel_rfl
theorem exec_rem32 {o : Oper} {w : World} {ev : Operand → Value} (x : Operand) (t : TypeId) (n : Int) (ho : o.op = .binOp .rem 3 x (.const (.int .i64 32)) t) (hc : ∀ v, ev (.const v) = v) (hx : ev x = .int .i64 n) (h0 : 0 ≤ n) : (execOp ev o).run Try.prog w = .ok (.value (.int .i64 (n % 32))) w := by
  have e : n.tmod 32 = n % 32 := Int.tmod_eq_emod_of_nonneg h0
  unfold execOp
  simp [ho, hx, hc, go_sem, e]
theorem prt_zeroT {n : Int} (h0 : 0 ≤ n) (h1 : n ≤ 65535) : prt n = !decide (n = 0) := by
  unfold prt
  by_cases e : n = 0
  · subst e; rfl
  · rw [decide_eq_true (show 1 ≤ n by omega), decide_eq_true h1, decide_eq_false e]; rfl
set_option maxRecDepth 100000 in
set_option maxHeartbeats 16000000 in
theorem rDecT_any (x y : I4) (hx : x.Ok) (hy : y.Ok) (v : Value) (bs : List Int) (w : World) (hb : IsB w.heap.size w v bs) (hB : Bytes bs) (hl : bs.length ≤ 140737488351232) :
    Calls Try.prog 21 #[x.val, y.val, v] w fun e w' => ∃ gv dv, e = .returned (.tuple #[.agg ((tdS x y bs).cells gv dv).toArray, .int .i64 (tdE x y bs)]) ∧ CG (fun g => w.heap.size ≤ g) w' gv (tdS x y bs).got ∧ IsB w'.heap.size w' dv (tdS x y bs).dat ∧ Below w.heap.size w w' := by
  have GW0 : ∀ g off n c, v = .slice (some ⟨g, off, none⟩) n c → 0 < bs.length → g < w.heap.size := fun g off n c e h0 => by
    obtain ⟨a', c', e', _, _, h3⟩ := hb
    rw [e'] at e
    simp only [Value.slice.injEq] at e
    obtain ⟨rfl, _, _⟩ := e
    obtain ⟨g', off', e6, hl2, _⟩ := h3 h0
    cases e6
    exact hl2
  obtain ⟨w1, w2, s1, s2, hs1, hw1, hs2, hw2, c1, c2, b2, l1, l2, _⟩ := twoI w x y
  obtain ⟨s6, hs6⟩ : ∃ s6, s6 = w2.heap.size := ⟨_, rfl⟩
  obtain ⟨w3, hw3⟩ : ∃ w3, w3 = w2.alloc (.cells (zSg.cells (.slice none 0 0) (.slice none 0 0)).toArray 26) := ⟨_, rfl⟩
  have b3 : Below w2.heap.size w2 w3 := by rw [hw3]; exact later_alloc _ _
  have c3 : CellsAt w3 s6 0 (zSg.cells (.slice none 0 0) (.slice none 0 0)) := by rw [hw3, hs6]; exact CellsAt.new w2 _ _
  have f3 : ∀ y, w3.frozen? ⟨s6, y, none⟩ = false := fun y => by rw [hw3, hs6]; exact frozen_new w2 _ _ _
  have l3 : s6 < w3.heap.size := by rw [hw3, hs6]; simp
  obtain ⟨a, c, rfl, hnc⟩ := hb.shape
  obtain ⟨X, hX⟩ : ∃ X, X = x.vals := ⟨_, rfl⟩
  obtain ⟨Y, hY⟩ : ∃ Y, Y = y.vals := ⟨_, rfl⟩
  have LX : Hid (X.length = 4) := by rw [hX]; exact rfl
  have LY : Hid (Y.length = 4) := by rw [hY]; exact rfl
  have C1 : Hid (CellsAt w3 s1 0 X) := by rw [hX]; exact c1.later l1 b3
  have C2 : Hid (CellsAt w3 s2 0 Y) := by rw [hY]; exact c2.later l2 b3
  have C6 := hide c3
  have F6 := hide f3
  have B3 := hide (later b2 b3)
  have HD := hide (hb.later B3.out)
  have S6 : Hid (w.heap.size ≤ s6) := by unfold Hid; rw [hs6]; exact b2.size
  obtain ⟨S, hS⟩ : ∃ S, S = tdS x y bs := ⟨_, rfl⟩
  obtain ⟨E, hE⟩ : ∃ E, E = tdE x y bs := ⟨_, rfl⟩
  obtain ⟨f, hf⟩ : ∃ f, f = tfE x y bs := ⟨_, rfl⟩
  have ES : Hid (S = if E = 0 then { (tdH bs).ro (tdR bs).2 with dat := bs.drop (hsN bs) } else zSg) := by rw [hS, hE]; exact rfl
  have EE : Hid (E = if f ≠ 0 then f else if (tdR bs).1 = false then 140 else 0) := by rw [hE, hf]; exact rfl
  have FE : Hid (f = if bs.length < 20 then 3 else if hsI4 bs < 20 ∨ (bs.length : Int) < hsI4 bs then 4 else if csum (psB x y 6 (bs.length : Int) ++ bs) ≠ 0 then 5 else if 1024 < (bs.length : Int) - hsI4 bs then 2 else if prt (w16 bs 0) = false ∨ prt (w16 bs 2) = false then 1 else 0) := by rw [hf]; exact rfl
  have BADF : Hid (∀ e0 : Int, e0 ≠ 0 → f = e0 → E = e0 ∧ S = zSg) := fun e0 h0 h1 => by
    have e : E = e0 := by rw [EE.out, h1, if_pos h0]
    exact ⟨e, by rw [ES.out, if_neg (by rw [e]; exact h0)]⟩
  rw [← hS, ← hE]
  have XV : Hid (x.val = .agg X.toArray ∧ y.val = .agg Y.toArray) := by rw [hX, hY]; exact ⟨rfl, rfl⟩
  have XO := hide hx
  have YO := hide hy
  have BY := hide hB
  obtain ⟨n, hn⟩ : ∃ n, n = bs.length := ⟨_, rfl⟩
  have HN := hide hn
  rw [← hn] at hl HD hnc FE ⊢
  rw [show x.val = .agg #[.int .u8 x.a, .int .u8 x.b, .int .u8 x.c, .int .u8 x.d] from rfl, show y.val = .agg #[.int .u8 y.a, .int .u8 y.b, .int .u8 y.c, .int .u8 y.d] from rfl]
  have hs1' := hs1.symm
  have hs2' := hs2.symm
  have hw1' := hw1.symm
  have hw2' := hw2.symm
  have hs6' := hs6.symm
  have hw3' : w2.alloc (.cells #[.int .i64 0, .int .i64 0, .int .u32 0, .int .u32 0, .int .i64 0, .int .i64 0, .int .i64 0, .bool false, .slice none 0 0, .slice none 0 0] 26) = w3 := by rw [hw3]; rfl
  obtain ⟨ZC, hZC⟩ : ∃ ZC, ZC = zSg.cells (.slice none 0 0) (.slice none 0 0) := ⟨_, rfl⟩
  have LZC : Hid (ZC.length = 10) := by rw [hZC]; exact rfl
  have OZC : Hid (∀ u ∈ ZC, u.oneCell' = true) := by rw [hZC]; exact sg_one _ _ _ rfl rfl
  have BLZ : Hid (∀ (o : Oper) (ev : Operand → Value) (W : World), o.op = .build 26 #[] → (execOp ev o).run Try.prog W = .ok (.value (.agg ZC.toArray)) W) := fun o ev W ho => by rw [hZC]; exact exec_bldZ ho
  have HZC := hide hZC
  clear c1 c2 b2 hs1 hs2 hw1 hw2 hX hY hb hB hn hE hS hf hx hy hs6 hw3 b3 c3 f3 hZC
  -- what a zero answer leaves
  have ZERO : Hid (∀ W, Below w3.heap.size w3 W → CellsAt W s6 0 ZC ∧ (∀ y, W.frozen? ⟨s6, y, none⟩ = false) ∧ CellsAt (W.setCells s6 0 ZC) s6 0 ZC ∧ Below w.heap.size w (W.setCells s6 0 ZC)) := fun W hW => by
    have hc : CellsAt W s6 0 ZC := by rw [HZC.out]; exact C6.out.later l3 hW
    have bw := later B3.out hW
    exact ⟨hc, fun y => (hW.frozen (p := ⟨s6, y, none⟩) l3).trans (F6.out y), hc.stored rfl, bw.trans ((But.cells s6 ZC 0 W).below bw.size (fun g hg e => by have e : g = s6 := e; have := S6.out; omega))⟩
  go_enter Try.func21, Try.ntmps21
  go_upto_region 1 with fail
  clear hs1' hs2' hw1' hw2' hs6' hw3'
  have zn : (n : Int) ≤ 140737488351232 := by omega
  by_cases h1 : n < 20
  · have z : (n : Int) < 20 := by omega
    obtain ⟨e, eS⟩ := BADF.out 3 (by decide) (by rw [FE.out, if_pos h1])
    obtain ⟨z1, z2, z3, z4⟩ := ZERO.out w3 (Below.refl _ _)
    have Z1 := hide z1
    have Z2 := hide z2
    have Z3 := hide z3
    have Z4 := hide z4
    obtain ⟨wz, hwz⟩ : ∃ wz, wz = w3.setCells s6 0 ZC := ⟨_, rfl⟩
    rw [← hwz] at Z3 Z4
    have hwz' := hwz.symm
    subst eS e
    clear z1 z2 z3 z4 hwz
    go_wp2_with (first | refine wpList_val rfl (BLZ.out _ _ _ rfl) ?_ | (refine wpList_storeA rfl 26 10 sizSg _ _ rfl s6 0 rfl ZC ZC rfl LZC.out LZC.out Z1.out Z2.out OZC.out ?_; intro _; rw [hwz']))
    refine bodyPost_ret (v := .tuple #[.agg ZC.toArray, .int .i64 3]) (results_2 rfl _ _ s6 _ _ rfl rfl (run_loadVarA 26 10 aggSg sizSg s6 0 _ LZC.out Z3.out)) rfl ?_
    exact ⟨_, _, by rw [HZC.out], CG.nil _ _, IsB.nil _ _, Z4.out⟩
  have z20 : ¬ (n : Int) < 20 := by omega
  rw [if_neg h1] at FE
  obtain ⟨g, off, rfl, hgl⟩ : ∃ g off, a = some ⟨g, off, none⟩ ∧ g < w3.heap.size := by
    obtain ⟨a', c', e', _, _, h3⟩ := HD.out
    simp only [Value.slice.injEq] at e'
    obtain ⟨rfl, e1, _⟩ := e'
    obtain ⟨g, off, rfl, hl2, hc⟩ := h3 (by omega)
    exact ⟨g, off, rfl, hl2⟩
  have GW : Hid (g < w.heap.size) := GW0 g off _ _ rfl (by rw [← HN.out]; omega)
  clear GW0
  have CB : Hid (∀ W, Below w3.heap.size w3 W → ∀ j, j < n → W.cell? ⟨g, off + j, none⟩ = some (.int .u8 (nb bs j))) := fun W hW j hj => by
    obtain ⟨a', c', e', _, _, h3⟩ := HD.out.later hW
    simp only [Value.slice.injEq] at e'
    obtain ⟨rfl, e1, _⟩ := e'
    obtain ⟨g', off', e6, hl2, hc⟩ := h3 (by omega)
    cases e6
    exact hc j (by omega)
  obtain ⟨b12, hb12⟩ : ∃ b, b = nb bs 12 := ⟨_, rfl⟩
  have x12 : w3.cell? ⟨g, off + 12, none⟩ = some (.int .u8 b12) := by rw [hb12]; exact CB.out w3 (Below.refl _ _) 12 (by omega)
  obtain ⟨p0, p1⟩ : 0 ≤ b12 ∧ b12 ≤ 255 := by rw [hb12]; exact nb_bd BY.out 12
  obtain ⟨H, hH⟩ : ∃ H, H = hsN bs := ⟨_, rfl⟩
  have hHI : hsI4 bs = (H : Int) := by rw [hH]; exact (hs_bd BY.out).2.2.symm
  have H60 : (H : Int) ≤ 60 := by rw [← hHI]; exact (hs_bd BY.out).2.1
  have e12 : b12 / 16 * 4 = (H : Int) := by
    rw [← hHI, hb12]
    unfold hsI4 w16
    have h13 := nb_bd BY.out 13
    have h12 := nb_bd BY.out 12
    show nb bs 12 / 16 * 4 = (256 * nb bs 12 + nb bs (12 + 1)) / 4096 * 4
    have : nb bs (12 + 1) = nb bs 13 := rfl
    omega
  rw [hHI] at FE
  rw [← hH] at ES
  have HHS := hide hH
  have E12 := hide e12
  clear hb12 hH hHI e12 h1
  go_upto_region 4 with fail
  rw [E12.out]
  clear x12
  by_cases h2 : (H : Int) < 20
  ·
    obtain ⟨e, eS⟩ := BADF.out 4 (by decide) (by rw [FE.out, if_pos (.inl h2)])
    obtain ⟨z1, z2, z3, z4⟩ := ZERO.out w3 (Below.refl _ _)
    have Z1 := hide z1
    have Z2 := hide z2
    have Z3 := hide z3
    have Z4 := hide z4
    obtain ⟨wz, hwz⟩ : ∃ wz, wz = w3.setCells s6 0 ZC := ⟨_, rfl⟩
    rw [← hwz] at Z3 Z4
    have hwz' := hwz.symm
    subst eS e
    clear z1 z2 z3 z4 hwz
    go_wp2_with (first | refine wpList_val rfl (BLZ.out _ _ _ rfl) ?_ | (refine wpList_storeA rfl 26 10 sizSg _ _ rfl s6 0 rfl ZC ZC rfl LZC.out LZC.out Z1.out Z2.out OZC.out ?_; intro _; rw [hwz']))
    refine bodyPost_ret (v := .tuple #[.agg ZC.toArray, .int .i64 4]) (results_2 rfl _ _ s6 _ _ rfl rfl (run_loadVarA 26 10 aggSg sizSg s6 0 _ LZC.out Z3.out)) rfl ?_
    exact ⟨_, _, by rw [HZC.out], CG.nil _ _, IsB.nil _ _, Z4.out⟩
  by_cases h3 : (n : Int) < (H : Int)
  ·
    obtain ⟨e, eS⟩ := BADF.out 4 (by decide) (by rw [FE.out, if_pos (.inr h3)])
    obtain ⟨z1, z2, z3, z4⟩ := ZERO.out w3 (Below.refl _ _)
    have Z1 := hide z1
    have Z2 := hide z2
    have Z3 := hide z3
    have Z4 := hide z4
    obtain ⟨wz, hwz⟩ : ∃ wz, wz = w3.setCells s6 0 ZC := ⟨_, rfl⟩
    rw [← hwz] at Z3 Z4
    have hwz' := hwz.symm
    subst eS e
    clear z1 z2 z3 z4 hwz
    go_wp2_with (first | refine wpList_val rfl (BLZ.out _ _ _ rfl) ?_ | (refine wpList_storeA rfl 26 10 sizSg _ _ rfl s6 0 rfl ZC ZC rfl LZC.out LZC.out Z1.out Z2.out OZC.out ?_; intro _; rw [hwz']))
    refine bodyPost_ret (v := .tuple #[.agg ZC.toArray, .int .i64 4]) (results_2 rfl _ _ s6 _ _ rfl rfl (run_loadVarA 26 10 aggSg sizSg s6 0 _ LZC.out Z3.out)) rfl ?_
    exact ⟨_, _, by rw [HZC.out], CG.nil _ _, IsB.nil _ _, Z4.out⟩
  rw [if_neg (by omega)] at FE
  obtain ⟨cs, hcs⟩ : ∃ cs, cs = csum (psB x y 6 (n : Int) ++ bs) := ⟨_, rfl⟩
  have SU := rSumT_any x y XO.out YO.out (.slice (some ⟨g, off, none⟩) n c) bs w3 HD.out BY.out (by rw [← HN.out]; omega)
  rw [← HN.out, ← hcs, XV.out.1, XV.out.2] at SU
  rw [← hcs] at FE
  have HSU := hide SU
  clear hcs SU
  go_upto_region 6 with fail
  go_wp2_with (first | refine wpList_loadA rfl 35 4 aggI sizI _ rfl s1 0 rfl X LX.out C1.out ?_ | refine wpList_loadA rfl 35 4 aggI sizI _ rfl s2 0 rfl Y LY.out C2.out ?_)
  refine HSU.out.mono ?_
  rintro _ w4 ⟨rfl, b4⟩
  have B4 := hide b4
  clear b4 HSU C1 C2
  by_cases h4 : cs = 0
  case neg =>
    have q : (cs != 0) = true := by simpa using h4
    obtain ⟨e, eS⟩ := BADF.out 5 (by decide) (by rw [FE.out, if_pos h4])
    obtain ⟨z1, z2, z3, z4⟩ := ZERO.out w4 B4.out
    have Z1 := hide z1
    have Z2 := hide z2
    have Z3 := hide z3
    have Z4 := hide z4
    obtain ⟨wz, hwz⟩ : ∃ wz, wz = w4.setCells s6 0 ZC := ⟨_, rfl⟩
    rw [← hwz] at Z3 Z4
    have hwz' := hwz.symm
    subst eS e
    clear z1 z2 z3 z4 hwz
    go_wp2_with (first | refine wpList_val rfl (BLZ.out _ _ _ rfl) ?_ | (refine wpList_storeA rfl 26 10 sizSg _ _ rfl s6 0 rfl ZC ZC rfl LZC.out LZC.out Z1.out Z2.out OZC.out ?_; intro _; rw [hwz']))
    refine bodyPost_ret (v := .tuple #[.agg ZC.toArray, .int .i64 5]) (results_2 rfl _ _ s6 _ _ rfl rfl (run_loadVarA 26 10 aggSg sizSg s6 0 _ LZC.out Z3.out)) rfl ?_
    exact ⟨_, _, by rw [HZC.out], CG.nil _ _, IsB.nil _ _, Z4.out⟩
  rw [if_neg (by rw [h4]; decide)] at FE
  subst h4
  by_cases h5 : 1024 < (n : Int) - (H : Int)
  ·
    obtain ⟨e, eS⟩ := BADF.out 2 (by decide) (by rw [FE.out, if_pos h5])
    obtain ⟨z1, z2, z3, z4⟩ := ZERO.out w4 B4.out
    have Z1 := hide z1
    have Z2 := hide z2
    have Z3 := hide z3
    have Z4 := hide z4
    obtain ⟨wz, hwz⟩ : ∃ wz, wz = w4.setCells s6 0 ZC := ⟨_, rfl⟩
    rw [← hwz] at Z3 Z4
    have hwz' := hwz.symm
    subst eS e
    clear z1 z2 z3 z4 hwz
    go_wp2_with (first | refine wpList_val rfl (BLZ.out _ _ _ rfl) ?_ | (refine wpList_storeA rfl 26 10 sizSg _ _ rfl s6 0 rfl ZC ZC rfl LZC.out LZC.out Z1.out Z2.out OZC.out ?_; intro _; rw [hwz']))
    refine bodyPost_ret (v := .tuple #[.agg ZC.toArray, .int .i64 2]) (results_2 rfl _ _ s6 _ _ rfl rfl (run_loadVarA 26 10 aggSg sizSg s6 0 _ LZC.out Z3.out)) rfl ?_
    exact ⟨_, _, by rw [HZC.out], CG.nil _ _, IsB.nil _ _, Z4.out⟩
  rw [if_neg h5] at FE
  obtain ⟨P0, hP0⟩ : ∃ p, p = w16 bs 0 := ⟨_, rfl⟩
  obtain ⟨P2, hP2⟩ : ∃ p, p = w16 bs 2 := ⟨_, rfl⟩
  obtain ⟨P4, hP4⟩ : ∃ p, p = w32 bs 4 := ⟨_, rfl⟩
  obtain ⟨P8, hP8⟩ : ∃ p, p = w32 bs 8 := ⟨_, rfl⟩
  obtain ⟨b13, hb13⟩ : ∃ p, p = nb bs 13 := ⟨_, rfl⟩
  obtain ⟨PW, hPW⟩ : ∃ p, p = w16 bs 14 := ⟨_, rfl⟩
  have HHH : Hid (tdH bs = ⟨P0, P2, P4, P8, b13 % 32, PW, 0, false, [], []⟩) := by
    rw [hP0, hP2, hP4, hP8, hPW, hb13]
    have : w16 bs 12 % 32 = nb bs 13 % 32 := by
      unfold w16
      show (256 * nb bs 12 + nb bs 13) % 32 = _
      omega
    unfold Hid tdH
    rw [this]
  rw [← hP0, ← hP2] at FE
  have A2 : ∀ (k : Nat) (W : World), k + 2 ≤ 20 → Below w4.heap.size w4 W → Calls Try.prog 42 #[.slice (some ⟨g, off, none⟩) n c, .int .i64 (k : Int), .int .i64 2] W fun e w' => ∃ v, e = .returned v ∧ v = .int .i64 (w16 bs k) ∧ Below W.heap.size W w' := fun k W hk hW => by
    refine (rAt2_valT _ bs k W (HD.out.later (later B4.out hW)) BY.out (by rw [← HN.out]; omega) (by rw [← HN.out]; omega)).mono ?_
    rintro _ w' ⟨rfl, rfl⟩
    exact ⟨_, rfl, rfl, Below.refl _ _⟩
  have A4 : ∀ (k : Nat) (W : World), k + 4 ≤ 20 → Below w4.heap.size w4 W → Calls Try.prog 42 #[.slice (some ⟨g, off, none⟩) n c, .int .i64 (k : Int), .int .i64 4] W fun e w' => ∃ v, e = .returned v ∧ v = .int .i64 (w32 bs k) ∧ Below W.heap.size W w' := fun k W hk hW => by
    refine (rAt4_valT _ bs k W (HD.out.later (later B4.out hW)) BY.out (by rw [← HN.out]; omega) (by rw [← HN.out]; omega)).mono ?_
    rintro _ w' ⟨rfl, rfl⟩
    exact ⟨_, rfl, rfl, Below.refl _ _⟩
  have A0' := hide (A2 0)
  have A2' := hide (A2 2)
  have A14' := hide (A2 14)
  have A4' := hide (A4 4)
  have A8' := hide (A4 8)
  rw [← hP0] at A0'
  rw [← hP2] at A2'
  rw [← hPW] at A14'
  rw [← hP4] at A4'
  rw [← hP8] at A8'
  obtain ⟨q40, q41⟩ : 0 ≤ P4 ∧ P4 < 4294967296 := by rw [hP4]; exact w32_bd BY.out _
  obtain ⟨q80, q81⟩ : 0 ≤ P8 ∧ P8 < 4294967296 := by rw [hP8]; exact w32_bd BY.out _
  obtain ⟨q130, q131⟩ : 0 ≤ b13 ∧ b13 ≤ 255 := by rw [hb13]; exact nb_bd BY.out 13
  have pb0 : Hid (0 ≤ P0 ∧ P0 ≤ 65535) := by rw [hP0]; exact w16_bd BY.out _
  have pb2 : Hid (0 ≤ P2 ∧ P2 ≤ 65535) := by rw [hP2]; exact w16_bd BY.out _
  obtain ⟨AD, hAD⟩ : ∃ AD, AD = (if c = H then some (⟨g, off, none⟩ : Addr) else some ⟨g, off + H, none⟩) := ⟨_, rfl⟩
  have X13 : Hid (∀ W, Below w4.heap.size w4 W → W.cell? ⟨g, off + 13, none⟩ = some (.int .u8 b13)) := fun W hW => by rw [hb13]; exact CB.out W (later B4.out hW) 13 (by omega)
  clear A2 A4 hP0 hP2 hP4 hP8 hb13 hPW
  go_upto_region 10 with fail
  have BW : ∀ W, Below w4.heap.size w4.drew W → Below w4.heap.size w4 W := fun W hb => later (later_drew _) hb
  have hHn : H ≤ n := by omega
  refine region_grow_store (w := w4) (fun i v W => match i with | 0 => v = .slice (some ⟨g, off, none⟩) n c | 1 => v = .int .i64 P0 | 2 => v = .slice (some ⟨g, off, none⟩) n c | 3 => v = .int .i64 P2 | 4 => v = .slice (some ⟨g, off, none⟩) n c | 5 => v = .int .i64 P4 | 6 => v = .int .u32 P4 | 7 => v = .slice (some ⟨g, off, none⟩) n c | 8 => v = .int .i64 P8 | 9 => v = .int .u32 P8 | 10 => v = .slice (some ⟨g, off, none⟩) n c | 11 => v = .pointer (some ⟨g, off + 13, none⟩) | 12 => v = .int .u8 b13 | 13 => v = .int .i64 b13 | 14 => v = .int .i64 (b13 % 32) | 15 => v = .slice (some ⟨g, off, none⟩) n c | 16 => v = .int .i64 PW | 17 => v = .slice (some ⟨g, off, none⟩) n c | 18 => v = .int .i64 (H : Int) | 19 => v = .slice AD (n - H) (c - H) | 20 => v = .agg (Sg.cells ⟨P0, P2, P4, P8, b13 % 32, PW, 0, false, [], []⟩ (.slice none 0 0) (.slice AD (n - H) (c - H))).toArray | 21 => BoxSeg w4.heap.size W v (zSg.cells (.slice none 0 0) (.slice none 0 0)) | _ => True) (by kernel_rfl) (by kernel_rfl) (by kernel_rfl) 22 rfl _ rfl rfl (no_guard (by kernel_rfl)) (fun i v W W' h hb => match i, h with | 0, h => h | 1, h => h | 2, h => h | 3, h => h | 4, h => h | 5, h => h | 6, h => h | 7, h => h | 8, h => h | 9, h => h | 10, h => h | 11, h => h | 12, h => h | 13, h => h | 14, h => h | 15, h => h | 16, h => h | 17, h => h | 18, h => h | 19, h => h | 20, h => h | 21, h => BoxSeg.later h hb | _ + 22, h => h) ?_ ?_
  · intro listed a W hM hn i o ho hlt hr
    have B := hM.bel
    match i, ho, hlt, hr with
    | 0, ho, _, hr =>
      have u2 : a.eval (.tmp 2) = .slice (some ⟨g, off, none⟩) n c := hM.keep (t := 2) (by kernel_rfl)
      exact Step.of rfl (.inl ⟨.slice (some ⟨g, off, none⟩) n c, W, exec_move _ _ rfl u2, Below.refl _ _, rfl⟩) ho
    | 1, ho, _, hr =>
      have u42 := hM.use hr rfl (j := 0) (by kernel_rfl) rfl rfl
      have u42 : a.eval (.tmp 42) = .slice (some ⟨g, off, none⟩) n c := u42
      refine Step.of rfl (.inr ⟨42, #[.slice (some ⟨g, off, none⟩) n c, .int .i64 0, .int .i64 2], exec_callF _ _ _ _ rfl (map3 u42 rfl rfl) (enters_of Try.func42 (by kernel_rfl) rfl), ?_⟩) ho
      exact A0'.out W (by decide) (BW W B)
    | 2, ho, _, hr =>
      have u2 : a.eval (.tmp 2) = .slice (some ⟨g, off, none⟩) n c := hM.keep (t := 2) (by kernel_rfl)
      exact Step.of rfl (.inl ⟨.slice (some ⟨g, off, none⟩) n c, W, exec_move _ _ rfl u2, Below.refl _ _, rfl⟩) ho
    | 3, ho, _, hr =>
      have u44 := hM.use hr rfl (j := 2) (by kernel_rfl) rfl rfl
      have u44 : a.eval (.tmp 44) = .slice (some ⟨g, off, none⟩) n c := u44
      refine Step.of rfl (.inr ⟨42, #[.slice (some ⟨g, off, none⟩) n c, .int .i64 2, .int .i64 2], exec_callF _ _ _ _ rfl (map3 u44 rfl rfl) (enters_of Try.func42 (by kernel_rfl) rfl), ?_⟩) ho
      exact A2'.out W (by decide) (BW W B)
    | 4, ho, _, hr =>
      have u2 : a.eval (.tmp 2) = .slice (some ⟨g, off, none⟩) n c := hM.keep (t := 2) (by kernel_rfl)
      exact Step.of rfl (.inl ⟨.slice (some ⟨g, off, none⟩) n c, W, exec_move _ _ rfl u2, Below.refl _ _, rfl⟩) ho
    | 5, ho, _, hr =>
      have u46 := hM.use hr rfl (j := 4) (by kernel_rfl) rfl rfl
      have u46 : a.eval (.tmp 46) = .slice (some ⟨g, off, none⟩) n c := u46
      refine Step.of rfl (.inr ⟨42, #[.slice (some ⟨g, off, none⟩) n c, .int .i64 4, .int .i64 4], exec_callF _ _ _ _ rfl (map3 u46 rfl rfl) (enters_of Try.func42 (by kernel_rfl) rfl), ?_⟩) ho
      exact A4'.out W (by decide) (BW W B)
    | 6, ho, _, hr =>
      have u47 := hM.use hr rfl (j := 5) (by kernel_rfl) rfl rfl
      have u47 : (fun v W => v = .int .i64 P4) (a.eval (.tmp 47)) W := u47
      exact Step.of rfl (.inl ⟨.int .u32 P4, W, exec_cvB _ _ rfl u47 q40 q41, Below.refl _ _, rfl⟩) ho
    | 7, ho, _, hr =>
      have u2 : a.eval (.tmp 2) = .slice (some ⟨g, off, none⟩) n c := hM.keep (t := 2) (by kernel_rfl)
      exact Step.of rfl (.inl ⟨.slice (some ⟨g, off, none⟩) n c, W, exec_move _ _ rfl u2, Below.refl _ _, rfl⟩) ho
    | 8, ho, _, hr =>
      have u49 := hM.use hr rfl (j := 7) (by kernel_rfl) rfl rfl
      have u49 : a.eval (.tmp 49) = .slice (some ⟨g, off, none⟩) n c := u49
      refine Step.of rfl (.inr ⟨42, #[.slice (some ⟨g, off, none⟩) n c, .int .i64 8, .int .i64 4], exec_callF _ _ _ _ rfl (map3 u49 rfl rfl) (enters_of Try.func42 (by kernel_rfl) rfl), ?_⟩) ho
      exact A8'.out W (by decide) (BW W B)
    | 9, ho, _, hr =>
      have u50 := hM.use hr rfl (j := 8) (by kernel_rfl) rfl rfl
      have u50 : (fun v W => v = .int .i64 P8) (a.eval (.tmp 50)) W := u50
      exact Step.of rfl (.inl ⟨.int .u32 P8, W, exec_cvB _ _ rfl u50 q80 q81, Below.refl _ _, rfl⟩) ho
    | 10, ho, _, hr =>
      have u2 : a.eval (.tmp 2) = .slice (some ⟨g, off, none⟩) n c := hM.keep (t := 2) (by kernel_rfl)
      exact Step.of rfl (.inl ⟨.slice (some ⟨g, off, none⟩) n c, W, exec_move _ _ rfl u2, Below.refl _ _, rfl⟩) ho
    | 11, ho, _, hr =>
      have u52 := hM.use hr rfl (j := 10) (by kernel_rfl) rfl rfl
      have u52 : a.eval (.tmp 52) = .slice (some ⟨g, off, none⟩) n c := u52
      exact Step.of rfl (.inl ⟨.pointer (some ⟨g, off + 13, none⟩), W, exec_ixC _ 13 g off n c 13 rfl rfl (fun _ => rfl) u52 (by omega), Below.refl _ _, rfl⟩) ho
    | 12, ho, _, hr =>
      have u53 := hM.use hr rfl (j := 11) (by kernel_rfl) rfl rfl
      have u53 : a.eval (.tmp 53) = .pointer (some ⟨g, off + 13, none⟩) := u53
      exact Step.of rfl (.inl ⟨.int .u8 b13, W, exec_load1 5 oneU _ rfl g (off + 13) u53 (.int .u8 b13) (X13.out W (BW W B)), Below.refl _ _, rfl⟩) ho
    | 13, ho, _, hr =>
      have u54 := hM.use hr rfl (j := 12) (by kernel_rfl) rfl rfl
      have u54 : a.eval (.tmp 54) = .int .u8 b13 := u54
      exact Step.of rfl (.inl ⟨.int .i64 b13, W, exec_cvti _ _ rfl u54 q130 q131, Below.refl _ _, rfl⟩) ho
    | 14, ho, _, hr =>
      have u55 := hM.use hr rfl (j := 13) (by kernel_rfl) rfl rfl
      have u55 : a.eval (.tmp 55) = .int .i64 b13 := u55
      exact Step.of rfl (.inl ⟨.int .i64 (b13 % 32), W, exec_rem32 _ _ _ rfl (fun _ => rfl) u55 q130, Below.refl _ _, rfl⟩) ho
    | 15, ho, _, hr =>
      have u2 : a.eval (.tmp 2) = .slice (some ⟨g, off, none⟩) n c := hM.keep (t := 2) (by kernel_rfl)
      exact Step.of rfl (.inl ⟨.slice (some ⟨g, off, none⟩) n c, W, exec_move _ _ rfl u2, Below.refl _ _, rfl⟩) ho
    | 16, ho, _, hr =>
      have u57 := hM.use hr rfl (j := 15) (by kernel_rfl) rfl rfl
      have u57 : a.eval (.tmp 57) = .slice (some ⟨g, off, none⟩) n c := u57
      refine Step.of rfl (.inr ⟨42, #[.slice (some ⟨g, off, none⟩) n c, .int .i64 14, .int .i64 2], exec_callF _ _ _ _ rfl (map3 u57 rfl rfl) (enters_of Try.func42 (by kernel_rfl) rfl), ?_⟩) ho
      exact A14'.out W (by decide) (BW W B)
    | 17, ho, _, hr =>
      have u2 : a.eval (.tmp 2) = .slice (some ⟨g, off, none⟩) n c := hM.keep (t := 2) (by kernel_rfl)
      exact Step.of rfl (.inl ⟨.slice (some ⟨g, off, none⟩) n c, W, exec_move _ _ rfl u2, Below.refl _ _, rfl⟩) ho
    | 18, ho, _, hr =>
      have u8 : a.eval (.tmp 8) = .int .i64 (H : Int) := hM.keep (t := 8) (by kernel_rfl)
      exact Step.of rfl (.inl ⟨.int .i64 (H : Int), W, exec_move _ _ rfl u8, Below.refl _ _, rfl⟩) ho
    | 19, ho, _, hr =>
      have u59 := hM.use hr rfl (j := 17) (by kernel_rfl) rfl rfl
      have u59 : a.eval (.tmp 59) = .slice (some ⟨g, off, none⟩) n c := u59
      have u60 := hM.use hr rfl (j := 18) (by kernel_rfl) rfl rfl
      have u60 : a.eval (.tmp 60) = .int .i64 (H : Int) := u60
      exact Step.of rfl (.inl ⟨.slice AD (n - H) (c - H), W, exec_slV _ _ g off n c H AD hAD rfl u59 u60 hHn, Below.refl _ _, rfl⟩) ho
    | 20, ho, _, hr =>
      have u43 := hM.use hr rfl (j := 1) (by kernel_rfl) rfl rfl
      have u43 : (fun v W => v = .int .i64 P0) (a.eval (.tmp 43)) W := u43
      have u45 := hM.use hr rfl (j := 3) (by kernel_rfl) rfl rfl
      have u45 : (fun v W => v = .int .i64 P2) (a.eval (.tmp 45)) W := u45
      have u48 := hM.use hr rfl (j := 6) (by kernel_rfl) rfl rfl
      have u48 : a.eval (.tmp 48) = .int .u32 P4 := u48
      have u51 := hM.use hr rfl (j := 9) (by kernel_rfl) rfl rfl
      have u51 : a.eval (.tmp 51) = .int .u32 P8 := u51
      have u56 := hM.use hr rfl (j := 14) (by kernel_rfl) rfl rfl
      have u56 : a.eval (.tmp 56) = .int .i64 (b13 % 32) := u56
      have u58 := hM.use hr rfl (j := 16) (by kernel_rfl) rfl rfl
      have u58 : (fun v W => v = .int .i64 PW) (a.eval (.tmp 58)) W := u58
      have u61 := hM.use hr rfl (j := 19) (by kernel_rfl) rfl rfl
      have u61 : a.eval (.tmp 61) = .slice AD (n - H) (c - H) := u61
      exact Step.of rfl (.inl ⟨.agg (Sg.cells ⟨P0, P2, P4, P8, b13 % 32, PW, 0, false, [], []⟩ (.slice none 0 0) (.slice AD (n - H) (c - H))).toArray, W, exec_bldD _ _ _ _ _ _ _ _ _ _ _ _ _ _ _ _ rfl u43 u45 u48 u51 u56 u58 u61, Below.refl _ _, rfl⟩) ho
    | 21, ho, _, hr =>
      refine Step.of rfl (.inl ?_) ho
      exact boxSeg_made rfl hn
    | n + 22, _, hlt, _ => exact absurd hlt (by omega)
  intro listed a W hM hl
  have B := hM.bel
  have p42 : a.tmps.getD 42 undef = .slice (some ⟨g, off, none⟩) n c := hM.got 0 _ _ rfl (hl 0 (by decide)) rfl
  have p43 : (fun v W => v = .int .i64 P0) (a.tmps.getD 43 undef) W := hM.got 1 _ _ rfl (hl 1 (by decide)) rfl
  have p44 : a.tmps.getD 44 undef = .slice (some ⟨g, off, none⟩) n c := hM.got 2 _ _ rfl (hl 2 (by decide)) rfl
  have p45 : (fun v W => v = .int .i64 P2) (a.tmps.getD 45 undef) W := hM.got 3 _ _ rfl (hl 3 (by decide)) rfl
  have p46 : a.tmps.getD 46 undef = .slice (some ⟨g, off, none⟩) n c := hM.got 4 _ _ rfl (hl 4 (by decide)) rfl
  have p47 : (fun v W => v = .int .i64 P4) (a.tmps.getD 47 undef) W := hM.got 5 _ _ rfl (hl 5 (by decide)) rfl
  have p48 : a.tmps.getD 48 undef = .int .u32 P4 := hM.got 6 _ _ rfl (hl 6 (by decide)) rfl
  have p49 : a.tmps.getD 49 undef = .slice (some ⟨g, off, none⟩) n c := hM.got 7 _ _ rfl (hl 7 (by decide)) rfl
  have p50 : (fun v W => v = .int .i64 P8) (a.tmps.getD 50 undef) W := hM.got 8 _ _ rfl (hl 8 (by decide)) rfl
  have p51 : a.tmps.getD 51 undef = .int .u32 P8 := hM.got 9 _ _ rfl (hl 9 (by decide)) rfl
  have p52 : a.tmps.getD 52 undef = .slice (some ⟨g, off, none⟩) n c := hM.got 10 _ _ rfl (hl 10 (by decide)) rfl
  have p53 : a.tmps.getD 53 undef = .pointer (some ⟨g, off + 13, none⟩) := hM.got 11 _ _ rfl (hl 11 (by decide)) rfl
  have p54 : a.tmps.getD 54 undef = .int .u8 b13 := hM.got 12 _ _ rfl (hl 12 (by decide)) rfl
  have p55 : a.tmps.getD 55 undef = .int .i64 b13 := hM.got 13 _ _ rfl (hl 13 (by decide)) rfl
  have p56 : a.tmps.getD 56 undef = .int .i64 (b13 % 32) := hM.got 14 _ _ rfl (hl 14 (by decide)) rfl
  have p57 : a.tmps.getD 57 undef = .slice (some ⟨g, off, none⟩) n c := hM.got 15 _ _ rfl (hl 15 (by decide)) rfl
  have p58 : (fun v W => v = .int .i64 PW) (a.tmps.getD 58 undef) W := hM.got 16 _ _ rfl (hl 16 (by decide)) rfl
  have p59 : a.tmps.getD 59 undef = .slice (some ⟨g, off, none⟩) n c := hM.got 17 _ _ rfl (hl 17 (by decide)) rfl
  have p60 : a.tmps.getD 60 undef = .int .i64 (H : Int) := hM.got 18 _ _ rfl (hl 18 (by decide)) rfl
  have p61 : a.tmps.getD 61 undef = .slice AD (n - H) (c - H) := hM.got 19 _ _ rfl (hl 19 (by decide)) rfl
  have p62 : a.tmps.getD 62 undef = .agg (Sg.cells ⟨P0, P2, P4, P8, b13 % 32, PW, 0, false, [], []⟩ (.slice none 0 0) (.slice AD (n - H) (c - H))).toArray := hM.got 20 _ _ rfl (hl 20 (by decide)) rfl
  have p9 : (fun v W => BoxSeg w4.heap.size W v (zSg.cells (.slice none 0 0) (.slice none 0 0))) (a.tmps.getD 9 undef) W := hM.got 21 _ _ rfl (hl 21 (by decide)) rfl
  obtain ⟨s9, e9, h91, h92, h93, h94⟩ := p9
  refine ⟨W.setCells s9 0 (Sg.cells ⟨P0, P2, P4, P8, b13 % 32, PW, 0, false, [], []⟩ (.slice none 0 0) (.slice AD (n - H) (c - H))), exec_storeA 26 10 sizSg (.tmp 9) (.tmp 62) rfl s9 0 e9 _ (zSg.cells (.slice none 0 0) (.slice none 0 0)) p62 rfl rfl h93 h94 (sg_one _ _ _ rfl rfl), ?_⟩
  rw [hM.lit [42, 43, 44, 45, 46, 47, 48, 49, 50, 51, 52, 53, 54, 55, 56, 57, 58, 59, 60, 61, 62, 9] (by kernel_rfl)]
  clear hM hl
  simp only [fill, List.foldl_cons, List.foldl_nil, Act.put, List.setIfInBounds_toArray, List.set_cons_zero, List.set_cons_succ]
  clear p42
  generalize a.tmps.getD 42 undef = x42 at *
  generalize a.tmps.getD 43 undef = x43 at *
  clear p44
  generalize a.tmps.getD 44 undef = x44 at *
  generalize a.tmps.getD 45 undef = x45 at *
  clear p46
  generalize a.tmps.getD 46 undef = x46 at *
  generalize a.tmps.getD 47 undef = x47 at *
  clear p48
  generalize a.tmps.getD 48 undef = x48 at *
  clear p49
  generalize a.tmps.getD 49 undef = x49 at *
  generalize a.tmps.getD 50 undef = x50 at *
  clear p51
  generalize a.tmps.getD 51 undef = x51 at *
  clear p52
  generalize a.tmps.getD 52 undef = x52 at *
  clear p53
  generalize a.tmps.getD 53 undef = x53 at *
  clear p54
  generalize a.tmps.getD 54 undef = x54 at *
  clear p55
  generalize a.tmps.getD 55 undef = x55 at *
  clear p56
  generalize a.tmps.getD 56 undef = x56 at *
  clear p57
  generalize a.tmps.getD 57 undef = x57 at *
  generalize a.tmps.getD 58 undef = x58 at *
  clear p59
  generalize a.tmps.getD 59 undef = x59 at *
  clear p60
  generalize a.tmps.getD 60 undef = x60 at *
  clear p61
  generalize a.tmps.getD 61 undef = x61 at *
  clear p62
  generalize a.tmps.getD 62 undef = x62 at *
  generalize a.tmps.getD 9 undef = x9 at *
  obtain ⟨hd, hhd⟩ : ∃ hd : Sg, hd = ⟨P0, P2, P4, P8, b13 % 32, PW, 0, false, [], []⟩ := ⟨_, rfl⟩
  rw [← hhd]
  have HHD : Hid (tdH bs = hd) := by rw [hhd]; exact HHH.out
  have hdf : hd.flg = b13 % 32 := by rw [hhd]
  have hd0 : hd.src = P0 := by rw [hhd]
  have hd2 : hd.dst = P2 := by rw [hhd]
  have hd3 : hd.mss = 0 ∧ hd.sak = false ∧ hd.got = [] := by rw [hhd]; exact ⟨rfl, rfl, rfl⟩
  obtain ⟨K, hK⟩ : ∃ K, K = hd.cells (.slice none 0 0) (.slice AD (n - H) (c - H)) := ⟨_, rfl⟩
  rw [← hK]
  have LK : Hid (K.length = 10) := by rw [hK]; exact rfl
  have B2 : Below w4.heap.size w4 W := BW W B
  have bo := But.cells s9 K 0 W
  obtain ⟨wf, hwf⟩ : ∃ wf, wf = W.setCells s9 0 K := ⟨_, rfl⟩
  rw [← hwf]
  have C9 : Hid (CellsAt wf s9 0 K) := by rw [hwf]; exact h93.stored (by rw [LK.out]; rfl)
  have F9 : Hid (∀ y, wf.frozen? ⟨s9, y, none⟩ = false) := fun y => by rw [hwf, World.frozen?_setCells]; exact h94 y
  have L9 : s9 < wf.heap.size := C9.out.lt (by rw [LK.out]; decide)
  have bf : Below w4.heap.size w4 wf := by rw [hwf]; exact B2.trans (bo.below B2.size (fun q hq e => by have e : q = s9 := e; omega))
  have BF := hide (later B4.out bf)
  have S9 : Hid (w3.heap.size ≤ s9) := by unfold Hid; have := B4.out.size; omega
  subst e9
  have k0 : wf.cell? ⟨s9, 0, none⟩ = some (.int .i64 P0) := by
    have := C9.out 0 (.int .i64 P0) (by rw [hK, ← hd0]; rfl)
    rw [Nat.add_zero] at this
    exact this
  have k1 : wf.cell? ⟨s9, 1, none⟩ = some (.int .i64 P2) := by
    have := C9.out 1 (.int .i64 P2) (by rw [hK, ← hd2]; rfl)
    exact this
  have RW0 : Hid (RoW wf s9 hd (.slice AD (n - H) (c - H)) ⟨0, false, []⟩ wf) := by
    refine ⟨F9.out, ⟨.slice none 0 0, ?_, RowF.nil _ _ _ _⟩, But.refl _ _⟩
    have e : hd.ro ⟨0, false, []⟩ = hd := by
      unfold Sg.ro
      rw [← hd3.1, ← hd3.2.1, ← hd3.2.2]
    rw [e, ← hK]
    exact C9.out
  have HAD := hide hAD
  have HFL : Hid (0 ≤ hd.flg ∧ hd.flg ≤ 31) := by rw [hdf]; unfold Hid; omega
  clear p43 p45 p47 p50 p58 h93 h94 hwf B B2 bo hhd hdf hd0 hd2 hd3 hK HHH A0' A2' A14' A4' A8' X13 bf BW hAD
  by_cases j0 : P0 = 0
  · have q : (P0 == 0) = true := by simpa using j0
    obtain ⟨e, eS⟩ := BADF.out 1 (by decide) (by rw [FE.out, if_pos (.inl (by rw [j0]; rfl))])
    obtain ⟨z1, z2, z3, z4⟩ := ZERO.out wf BF.out
    have Z1 := hide z1
    have Z2 := hide z2
    have Z3 := hide z3
    have Z4 := hide z4
    obtain ⟨wz, hwz⟩ : ∃ wz, wz = wf.setCells s6 0 ZC := ⟨_, rfl⟩
    rw [← hwz] at Z3 Z4
    have hwz' := hwz.symm
    subst eS e
    clear z1 z2 z3 z4 hwz
    go_wp2_with (first | refine wpList_val rfl (BLZ.out _ _ _ rfl) ?_ | (refine wpList_storeA rfl 26 10 sizSg _ _ rfl s6 0 rfl ZC ZC rfl LZC.out LZC.out Z1.out Z2.out OZC.out ?_; intro _; rw [hwz']))
    refine bodyPost_ret (v := .tuple #[.agg ZC.toArray, .int .i64 1]) (results_2 rfl _ _ s6 _ _ rfl rfl (run_loadVarA 26 10 aggSg sizSg s6 0 _ LZC.out Z3.out)) rfl ?_
    exact ⟨_, _, by rw [HZC.out], CG.nil _ _, IsB.nil _ _, Z4.out⟩
  by_cases j2 : P2 = 0
  · have q : (P2 == 0) = true := by simpa using j2
    have q0 : (P0 == 0) = false := by simpa using j0
    obtain ⟨e, eS⟩ := BADF.out 1 (by decide) (by rw [FE.out, if_pos (.inr (by rw [j2]; rfl))])
    obtain ⟨z1, z2, z3, z4⟩ := ZERO.out wf BF.out
    have Z1 := hide z1
    have Z2 := hide z2
    have Z3 := hide z3
    have Z4 := hide z4
    obtain ⟨wz, hwz⟩ : ∃ wz, wz = wf.setCells s6 0 ZC := ⟨_, rfl⟩
    rw [← hwz] at Z3 Z4
    have hwz' := hwz.symm
    subst eS e
    clear z1 z2 z3 z4 hwz
    go_wp2_with (first | refine wpList_val rfl (BLZ.out _ _ _ rfl) ?_ | (refine wpList_storeA rfl 26 10 sizSg _ _ rfl s6 0 rfl ZC ZC rfl LZC.out LZC.out Z1.out Z2.out OZC.out ?_; intro _; rw [hwz']))
    refine bodyPost_ret (v := .tuple #[.agg ZC.toArray, .int .i64 1]) (results_2 rfl _ _ s6 _ _ rfl rfl (run_loadVarA 26 10 aggSg sizSg s6 0 _ LZC.out Z3.out)) rfl ?_
    exact ⟨_, _, by rw [HZC.out], CG.nil _ _, IsB.nil _ _, Z4.out⟩
  have q0 : (P0 == 0) = false := by simpa using j0
  have q2 : (P2 == 0) = false := by simpa using j2
  have f0 : f = 0 := by
    rw [FE.out, if_neg]
    rw [prt_zeroT pb0.out.1 pb0.out.2, prt_zeroT pb2.out.1 pb2.out.2, decide_eq_false j0, decide_eq_false j2]
    decide
  have EE2 : Hid (E = if (tdR bs).1 = false then 140 else 0) := by unfold Hid; rw [EE.out, if_neg (by rw [f0]; decide)]
  have h20H : 20 ≤ H := by omega
  have hHn2 : H ≤ n := by omega
  have h60 : H ≤ 60 := by omega
  clear j0 j2 FE EE f0
  obtain ⟨ad, had⟩ : ∃ ad, ad = if c = 20 then some (⟨g, off, none⟩ : Addr) else some ⟨g, off + 20, none⟩ := ⟨_, rfl⟩
  obtain ⟨ob, hob⟩ : ∃ ob, ob = (bs.take H).drop 20 := ⟨_, rfl⟩
  have RO := rRead_any (w := wf) s9 hd (.slice AD (n - H) (c - H)) HFL.out ⟨0, false, []⟩ RW0.out L9 ad (H - 20) (c - 20) ob (by rw [hob, List.length_drop, List.length_take, ← HN.out]; omega) (by
    have h1 := ((HD.out.later BF.out).take H (by rw [← HN.out]; omega)).drop 20 (by rw [List.length_take, ← HN.out]; omega)
    rw [drop_addrT, ← had, ← hob] at h1
    exact h1) (fun g' off' e => by
      rw [had] at e
      have := S9.out
      split at e <;> (cases e; omega)) (by rw [hob]; exact (BY.out.take _).drop _) (by omega)
  obtain ⟨R, hR⟩ : ∃ R, R = tdR bs := ⟨_, rfl⟩
  have ER : rdO (hasB hd.flg 2) ob ⟨0, false, []⟩ = R := by
    rw [hR, hob, ← HHD.out, HHS.out]
    exact rfl
  rw [ER] at RO
  rw [← hR] at EE2 ES
  have HRO := hide RO
  have HADA := hide had
  obtain ⟨R1, hR1⟩ : ∃ R1, R1 = R.1 := ⟨_, rfl⟩
  rw [← hR1] at EE2
  have HR1 := hide hR1
  clear had hob RO hR ER hR1
  go_upto_region 13 with fail
  clear k0 k1
  go_wp2_with (refine wpList_val rfl (exec_slLH _ _ g off n c 20 H 20 rfl ad HADA.out rfl (fun _ => rfl) rfl rfl (by omega) (by omega)) ?_)
  refine HRO.out.mono ?_
  rintro _ wg ⟨rfl, rw9⟩
  rw [← HR1.out]
  have bg : Below w3.heap.size w3 wg := BF.out.trans (rw9.bel.below BF.out.size (fun q hq e => by have e : q = s9 := e; have := S9.out; omega))
  have BG := hide bg
  have RM := hide rw9
  clear bg rw9 HRO RW0
  cases R1 with
  | false =>
    have e : E = 140 := by rw [EE2.out]; rfl
    have eS : S = zSg := by rw [ES.out, if_neg (by rw [e]; decide)]
    obtain ⟨z1, z2, z3, z4⟩ := ZERO.out wg BG.out
    have Z1 := hide z1
    have Z2 := hide z2
    have Z3 := hide z3
    have Z4 := hide z4
    obtain ⟨wz, hwz⟩ : ∃ wz, wz = wg.setCells s6 0 ZC := ⟨_, rfl⟩
    rw [← hwz] at Z3 Z4
    have hwz' := hwz.symm
    subst eS e
    clear z1 z2 z3 z4 hwz
    go_wp2_with (first | refine wpList_val rfl (BLZ.out _ _ _ rfl) ?_ | (refine wpList_storeA rfl 26 10 sizSg _ _ rfl s6 0 rfl ZC ZC rfl LZC.out LZC.out Z1.out Z2.out OZC.out ?_; intro _; rw [hwz']))
    refine bodyPost_ret (v := .tuple #[.agg ZC.toArray, .int .i64 140]) (results_2 rfl _ _ s6 _ _ rfl rfl (run_loadVarA 26 10 aggSg sizSg s6 0 _ LZC.out Z3.out)) rfl ?_
    exact ⟨_, _, by rw [HZC.out], CG.nil _ _, IsB.nil _ _, Z4.out⟩
  | true =>
    have e : E = 0 := by rw [EE2.out]; rfl
    have eS : S = { hd.ro R.2 with dat := bs.drop H } := by rw [ES.out, if_pos e, HHD.out]
    obtain ⟨gv, cg, gg⟩ := RM.out.row
    obtain ⟨ga, gc, egv⟩ := gg.shape
    obtain ⟨KK, hKK⟩ : ∃ KK, KK = (hd.ro R.2).cells gv (.slice AD (n - H) (c - H)) := ⟨_, rfl⟩
    have LKK : Hid (KK.length = 10) := by rw [hKK]; exact rfl
    have OKK : Hid (∀ u ∈ KK, u.oneCell' = true) := by rw [hKK, egv]; exact sg_one _ _ _ rfl rfl
    rw [← hKK] at cg
    have CG9 := hide cg
    obtain ⟨z1, z2, _, _⟩ := ZERO.out wg BG.out
    have Z1 := hide z1
    have Z2 := hide z2
    obtain ⟨wz, hwz⟩ : ∃ wz, wz = wg.setCells s6 0 KK := ⟨_, rfl⟩
    have C6 : Hid (CellsAt wz s6 0 KK) := by rw [hwz]; exact Z1.out.stored (by rw [LKK.out, LZC.out])
    have n6 : But (Only s6) wg wz := by rw [hwz]; exact But.cells s6 KK 0 wg
    have bw : Below w.heap.size w wg := later B3.out BG.out
    have BZ : Hid (Below w.heap.size w wz) := bw.trans (n6.below bw.size (fun q hq e => by have e : q = s6 := e; have := S6.out; omega))
    have GZ : Hid (CG (fun q => w.heap.size ≤ q) wz gv R.2.got) := (show GG (fun q => wf.heap.size ≤ q) wz gv R.2.got from RowF.but gg n6 (fun q e e2 => by have e2 : q = s6 := e2; have := BF.out.size; omega)).cg.own (fun q hq e => by have h1 := BF.out.size; have h2 := B3.out.size; omega)
    have DZ : Hid (IsB wz.heap.size wz (.slice AD (n - H) (c - H)) (bs.drop H)) := by
      have h1 := (HD.out.later BG.out).drop H (by rw [← HN.out]; omega)
      rw [drop_addrT, ← HAD.out] at h1
      obtain ⟨a', c', e', e1, e2, e3⟩ := h1
      simp only [Value.slice.injEq] at e'
      obtain ⟨rfl, e4, rfl⟩ := e'
      refine ⟨AD, c - H, by rw [e4], e1, e2, fun h0 => ?_⟩
      obtain ⟨g', off', e5, hl5, hc5⟩ := e3 h0
      refine ⟨g', off', e5, Nat.lt_of_lt_of_le hl5 n6.size, fun j hj => ?_⟩
      rw [(n6.cell (p := ⟨g', off' + j, none⟩) hl5 (fun e6 => by
        have e6 : g' = s6 := e6
        have h9 := HAD.out
        rw [e5] at h9
        have hgw : g < w.heap.size := GW.out
        have := S6.out
        split at h9 <;> (cases h9; omega)))]
      exact hc5 j hj
    have hwz' := hwz.symm
    have HKK := hide hKK
    subst eS e
    clear cg gg z1 z2 hwz n6 bw hKK egv
    go_wp2_with (first | refine wpList_loadA rfl 26 10 aggSg sizSg _ rfl s9 0 rfl KK LKK.out CG9.out ?_ | (refine wpList_storeA rfl 26 10 sizSg _ _ rfl s6 0 rfl KK ZC rfl LKK.out LZC.out Z1.out Z2.out OKK.out ?_; intro _; rw [hwz']))
    refine bodyPost_ret (v := .tuple #[.agg KK.toArray, .int .i64 0]) (results_2 rfl _ _ s6 _ _ rfl rfl (run_loadVarA 26 10 aggSg sizSg s6 0 _ LKK.out C6.out)) rfl ?_
    exact ⟨_, _, by rw [HKK.out]; rfl, GZ.out, DZ.out, BZ.out⟩
end Go.Proofs.Ytggadchhkenipaa
