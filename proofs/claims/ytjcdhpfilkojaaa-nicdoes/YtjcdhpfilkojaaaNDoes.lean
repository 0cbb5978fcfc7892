/-
  does: a call of both, the device and the document's answer.
-/
import Derived.Test.YtjcdhpfilkojaaaNOwn
namespace Go.Proofs.Ytjcdhpfilkojaaa
open Go.RowKit

def Two (b c : Nat) : Nat → Prop := fun x => x = b ∨ x = c
/-- A, and the blocks from lo on up to hi -/
def Av (A : Nat → Prop) (lo hi : Nat) : Nat → Prop := fun x => A x ∨ (lo ≤ x ∧ x < hi)

/-- what is known when the call has been copied -/
structure Pre (A : Nat → Prop) (b1 b2 s hi : Nat) (D : Dev) (kind n v : Int) (va : Option Addr) (vc : Nat) (bs : List Int) (yes : Bool) (ba : Option Addr) (bc : Nat) (A' : Nat → Prop) (W : World) : Prop where
  c0 : W.cell? ⟨s, 0, none⟩ = some (.int .i64 kind)
  c1 : W.cell? ⟨s, 1, none⟩ = some (.int .i64 n)
  c2 : W.cell? ⟨s, 2, none⟩ = some (.int .i64 v)
  c3 : W.cell? ⟨s, 3, none⟩ = some (.slice va bs.length vc)
  c4 : W.cell? ⟨s, 4, none⟩ = some (.bool yes)
  dN : DevAt LN (Av A s hi) W b1 D
  dR : DevAt LR (Av A s hi) W b2 D
  iv : IsF A' W (.slice va bs.length vc) bs
  row : Gro (s + 1) W (.slice ba bs.length bc) bs
  sz : hi ≤ W.heap.size
  at_ : ∀ g, ba = some ⟨g, 0, none⟩ → 0 < bs.length → s ≤ g ∧ g < hi

theorem pre_of {A A' : Nat → Prop} {b1 b2 : Nat} {D : Dev} {w w2 : World} {kind n v : Int} {va : Option Addr} {vc : Nat} {bs : List Int} {yes : Bool} {ba : Option Addr} {bc : Nat} {t : TypeId} (hN : DevAt LN A w b1 D) (hR : DevAt LR A w b2 D)
    (hv : IsF A' w (.slice va bs.length vc) bs) (hG : Gro (w.heap.size + 1) w2 (.slice ba bs.length bc) bs) (hB : Below (w.heap.size + 1) (w.alloc (.cells #[.int .i64 kind, .int .i64 n, .int .i64 v, .slice va bs.length vc, .bool yes] t)) w2) :
    Pre A b1 b2 w.heap.size w2.heap.size D kind n v va vc bs yes ba bc A' w2 := by
  have hbw : Below w.heap.size w w2 := ((Below.refl _ w).alloc (Nat.le_refl _) _).trans (hB.mono (by omega))
  have key : ∀ i x, (#[Value.int .i64 kind, .int .i64 n, .int .i64 v, .slice va bs.length vc, .bool yes] : Array Value)[i]? = some x → w2.cell? ⟨w.heap.size, i, none⟩ = some x := fun i x hx => by
    rw [hB.cell (p := ⟨w.heap.size, i, none⟩) (by simp), cell_of_row _ w.heap.size i _ t (0, 0) (heap_alloc_new w _)]; exact hx
  have av : ∀ {L : Lay} {b : Nat}, DevAt L A w b D → DevAt L (Av A w.heap.size w2.heap.size) w2 b D := fun {L b} h =>
    ((h.avoid (A' := fun x => A x ∨ w.heap.size ≤ x) (fun g hg e => e.elim id (fun e => by omega)) (.inl h.mem)).later hbw).avoid (fun g _ e => e.elim .inl (fun e => .inr e.1)) (.inl h.mem)
  refine ⟨key 0 _ rfl, key 1 _ rfl, key 2 _ rfl, key 3 _ rfl, key 4 _ rfl, av hN, av hR, hv.later hbw, hG, Nat.le_refl _, fun g e h0 => ?_⟩
  obtain ⟨g', e', hg', hc, _⟩ := hG.block h0
  rw [e] at e'
  cases e'
  exact ⟨by omega, World.block_lt_of_cell? w2 _ (hc 0 h0)⟩

/-- the answer of a call of both -/
def Both (A : Nat → Prop) (b1 b2 : Nat) (w : World) (e : Ending) (w' : World) : Prop := e = .returned (.bool true) ∧ ∃ D' : Dev, D'.Ok ∧ DevAt LN A w' b1 D' ∧ DevAt LR A w' b2 D' ∧ But (Two b1 b2) w w'

theorem av_lt {A : Nat → Prop} {lo hi : Nat} {W : World} (hA : ∀ g, A g → g < lo) (hlo : lo ≤ hi) (hs : hi ≤ W.heap.size) : ∀ g, Av A lo hi g → g < W.heap.size := fun g e => by
  rcases e with e | e
  · have := hA g e; omega
  · omega
theorem one_two {b1 b2 : Nat} {w w' : World} (h : But (Only b1) w w') : But (Two b1 b2) w w' := h.mono (fun _ e => .inl e)
theorem one_two' {b1 b2 : Nat} {w w' : World} (h : But (Only b2) w w') : But (Two b1 b2) w w' := h.mono (fun _ e => .inr e)
/-- from lo on up to hi -/
def Iv (lo hi : Nat) : Nat → Prop := fun x => lo ≤ x ∧ x < hi
theorem Gro.at_block {B : Nat} {W : World} {k n c : Nat} {bs : List Int} (h : Gro B W (.slice (some ⟨k, 0, none⟩) n c) bs) : B ≤ k ∧ k < W.heap.size := by
  obtain ⟨_, ⟨e, _⟩ | ⟨g, cap, cur, e, hg, hh, _⟩⟩ := h
  · simp at e
  · simp only [Value.slice.injEq, Option.some.injEq, Addr.mk.injEq] at e
    obtain ⟨⟨rfl, _, _⟩, _, _⟩ := e
    exact ⟨hg, (Array.getElem?_eq_some_iff.1 hh).1⟩
theorem rxF_len {D : Dev} (h : D.Ok) (i : Int) : (D.rxF i).length ≤ 65535 := by
  unfold Dev.rxF; split
  · rename_i e
    unfold Dev.rxE at e
    split at e
    · rename_i hp
      obtain ⟨k, rfl, hk⟩ := place_nat hp
      rw [Int.toNat_natCast]; exact h.rxf k hk
    · omega
  · simp
theorem tkF_len {D : Dev} (h : D.Ok) : D.tkF.length ≤ 274 := by
  unfold Dev.tkF; split
  · have := h.ring 4 (by omega) (by omega)
    exact h.txf _ (by omega)
  · simp
theorem back {L : Lay} {A : Nat → Prop} {lo hi b : Nat} {W : World} {D : Dev} (h : DevAt L (Av A lo hi) W b D) (hb : A b) : DevAt L A W b D := h.avoid (fun _ _ e => .inl e) hb

set_option maxRecDepth 100000 in
set_option maxHeartbeats 4000000 in
theorem does_0 {A A' : Nat → Prop} {b1 b2 : Nat} {D : Dev} {w : World} (hN : DevAt LN A w b1 D) (hR : DevAt LR A w b2 D) (ok : D.Ok) (hA : ∀ g, A g → g < w.heap.size) (hne : b1 ≠ b2) (hA1 : A' b1) (hA2 : A' b2) (n v : Int) (bv : Value) (bs : List Int) (yes : Bool) (hv : IsF A' w bv bs) (hl : bs.length ≤ 140737488351232) :
    Calls Try.prog 10 #[.pointer (some ⟨b1, 0, none⟩), .pointer (some ⟨b2, 0, none⟩), .agg #[.int .i64 0, .int .i64 n, .int .i64 v, bv, .bool yes]] w (Both A b1 b2 w) := by
  obtain ⟨va, vc, rfl, _, _⟩ := hv.shape
  have HP := hide (fun w2 ba bc hG hB => pre_of (t := 31) (w2 := w2) (kind := 0) (n := n) (v := v) (yes := yes) (ba := ba) (bc := bc) hN hR hv hG hB)
  have HV := hide hv
  have OK := hide ok
  have HA := hide hA
  have l1 := hN.lt
  have l2 := hR.lt
  have m1 := hide hN.mem
  have m2 := hide hR.mem
  have a1 := hide hA1
  have a2 := hide hA2
  have HNE := hide hne
  clear hN hR hv ok hA hne hA1 hA2
  go_enter Try.func10, Try.ntmps10
  go_wp2_with (at_builtin; refine wpList_grow rfl _ _ rfl rfl (w.heap.size + 1) A' _ _ [] bs rfl rfl (Gro.nil _ _) ?g2 ?g3 ?g4 bs (List.nil_append _) ?_)
  · exact HV.out.later ((Below.refl _ _).alloc (Nat.le_refl _) _)
  · simp
  · simp; omega
  intro ba bc w2 hbc hG hB
  have P := HP.out w2 ba bc hG hB
  have BW : Hid (Below w.heap.size w w2) := ((Below.refl _ w).alloc (Nat.le_refl _) _).trans (hB.mono (by omega))
  obtain ⟨s, hs⟩ : ∃ s, s = w.heap.size := ⟨_, rfl⟩
  rw [← hs] at P ⊢
  have HS := hide hs
  have l1 : b1 < s := by omega
  have l2 : b2 < s := by omega
  have hsw : s ≤ w2.heap.size := by have := BW.out.size; omega
  have HL : Hid (∀ W : World, w2.heap.size ≤ W.heap.size → ∀ g, Av A s w2.heap.size g → g < W.heap.size) := fun W hW => av_lt (fun g e => by have := HA.out g e; omega) hsw hW
  have c0 := P.c0
  have c1 := P.c1
  have c2 := P.c2
  have c3 := P.c3
  have c4 := P.c4
  have hsl := World.block_lt_of_cell? w2 _ c1
  have HP2 := hide P
  have KC : Hid (∀ W : World, But (Two b1 b2) w2 W → W.cell? ⟨s, 1, none⟩ = some (.int .i64 n) ∧ W.cell? ⟨s, 2, none⟩ = some (.int .i64 v) ∧ W.cell? ⟨s, 3, none⟩ = some (.slice va bs.length vc) ∧ W.cell? ⟨s, 4, none⟩ = some (.bool yes)) := fun W hb =>
    have key : ∀ i, W.cell? ⟨s, i, none⟩ = w2.cell? ⟨s, i, none⟩ := fun i => hb.cell (p := ⟨s, i, none⟩) hsl (fun e => by rcases e with e | e <;> (simp at e; omega))
    ⟨(key 1).trans c1, (key 2).trans c2, (key 3).trans c3, (key 4).trans c4⟩
  clear HP hG hB P hs hbc HV hsl
  go_wp2_with fail
  refine (Read_any HP2.out.dN n).mono ?_
  rintro e w3 ⟨rfl, d3, b3⟩
  have R3 := hide (HP2.out.dR.but b3 (fun g e => e ▸ .inl m1.out) (fun e => HNE.out (Eq.symm e)))
  have D3 := hide d3
  have B3 := hide (one_two (b2 := b2) b3)
  obtain ⟨c1', c2', c3', c4'⟩ := KC.out w3 B3.out
  clear d3 b3
  go_wp2_with fail
  refine (rRead_any R3.out n).mono ?_
  rintro e w4 ⟨rfl, r4, b4⟩
  have D4 := hide (D3.out.but b4 (fun g e => e ▸ .inl m2.out) (fun e => HNE.out e))
  have R4 := hide r4
  have B4 := hide (B3.out.trans (one_two' b4))
  clear r4 b4 D3 R3 B3
  generalize D.rdV n = x
  generalize rdE n = y
  go_wp2
  go_ret
  exact ⟨rfl, _, OK.out.rd n, back D4.out m1.out, back R4.out m2.out, (But.of_below BW.out).trans B4.out⟩

set_option maxRecDepth 100000 in
set_option maxHeartbeats 4000000 in
theorem does_1 {A A' : Nat → Prop} {b1 b2 : Nat} {D : Dev} {w : World} (hN : DevAt LN A w b1 D) (hR : DevAt LR A w b2 D) (ok : D.Ok) (hA : ∀ g, A g → g < w.heap.size) (hne : b1 ≠ b2) (hA1 : A' b1) (hA2 : A' b2) (n v : Int) (bv : Value) (bs : List Int) (yes : Bool) (hv : IsF A' w bv bs) (hl : bs.length ≤ 140737488351232) :
    Calls Try.prog 10 #[.pointer (some ⟨b1, 0, none⟩), .pointer (some ⟨b2, 0, none⟩), .agg #[.int .i64 1, .int .i64 n, .int .i64 v, bv, .bool yes]] w (Both A b1 b2 w) := by
  obtain ⟨va, vc, rfl, _, _⟩ := hv.shape
  have HP := hide (fun w2 ba bc hG hB => pre_of (t := 31) (w2 := w2) (kind := 1) (n := n) (v := v) (yes := yes) (ba := ba) (bc := bc) hN hR hv hG hB)
  have HV := hide hv
  have OK := hide ok
  have HA := hide hA
  have l1 := hN.lt
  have l2 := hR.lt
  have m1 := hide hN.mem
  have m2 := hide hR.mem
  have a1 := hide hA1
  have a2 := hide hA2
  have HNE := hide hne
  clear hN hR hv ok hA hne hA1 hA2
  go_enter Try.func10, Try.ntmps10
  go_wp2_with (at_builtin; refine wpList_grow rfl _ _ rfl rfl (w.heap.size + 1) A' _ _ [] bs rfl rfl (Gro.nil _ _) ?g2 ?g3 ?g4 bs (List.nil_append _) ?_)
  · exact HV.out.later ((Below.refl _ _).alloc (Nat.le_refl _) _)
  · simp
  · simp; omega
  intro ba bc w2 hbc hG hB
  have P := HP.out w2 ba bc hG hB
  have BW : Hid (Below w.heap.size w w2) := ((Below.refl _ w).alloc (Nat.le_refl _) _).trans (hB.mono (by omega))
  obtain ⟨s, hs⟩ : ∃ s, s = w.heap.size := ⟨_, rfl⟩
  rw [← hs] at P ⊢
  have HS := hide hs
  have l1 : b1 < s := by omega
  have l2 : b2 < s := by omega
  have hsw : s ≤ w2.heap.size := by have := BW.out.size; omega
  have HL : Hid (∀ W : World, w2.heap.size ≤ W.heap.size → ∀ g, Av A s w2.heap.size g → g < W.heap.size) := fun W hW => av_lt (fun g e => by have := HA.out g e; omega) hsw hW
  have c0 := P.c0
  have c1 := P.c1
  have c2 := P.c2
  have c3 := P.c3
  have c4 := P.c4
  have hsl := World.block_lt_of_cell? w2 _ c1
  have HP2 := hide P
  have KC : Hid (∀ W : World, But (Two b1 b2) w2 W → W.cell? ⟨s, 1, none⟩ = some (.int .i64 n) ∧ W.cell? ⟨s, 2, none⟩ = some (.int .i64 v) ∧ W.cell? ⟨s, 3, none⟩ = some (.slice va bs.length vc) ∧ W.cell? ⟨s, 4, none⟩ = some (.bool yes)) := fun W hb =>
    have key : ∀ i, W.cell? ⟨s, i, none⟩ = w2.cell? ⟨s, i, none⟩ := fun i => hb.cell (p := ⟨s, i, none⟩) hsl (fun e => by rcases e with e | e <;> (simp at e; omega))
    ⟨(key 1).trans c1, (key 2).trans c2, (key 3).trans c3, (key 4).trans c4⟩
  clear HP hG hB P hs hbc HV hsl
  have q2 : But (Two b1 b2) w2 w2.drew := (But.refl _ _).drew
  have keepS : Hid (∀ W : World, But (Two b1 b2) w2 W → (W.cell? ⟨s, 1, none⟩ = some (.int .i64 n) ∧ W.cell? ⟨s, 2, none⟩ = some (.int .i64 v))) := fun W hb => by
    obtain ⟨k1, k2, k3, k4⟩ := KC.out W hb
    exact ⟨k1, k2⟩
  go_upto_region 9 with fail
  go_region_held (fun W => W.cell? ⟨s, 1, none⟩ = some (.int .i64 n) ∧ W.cell? ⟨s, 2, none⟩ = some (.int .i64 v)) (exact keepS.out _ (by assumption))
    (first
      | (go_at_call 14; refine (Write_any HP2.out.dN.drew OK.out n v).mono ?_; rintro e w3 ⟨rfl, d3, b3⟩; have R3 := hide (HP2.out.dR.drew.but b3 (fun g e => e ▸ .inl m1.out) (fun e => HNE.out (Eq.symm e))); have D3 := hide d3; have q3 : But (Two b1 b2) w2 w3 := q2.trans (one_two b3); have V3 := hide (HP2.out.iv.drew.but b3 (fun g e => e ▸ a1.out)); have Z3 := hide b3.size; clear d3 b3)
      | (go_at_call 24; refine (rWrite_any R3.out OK.out n v).mono ?_; rintro e w4 ⟨rfl, r4, b4⟩; have D4 := hide (D3.out.but b4 (fun g e => e ▸ .inl m2.out) (fun e => HNE.out e)); have R4 := hide r4; have q4 : But (Two b1 b2) w2 w4 := q3.trans (one_two' b4); clear r4 b4))
  have B4 := hide q4
  clear q2 q3 q4 keepS
  go_wp2
  go_ret
  exact ⟨rfl, _, OK.out.wr n v, back D4.out m1.out, back R4.out m2.out, (But.of_below BW.out).trans B4.out⟩

set_option maxRecDepth 100000 in
set_option maxHeartbeats 4000000 in
theorem does_2 {A A' : Nat → Prop} {b1 b2 : Nat} {D : Dev} {w : World} (hN : DevAt LN A w b1 D) (hR : DevAt LR A w b2 D) (ok : D.Ok) (hA : ∀ g, A g → g < w.heap.size) (hne : b1 ≠ b2) (hA1 : A' b1) (hA2 : A' b2) (n v : Int) (bv : Value) (bs : List Int) (yes : Bool) (hv : IsF A' w bv bs) (hl : bs.length ≤ 140737488351232) :
    Calls Try.prog 10 #[.pointer (some ⟨b1, 0, none⟩), .pointer (some ⟨b2, 0, none⟩), .agg #[.int .i64 2, .int .i64 n, .int .i64 v, bv, .bool yes]] w (Both A b1 b2 w) := by
  obtain ⟨va, vc, rfl, _, _⟩ := hv.shape
  have HP := hide (fun w2 ba bc hG hB => pre_of (t := 31) (w2 := w2) (kind := 2) (n := n) (v := v) (yes := yes) (ba := ba) (bc := bc) hN hR hv hG hB)
  have HV := hide hv
  have OK := hide ok
  have HA := hide hA
  have l1 := hN.lt
  have l2 := hR.lt
  have m1 := hide hN.mem
  have m2 := hide hR.mem
  have a1 := hide hA1
  have a2 := hide hA2
  have HNE := hide hne
  clear hN hR hv ok hA hne hA1 hA2
  go_enter Try.func10, Try.ntmps10
  go_wp2_with (at_builtin; refine wpList_grow rfl _ _ rfl rfl (w.heap.size + 1) A' _ _ [] bs rfl rfl (Gro.nil _ _) ?g2 ?g3 ?g4 bs (List.nil_append _) ?_)
  · exact HV.out.later ((Below.refl _ _).alloc (Nat.le_refl _) _)
  · simp
  · simp; omega
  intro ba bc w2 hbc hG hB
  have P := HP.out w2 ba bc hG hB
  have BW : Hid (Below w.heap.size w w2) := ((Below.refl _ w).alloc (Nat.le_refl _) _).trans (hB.mono (by omega))
  obtain ⟨s, hs⟩ : ∃ s, s = w.heap.size := ⟨_, rfl⟩
  rw [← hs] at P ⊢
  have HS := hide hs
  have l1 : b1 < s := by omega
  have l2 : b2 < s := by omega
  have hsw : s ≤ w2.heap.size := by have := BW.out.size; omega
  have HL : Hid (∀ W : World, w2.heap.size ≤ W.heap.size → ∀ g, Av A s w2.heap.size g → g < W.heap.size) := fun W hW => av_lt (fun g e => by have := HA.out g e; omega) hsw hW
  have c0 := P.c0
  have c1 := P.c1
  have c2 := P.c2
  have c3 := P.c3
  have c4 := P.c4
  have hsl := World.block_lt_of_cell? w2 _ c1
  have HP2 := hide P
  have KC : Hid (∀ W : World, But (Two b1 b2) w2 W → W.cell? ⟨s, 1, none⟩ = some (.int .i64 n) ∧ W.cell? ⟨s, 2, none⟩ = some (.int .i64 v) ∧ W.cell? ⟨s, 3, none⟩ = some (.slice va bs.length vc) ∧ W.cell? ⟨s, 4, none⟩ = some (.bool yes)) := fun W hb =>
    have key : ∀ i, W.cell? ⟨s, i, none⟩ = w2.cell? ⟨s, i, none⟩ := fun i => hb.cell (p := ⟨s, i, none⟩) hsl (fun e => by rcases e with e | e <;> (simp at e; omega))
    ⟨(key 1).trans c1, (key 2).trans c2, (key 3).trans c3, (key 4).trans c4⟩
  clear HP hG hB P hs hbc HV hsl
  have q2 : But (Two b1 b2) w2 w2.drew := (But.refl _ _).drew
  have keepS : Hid (∀ W : World, But (Two b1 b2) w2 W → (W.cell? ⟨s, 1, none⟩ = some (.int .i64 n) ∧ W.cell? ⟨s, 3, none⟩ = some (.slice va bs.length vc))) := fun W hb => by
    obtain ⟨k1, k2, k3, k4⟩ := KC.out W hb
    exact ⟨k1, k3⟩
  go_upto_region 11 with fail
  go_region_held (fun W => W.cell? ⟨s, 1, none⟩ = some (.int .i64 n) ∧ W.cell? ⟨s, 3, none⟩ = some (.slice va bs.length vc)) (exact keepS.out _ (by assumption))
    (first
      | (go_at_call 15; refine (SetTx_any HP2.out.dN.drew OK.out (HL.out _ (Nat.le_refl _)) n _ bs ((HP2.out.row.isF (A := fun _ => False) (fun _ _ => id)).drew) (by omega)).mono ?_; rintro e w3 ⟨rfl, d3, b3⟩; have R3 := hide (HP2.out.dR.drew.but b3 (fun g e => e ▸ .inl m1.out) (fun e => HNE.out (Eq.symm e))); have D3 := hide d3; have q3 : But (Two b1 b2) w2 w3 := q2.trans (one_two b3); have V3 := hide (HP2.out.iv.drew.but b3 (fun g e => e ▸ a1.out)); have Z3 := hide b3.size; clear d3 b3)
      | (go_at_call 25; refine (rSetTx_any R3.out OK.out (HL.out _ Z3.out) n _ bs V3.out (by omega)).mono ?_; rintro e w4 ⟨rfl, r4, b4⟩; have D4 := hide (D3.out.but b4 (fun g e => e ▸ .inl m2.out) (fun e => HNE.out e)); have R4 := hide r4; have q4 : But (Two b1 b2) w2 w4 := q3.trans (one_two' b4); clear r4 b4))
  have B4 := hide q4
  clear q2 q3 q4 keepS
  have G4 := hide (HP2.out.row.but B4.out (fun g e => by rcases e with e | e <;> omega))
  have AT := hide HP2.out.at_
  clear c0 c1 c2 c3 c4 HP2 KC
  go_wp2
  go_loopw [25] (fun vi wr => ∃ (i : Nat) (xs : List Int), vi = .int .i64 i ∧ i ≤ bs.length ∧ Hid (xs.length = bs.length) ∧ Hid (Gro (s + 1) wr (.slice ba bs.length bc) xs) ∧ But (Iv s w2.heap.size) w4 wr) (fun vi _ => bs.length - (intOf vi).toNat)
  case atStart => exact ⟨0, bs, rfl, Nat.zero_le _, rfl, G4.out, But.refl _ _⟩
  case round =>
    obtain ⟨i, xs, rfl, hi, hxl, hGX, hBe⟩ := hrel
    have HBe := hide hBe
    clear hBe
    by_cases hil : i < bs.length
    · obtain ⟨g, rfl, hg, hc, hf⟩ := hGX.out.block (by rw [hxl.out]; omega)
      have c9 := hc i (by rw [hxl.out]; exact hil)
      have f9 := hf i
      have AG := hide (AT.out g rfl (by omega))
      clear hc hf
      obtain ⟨z, ez⟩ : ∃ z, xs[i]?.getD 0 = z := ⟨_, rfl⟩
      rw [ez] at c9
      clear ez
      go_wp2
      go_roundw
      case rel => exact ⟨i + 1, xs.set i ((z + 1) % 256), by go_num, by omega, by show _ = _; rw [List.length_set]; exact hxl.out, hGX.out.store hxl.out.symm i _, HBe.out.setCell (p := ⟨g, i, none⟩) (.inr AG.out) _⟩
      case measure => simp [intOf]; omega
    · go_wp2
      go_ret
      exact ⟨rfl, _, OK.out.st n bs, back (DevAt.but D4.out HBe.out (fun g e => .inr e) (fun e => by unfold Iv at e; omega)) m1.out, back (DevAt.but R4.out HBe.out (fun g e => .inr e) (fun e => by unfold Iv at e; omega)) m2.out, ((But.of_below BW.out).trans B4.out).trans' HBe.out (fun g hg e => by have := HS.out; unfold Iv at e; omega)⟩

set_option maxRecDepth 100000 in
set_option maxHeartbeats 4000000 in
theorem does_3 {A A' : Nat → Prop} {b1 b2 : Nat} {D : Dev} {w : World} (hN : DevAt LN A w b1 D) (hR : DevAt LR A w b2 D) (ok : D.Ok) (hA : ∀ g, A g → g < w.heap.size) (hne : b1 ≠ b2) (hA1 : A' b1) (hA2 : A' b2) (n v : Int) (bv : Value) (bs : List Int) (yes : Bool) (hv : IsF A' w bv bs) (hl : bs.length ≤ 140737488351232) :
    Calls Try.prog 10 #[.pointer (some ⟨b1, 0, none⟩), .pointer (some ⟨b2, 0, none⟩), .agg #[.int .i64 3, .int .i64 n, .int .i64 v, bv, .bool yes]] w (Both A b1 b2 w) := by
  obtain ⟨va, vc, rfl, _, _⟩ := hv.shape
  have HP := hide (fun w2 ba bc hG hB => pre_of (t := 31) (w2 := w2) (kind := 3) (n := n) (v := v) (yes := yes) (ba := ba) (bc := bc) hN hR hv hG hB)
  have HV := hide hv
  have OK := hide ok
  have HA := hide hA
  have l1 := hN.lt
  have l2 := hR.lt
  have m1 := hide hN.mem
  have m2 := hide hR.mem
  have a1 := hide hA1
  have a2 := hide hA2
  have HNE := hide hne
  clear hN hR hv ok hA hne hA1 hA2
  go_enter Try.func10, Try.ntmps10
  go_wp2_with (at_builtin; refine wpList_grow rfl _ _ rfl rfl (w.heap.size + 1) A' _ _ [] bs rfl rfl (Gro.nil _ _) ?g2 ?g3 ?g4 bs (List.nil_append _) ?_)
  · exact HV.out.later ((Below.refl _ _).alloc (Nat.le_refl _) _)
  · simp
  · simp; omega
  intro ba bc w2 hbc hG hB
  have P := HP.out w2 ba bc hG hB
  have BW : Hid (Below w.heap.size w w2) := ((Below.refl _ w).alloc (Nat.le_refl _) _).trans (hB.mono (by omega))
  obtain ⟨s, hs⟩ : ∃ s, s = w.heap.size := ⟨_, rfl⟩
  rw [← hs] at P ⊢
  have HS := hide hs
  have l1 : b1 < s := by omega
  have l2 : b2 < s := by omega
  have hsw : s ≤ w2.heap.size := by have := BW.out.size; omega
  have HL : Hid (∀ W : World, w2.heap.size ≤ W.heap.size → ∀ g, Av A s w2.heap.size g → g < W.heap.size) := fun W hW => av_lt (fun g e => by have := HA.out g e; omega) hsw hW
  have c0 := P.c0
  have c1 := P.c1
  have c2 := P.c2
  have c3 := P.c3
  have c4 := P.c4
  have hsl := World.block_lt_of_cell? w2 _ c1
  have HP2 := hide P
  have KC : Hid (∀ W : World, But (Two b1 b2) w2 W → W.cell? ⟨s, 1, none⟩ = some (.int .i64 n) ∧ W.cell? ⟨s, 2, none⟩ = some (.int .i64 v) ∧ W.cell? ⟨s, 3, none⟩ = some (.slice va bs.length vc) ∧ W.cell? ⟨s, 4, none⟩ = some (.bool yes)) := fun W hb =>
    have key : ∀ i, W.cell? ⟨s, i, none⟩ = w2.cell? ⟨s, i, none⟩ := fun i => hb.cell (p := ⟨s, i, none⟩) hsl (fun e => by rcases e with e | e <;> (simp at e; omega))
    ⟨(key 1).trans c1, (key 2).trans c2, (key 3).trans c3, (key 4).trans c4⟩
  clear HP hG hB P hs hbc HV hsl
  have q2 : But (Two b1 b2) w2 w2.drew := (But.refl _ _).drew
  have keepS : Hid (∀ W : World, But (Two b1 b2) w2 W → (W.cell? ⟨s, 1, none⟩ = some (.int .i64 n) ∧ W.cell? ⟨s, 2, none⟩ = some (.int .i64 v))) := fun W hb => by
    obtain ⟨k1, k2, k3, k4⟩ := KC.out W hb
    exact ⟨k1, k2⟩
  go_upto_region 13 with fail
  go_region_held (fun W => W.cell? ⟨s, 1, none⟩ = some (.int .i64 n) ∧ W.cell? ⟨s, 2, none⟩ = some (.int .i64 v)) (exact keepS.out _ (by assumption))
    (first
      | (go_at_call 18; refine (SetRx_any HP2.out.dN.drew OK.out n v).mono ?_; rintro e w3 ⟨rfl, d3, b3⟩; have R3 := hide (HP2.out.dR.drew.but b3 (fun g e => e ▸ .inl m1.out) (fun e => HNE.out (Eq.symm e))); have D3 := hide d3; have q3 : But (Two b1 b2) w2 w3 := q2.trans (one_two b3); have V3 := hide (HP2.out.iv.drew.but b3 (fun g e => e ▸ a1.out)); have Z3 := hide b3.size; clear d3 b3)
      | (go_at_call 26; refine (rSetRx_any R3.out OK.out n v).mono ?_; rintro e w4 ⟨rfl, r4, b4⟩; have D4 := hide (D3.out.but b4 (fun g e => e ▸ .inl m2.out) (fun e => HNE.out e)); have R4 := hide r4; have q4 : But (Two b1 b2) w2 w4 := q3.trans (one_two' b4); clear r4 b4))
  have B4 := hide q4
  clear q2 q3 q4 keepS
  have G4 := hide (HP2.out.row.but B4.out (fun g e => by rcases e with e | e <;> omega))
  have AT := hide HP2.out.at_
  clear c0 c1 c2 c3 c4 HP2 KC
  go_wp2
  go_loopw [25] (fun vi wr => ∃ (i : Nat) (xs : List Int), vi = .int .i64 i ∧ i ≤ bs.length ∧ Hid (xs.length = bs.length) ∧ Hid (Gro (s + 1) wr (.slice ba bs.length bc) xs) ∧ But (Iv s w2.heap.size) w4 wr) (fun vi _ => bs.length - (intOf vi).toNat)
  case atStart => exact ⟨0, bs, rfl, Nat.zero_le _, rfl, G4.out, But.refl _ _⟩
  case round =>
    obtain ⟨i, xs, rfl, hi, hxl, hGX, hBe⟩ := hrel
    have HBe := hide hBe
    clear hBe
    by_cases hil : i < bs.length
    · obtain ⟨g, rfl, hg, hc, hf⟩ := hGX.out.block (by rw [hxl.out]; omega)
      have c9 := hc i (by rw [hxl.out]; exact hil)
      have f9 := hf i
      have AG := hide (AT.out g rfl (by omega))
      clear hc hf
      obtain ⟨z, ez⟩ : ∃ z, xs[i]?.getD 0 = z := ⟨_, rfl⟩
      rw [ez] at c9
      clear ez
      go_wp2
      go_roundw
      case rel => exact ⟨i + 1, xs.set i ((z + 1) % 256), by go_num, by omega, by show _ = _; rw [List.length_set]; exact hxl.out, hGX.out.store hxl.out.symm i _, HBe.out.setCell (p := ⟨g, i, none⟩) (.inr AG.out) _⟩
      case measure => simp [intOf]; omega
    · go_wp2
      go_ret
      exact ⟨rfl, _, OK.out.sr n v, back (DevAt.but D4.out HBe.out (fun g e => .inr e) (fun e => by unfold Iv at e; omega)) m1.out, back (DevAt.but R4.out HBe.out (fun g e => .inr e) (fun e => by unfold Iv at e; omega)) m2.out, ((But.of_below BW.out).trans B4.out).trans' HBe.out (fun g hg e => by have := HS.out; unfold Iv at e; omega)⟩

set_option maxRecDepth 100000 in
set_option maxHeartbeats 4000000 in
theorem does_4 {A A' : Nat → Prop} {b1 b2 : Nat} {D : Dev} {w : World} (hN : DevAt LN A w b1 D) (hR : DevAt LR A w b2 D) (ok : D.Ok) (hA : ∀ g, A g → g < w.heap.size) (hne : b1 ≠ b2) (hA1 : A' b1) (hA2 : A' b2) (n v : Int) (bv : Value) (bs : List Int) (yes : Bool) (hv : IsF A' w bv bs) (hl : bs.length ≤ 140737488351232) :
    Calls Try.prog 10 #[.pointer (some ⟨b1, 0, none⟩), .pointer (some ⟨b2, 0, none⟩), .agg #[.int .i64 4, .int .i64 n, .int .i64 v, bv, .bool yes]] w (Both A b1 b2 w) := by
  obtain ⟨va, vc, rfl, _, _⟩ := hv.shape
  have HP := hide (fun w2 ba bc hG hB => pre_of (t := 31) (w2 := w2) (kind := 4) (n := n) (v := v) (yes := yes) (ba := ba) (bc := bc) hN hR hv hG hB)
  have HV := hide hv
  have OK := hide ok
  have HA := hide hA
  have l1 := hN.lt
  have l2 := hR.lt
  have m1 := hide hN.mem
  have m2 := hide hR.mem
  have a1 := hide hA1
  have a2 := hide hA2
  have HNE := hide hne
  clear hN hR hv ok hA hne hA1 hA2
  go_enter Try.func10, Try.ntmps10
  go_wp2_with (at_builtin; refine wpList_grow rfl _ _ rfl rfl (w.heap.size + 1) A' _ _ [] bs rfl rfl (Gro.nil _ _) ?g2 ?g3 ?g4 bs (List.nil_append _) ?_)
  · exact HV.out.later ((Below.refl _ _).alloc (Nat.le_refl _) _)
  · simp
  · simp; omega
  intro ba bc w2 hbc hG hB
  have P := HP.out w2 ba bc hG hB
  have BW : Hid (Below w.heap.size w w2) := ((Below.refl _ w).alloc (Nat.le_refl _) _).trans (hB.mono (by omega))
  obtain ⟨s, hs⟩ : ∃ s, s = w.heap.size := ⟨_, rfl⟩
  rw [← hs] at P ⊢
  have HS := hide hs
  have l1 : b1 < s := by omega
  have l2 : b2 < s := by omega
  have hsw : s ≤ w2.heap.size := by have := BW.out.size; omega
  have HL : Hid (∀ W : World, w2.heap.size ≤ W.heap.size → ∀ g, Av A s w2.heap.size g → g < W.heap.size) := fun W hW => av_lt (fun g e => by have := HA.out g e; omega) hsw hW
  have c0 := P.c0
  have c1 := P.c1
  have c2 := P.c2
  have c3 := P.c3
  have c4 := P.c4
  have hsl := World.block_lt_of_cell? w2 _ c1
  have HP2 := hide P
  have KC : Hid (∀ W : World, But (Two b1 b2) w2 W → W.cell? ⟨s, 1, none⟩ = some (.int .i64 n) ∧ W.cell? ⟨s, 2, none⟩ = some (.int .i64 v) ∧ W.cell? ⟨s, 3, none⟩ = some (.slice va bs.length vc) ∧ W.cell? ⟨s, 4, none⟩ = some (.bool yes)) := fun W hb =>
    have key : ∀ i, W.cell? ⟨s, i, none⟩ = w2.cell? ⟨s, i, none⟩ := fun i => hb.cell (p := ⟨s, i, none⟩) hsl (fun e => by rcases e with e | e <;> (simp at e; omega))
    ⟨(key 1).trans c1, (key 2).trans c2, (key 3).trans c3, (key 4).trans c4⟩
  clear HP hG hB P hs hbc HV hsl
  go_wp2_with fail
  refine (Rx_any HP2.out.dN OK.out n).mono ?_
  rintro e w3 ⟨xa, xc, rfl, gx, b3⟩
  have c1' : w3.cell? ⟨s, 1, none⟩ = some (.int .i64 n) := (b3.cell (p := ⟨s, 1, none⟩) (World.block_lt_of_cell? w2 _ c1)).trans c1
  have GX := hide gx
  have B3 := hide b3
  clear gx b3
  go_wp2_with fail
  refine (rRx_any (HP2.out.dR.later B3.out) n).mono ?_
  rintro e w4 ⟨ya, yc, rfl, iy, b4⟩
  have GX4 := hide (GX.out.but (K := fun _ => False) (But.of_below b4) (fun _ e => e.elim))
  have b24 := B3.out.trans (b4.mono B3.out.size)
  have IY := hide iy
  have B24 := hide b24
  clear iy b4 b24
  have O := hide (own_any xa xc _ (D.rxF n) w4 GX4.out B24.out.size IY.out (by have := rxF_len OK.out n; omega))
  have XB : Hid (∀ k, xa = some ⟨k, 0, none⟩ → w2.heap.size ≤ k) := fun k e => by have := GX4.out; rw [e] at this; exact this.at_block.1
  generalize D.rxF n = F at *
  generalize D.rxB n = bd
  generalize D.rxE n = er
  clear c0 c1 c2 c3 c4 c1' GX GX4 IY
  go_wp2_with fail
  refine (O.out).mono ?_
  rintro e w5 ⟨rfl, b5⟩
  have b25 := B24.out.trans (b5.below B24.out.size (fun g hg e => by have := XB.out g e; omega))
  have B25 := hide b25
  clear b5 b25 O
  go_wp2
  go_ret
  exact ⟨rfl, D, OK.out, back (HP2.out.dN.later B25.out) m1.out, back (HP2.out.dR.later B25.out) m2.out, But.of_below (BW.out.trans (B25.out.mono BW.out.size))⟩

set_option maxRecDepth 100000 in
set_option maxHeartbeats 4000000 in
theorem does_5 {A A' : Nat → Prop} {b1 b2 : Nat} {D : Dev} {w : World} (hN : DevAt LN A w b1 D) (hR : DevAt LR A w b2 D) (ok : D.Ok) (hA : ∀ g, A g → g < w.heap.size) (hne : b1 ≠ b2) (hA1 : A' b1) (hA2 : A' b2) (n v : Int) (bv : Value) (bs : List Int) (yes : Bool) (hv : IsF A' w bv bs) (hl : bs.length ≤ 140737488351232) :
    Calls Try.prog 10 #[.pointer (some ⟨b1, 0, none⟩), .pointer (some ⟨b2, 0, none⟩), .agg #[.int .i64 5, .int .i64 n, .int .i64 v, bv, .bool yes]] w (Both A b1 b2 w) := by
  obtain ⟨va, vc, rfl, _, _⟩ := hv.shape
  have HP := hide (fun w2 ba bc hG hB => pre_of (t := 31) (w2 := w2) (kind := 5) (n := n) (v := v) (yes := yes) (ba := ba) (bc := bc) hN hR hv hG hB)
  have HV := hide hv
  have OK := hide ok
  have HA := hide hA
  have l1 := hN.lt
  have l2 := hR.lt
  have m1 := hide hN.mem
  have m2 := hide hR.mem
  have a1 := hide hA1
  have a2 := hide hA2
  have HNE := hide hne
  clear hN hR hv ok hA hne hA1 hA2
  go_enter Try.func10, Try.ntmps10
  go_wp2_with (at_builtin; refine wpList_grow rfl _ _ rfl rfl (w.heap.size + 1) A' _ _ [] bs rfl rfl (Gro.nil _ _) ?g2 ?g3 ?g4 bs (List.nil_append _) ?_)
  · exact HV.out.later ((Below.refl _ _).alloc (Nat.le_refl _) _)
  · simp
  · simp; omega
  intro ba bc w2 hbc hG hB
  have P := HP.out w2 ba bc hG hB
  have BW : Hid (Below w.heap.size w w2) := ((Below.refl _ w).alloc (Nat.le_refl _) _).trans (hB.mono (by omega))
  obtain ⟨s, hs⟩ : ∃ s, s = w.heap.size := ⟨_, rfl⟩
  rw [← hs] at P ⊢
  have HS := hide hs
  have l1 : b1 < s := by omega
  have l2 : b2 < s := by omega
  have hsw : s ≤ w2.heap.size := by have := BW.out.size; omega
  have HL : Hid (∀ W : World, w2.heap.size ≤ W.heap.size → ∀ g, Av A s w2.heap.size g → g < W.heap.size) := fun W hW => av_lt (fun g e => by have := HA.out g e; omega) hsw hW
  have c0 := P.c0
  have c1 := P.c1
  have c2 := P.c2
  have c3 := P.c3
  have c4 := P.c4
  have hsl := World.block_lt_of_cell? w2 _ c1
  have HP2 := hide P
  have KC : Hid (∀ W : World, But (Two b1 b2) w2 W → W.cell? ⟨s, 1, none⟩ = some (.int .i64 n) ∧ W.cell? ⟨s, 2, none⟩ = some (.int .i64 v) ∧ W.cell? ⟨s, 3, none⟩ = some (.slice va bs.length vc) ∧ W.cell? ⟨s, 4, none⟩ = some (.bool yes)) := fun W hb =>
    have key : ∀ i, W.cell? ⟨s, i, none⟩ = w2.cell? ⟨s, i, none⟩ := fun i => hb.cell (p := ⟨s, i, none⟩) hsl (fun e => by rcases e with e | e <;> (simp at e; omega))
    ⟨(key 1).trans c1, (key 2).trans c2, (key 3).trans c3, (key 4).trans c4⟩
  clear HP hG hB P hs hbc HV hsl
  have hi' : ∀ {L : Lay} {b : Nat} {D : Dev}, DevAt L (Av A s w2.heap.size) w2 b D → DevAt L (fun x => Av A s w2.heap.size x ∨ w2.heap.size ≤ x) w2 b D := fun {L b D} h => h.avoid (fun g hg e => e.elim id (fun e => by omega)) (.inl h.mem)
  have DN := hide (hi' HP2.out.dN)
  have DR := hide (hi' HP2.out.dR)
  clear hi'
  go_wp2_with fail
  refine (Take_any DN.out OK.out).mono ?_
  rintro e w3 ⟨xa, xc, rfl, gx, d3, b3⟩
  have D3 := hide (d3.al (.cells #[.slice xa D.tkF.length xc, .bool false, .int .i64 D.tkT] 52))
  have R3 := hide ((DR.out.but b3 (fun g e => e ▸ .inl (.inl m1.out)) (fun e => HNE.out (Eq.symm e))).al (.cells #[.slice xa D.tkF.length xc, .bool false, .int .i64 D.tkT] 52))
  have B3 := hide (one_two (b2 := b2) b3)
  have GX := hide (gx.but (K := fun _ => False) ((But.refl _ w3).alloc (.cells #[.slice xa D.tkF.length xc, .bool false, .int .i64 D.tkT] 52)) (fun _ e => e.elim))
  have XB : Hid (∀ k, xa = some ⟨k, 0, none⟩ → w2.heap.size ≤ k ∧ k < w3.heap.size) := fun k e => by have := gx; rw [e] at this; exact this.at_block
  have XC : Hid (∀ i x, (#[Value.slice xa D.tkF.length xc, .bool false, .int .i64 D.tkT] : Array Value)[i]? = some x → (w3.alloc (.cells #[.slice xa D.tkF.length xc, .bool false, .int .i64 D.tkT] 52)).cell? ⟨w3.heap.size, i, none⟩ = some x) := fun i x hx => by
    rw [cell_of_row _ w3.heap.size i _ 52 (0, 0) (heap_alloc_new w3 _)]; exact hx
  have S3 := hide b3.size
  clear gx d3 b3 DN DR c1 c2 c3 c4
  have T := hide (rTake_any R3.out OK.out)
  go_wp2_with fail
  refine (T.out).mono ?_
  rintro e w4 ⟨ya, yc, rfl, iy, r4, b4⟩
  obtain ⟨t, ht⟩ : ∃ t, t = w3.heap.size := ⟨_, rfl⟩
  have hnb : ¬ Only b2 w3.heap.size := fun e => by have h1 := S3.out; have : w3.heap.size = b2 := e; omega
  have xk : ∀ i x, (#[Value.slice xa D.tkF.length xc, .bool false, .int .i64 D.tkT] : Array Value)[i]? = some x → w4.cell? ⟨w3.heap.size, i, none⟩ = some x := fun i x hx => (b4.cell (p := ⟨w3.heap.size, i, none⟩) (by simp) hnb).trans (XC.out i x hx)
  have x0 := xk 0 _ rfl
  have x1 := xk 1 _ rfl
  have x2 := xk 2 _ rfl
  have s34 : w3.heap.size < w4.heap.size := by have := b4.size; simp at this; omega
  rw [← ht] at x0 x1 x2 s34 ⊢
  have D4 := hide ((D3.out.but b4 (fun g e => e ▸ .inl (.inl m2.out)) (fun e => HNE.out e)).al (.cells #[.slice ya D.tkF.length yc, .bool false, .int .i64 D.tkT] 52))
  have R4 := hide (r4.al (.cells #[.slice ya D.tkF.length yc, .bool false, .int .i64 D.tkT] 52))
  have B4 : Hid (But (Two b1 b2) w2 (w4.alloc (.cells #[.slice ya D.tkF.length yc, .bool false, .int .i64 D.tkT] 52))) := ((B3.out.alloc _).trans (one_two' b4)).alloc _
  have GX4 := hide ((GX.out.but b4 (fun g e => by have h1 := S3.out; have : g = b2 := e; omega)).but (K := fun _ => False) ((But.refl _ w4).alloc (.cells #[.slice ya D.tkF.length yc, .bool false, .int .i64 D.tkT] 52)) (fun _ e => e.elim))
  have IY := hide (iy.but (K := fun _ => False) ((But.refl _ w4).alloc (.cells #[.slice ya D.tkF.length yc, .bool false, .int .i64 D.tkT] 52)) (fun _ e => e.elim))
  have O := hide (own_any xa xc _ D.tkF _ GX4.out (by simp; have h1 := S3.out; have h2 := b4.size; simp at h2; omega) IY.out (by have := tkF_len OK.out; omega))
  have XB2 : Hid (∀ k, xa = some ⟨k, 0, none⟩ → w2.heap.size ≤ k ∧ k < t) := by rw [ht]; exact XB.out
  have HTT := hide ht
  clear iy r4 b4 xk hnb D3 R3 B3 GX XB XC T GX4 IY ht
  generalize D.tkF.length = fl at *
  generalize D.tkT = tt at *
  generalize D.tkE = te
  go_wp2_with fail
  refine (O.out).mono ?_
  rintro e w5 ⟨rfl, b5⟩
  have ne1 : ¬ (xa = some ⟨t, 0, none⟩) := fun e => by have := (XB2.out t e).2; omega
  have ne2 : ¬ (xa = some ⟨w4.heap.size, 0, none⟩) := fun e => by have := (XB2.out _ e).2; omega
  have z1 : w5.cell? ⟨t, 1, none⟩ = some (.bool false) := (b5.cell (p := ⟨t, 1, none⟩) (by simp; omega) ne1).trans (by rw [World.cell?_alloc_lt _ _ _ (by simpa using s34)]; exact x1)
  have z2 : w5.cell? ⟨t, 2, none⟩ = some (.int .i64 tt) := (b5.cell (p := ⟨t, 2, none⟩) (by simp; omega) ne1).trans (by rw [World.cell?_alloc_lt _ _ _ (by simpa using s34)]; exact x2)
  have y1 : w5.cell? ⟨w4.heap.size, 1, none⟩ = some (.bool false) := (b5.cell (p := ⟨w4.heap.size, 1, none⟩) (by simp) ne2).trans (by rw [cell_of_row _ w4.heap.size 1 _ 52 (0, 0) (heap_alloc_new w4 _)]; rfl)
  have y2 : w5.cell? ⟨w4.heap.size, 2, none⟩ = some (.int .i64 tt) := (b5.cell (p := ⟨w4.heap.size, 2, none⟩) (by simp) ne2).trans (by rw [cell_of_row _ w4.heap.size 2 _ 52 (0, 0) (heap_alloc_new w4 _)]; rfl)
  have D5 := hide (D4.out.but b5 (fun g e => .inr (XB2.out g e).1) (fun e => by have := (XB2.out _ e).1; omega))
  have R5 := hide (R4.out.but b5 (fun g e => .inr (XB2.out g e).1) (fun e => by have := (XB2.out _ e).1; omega))
  have B5 : Hid (But (Two b1 b2) w w5) := ((But.of_below BW.out).trans B4.out).trans' b5 (fun g hg e => by have h1 := (XB2.out g e).1; have h2 := HS.out; omega)
  clear b5 O D4 R4 B4 x0 x1 x2 ne1 ne2
  go_wp2
  go_ret
  exact ⟨rfl, _, OK.out.tk, D5.out.avoid (fun _ _ e => .inl (.inl e)) m1.out, R5.out.avoid (fun _ _ e => .inl (.inl e)) m2.out, B5.out⟩

set_option maxRecDepth 100000 in
set_option maxHeartbeats 4000000 in
theorem does_6 {A A' : Nat → Prop} {b1 b2 : Nat} {D : Dev} {w : World} (hN : DevAt LN A w b1 D) (hR : DevAt LR A w b2 D) (ok : D.Ok) (hA : ∀ g, A g → g < w.heap.size) (hne : b1 ≠ b2) (hA1 : A' b1) (hA2 : A' b2) (n v : Int) (bv : Value) (bs : List Int) (yes : Bool) (hv : IsF A' w bv bs) (hl : bs.length ≤ 140737488351232) :
    Calls Try.prog 10 #[.pointer (some ⟨b1, 0, none⟩), .pointer (some ⟨b2, 0, none⟩), .agg #[.int .i64 6, .int .i64 n, .int .i64 v, bv, .bool yes]] w (Both A b1 b2 w) := by
  obtain ⟨va, vc, rfl, _, _⟩ := hv.shape
  have HP := hide (fun w2 ba bc hG hB => pre_of (t := 31) (w2 := w2) (kind := 6) (n := n) (v := v) (yes := yes) (ba := ba) (bc := bc) hN hR hv hG hB)
  have HV := hide hv
  have OK := hide ok
  have HA := hide hA
  have l1 := hN.lt
  have l2 := hR.lt
  have m1 := hide hN.mem
  have m2 := hide hR.mem
  have a1 := hide hA1
  have a2 := hide hA2
  have HNE := hide hne
  clear hN hR hv ok hA hne hA1 hA2
  go_enter Try.func10, Try.ntmps10
  go_wp2_with (at_builtin; refine wpList_grow rfl _ _ rfl rfl (w.heap.size + 1) A' _ _ [] bs rfl rfl (Gro.nil _ _) ?g2 ?g3 ?g4 bs (List.nil_append _) ?_)
  · exact HV.out.later ((Below.refl _ _).alloc (Nat.le_refl _) _)
  · simp
  · simp; omega
  intro ba bc w2 hbc hG hB
  have P := HP.out w2 ba bc hG hB
  have BW : Hid (Below w.heap.size w w2) := ((Below.refl _ w).alloc (Nat.le_refl _) _).trans (hB.mono (by omega))
  obtain ⟨s, hs⟩ : ∃ s, s = w.heap.size := ⟨_, rfl⟩
  rw [← hs] at P ⊢
  have HS := hide hs
  have l1 : b1 < s := by omega
  have l2 : b2 < s := by omega
  have hsw : s ≤ w2.heap.size := by have := BW.out.size; omega
  have HL : Hid (∀ W : World, w2.heap.size ≤ W.heap.size → ∀ g, Av A s w2.heap.size g → g < W.heap.size) := fun W hW => av_lt (fun g e => by have := HA.out g e; omega) hsw hW
  have c0 := P.c0
  have c1 := P.c1
  have c2 := P.c2
  have c3 := P.c3
  have c4 := P.c4
  have hsl := World.block_lt_of_cell? w2 _ c1
  have HP2 := hide P
  have KC : Hid (∀ W : World, But (Two b1 b2) w2 W → W.cell? ⟨s, 1, none⟩ = some (.int .i64 n) ∧ W.cell? ⟨s, 2, none⟩ = some (.int .i64 v) ∧ W.cell? ⟨s, 3, none⟩ = some (.slice va bs.length vc) ∧ W.cell? ⟨s, 4, none⟩ = some (.bool yes)) := fun W hb =>
    have key : ∀ i, W.cell? ⟨s, i, none⟩ = w2.cell? ⟨s, i, none⟩ := fun i => hb.cell (p := ⟨s, i, none⟩) hsl (fun e => by rcases e with e | e <;> (simp at e; omega))
    ⟨(key 1).trans c1, (key 2).trans c2, (key 3).trans c3, (key 4).trans c4⟩
  clear HP hG hB P hs hbc HV hsl
  have q2 : But (Two b1 b2) w2 w2.drew := (But.refl _ _).drew
  have keepS : Hid (∀ W : World, But (Two b1 b2) w2 W → (W.cell? ⟨s, 3, none⟩ = some (.slice va bs.length vc) ∧ W.cell? ⟨s, 4, none⟩ = some (.bool yes))) := fun W hb => by
    obtain ⟨k1, k2, k3, k4⟩ := KC.out W hb
    exact ⟨k3, k4⟩
  go_upto_region 25 with fail
  go_region_held (fun W => W.cell? ⟨s, 3, none⟩ = some (.slice va bs.length vc) ∧ W.cell? ⟨s, 4, none⟩ = some (.bool yes)) (exact keepS.out _ (by assumption))
    (first
      | (go_at_call 19; refine (Give_any HP2.out.dN.drew OK.out (HL.out _ (Nat.le_refl _)) _ bs yes ((HP2.out.row.isF (A := fun _ => False) (fun _ _ => id)).drew) (by omega)).mono ?_; rintro e w3 ⟨rfl, d3, b3⟩; have R3 := hide (HP2.out.dR.drew.but b3 (fun g e => e ▸ .inl m1.out) (fun e => HNE.out (Eq.symm e))); have D3 := hide d3; have q3 : But (Two b1 b2) w2 w3 := q2.trans (one_two b3); have V3 := hide (HP2.out.iv.drew.but b3 (fun g e => e ▸ a1.out)); have Z3 := hide b3.size; clear d3 b3)
      | (go_at_call 30; refine (rGive_any R3.out OK.out (HL.out _ Z3.out) _ bs yes V3.out (by omega)).mono ?_; rintro e w4 ⟨rfl, r4, b4⟩; have D4 := hide (D3.out.but b4 (fun g e => e ▸ .inl m2.out) (fun e => HNE.out e)); have R4 := hide r4; have q4 : But (Two b1 b2) w2 w4 := q3.trans (one_two' b4); clear r4 b4))
  have B4 := hide q4
  clear q2 q3 q4 keepS
  have G4 := hide (HP2.out.row.but B4.out (fun g e => by rcases e with e | e <;> omega))
  have AT := hide HP2.out.at_
  clear c0 c1 c2 c3 c4 HP2 KC
  go_wp2
  go_loopw [25] (fun vi wr => ∃ (i : Nat) (xs : List Int), vi = .int .i64 i ∧ i ≤ bs.length ∧ Hid (xs.length = bs.length) ∧ Hid (Gro (s + 1) wr (.slice ba bs.length bc) xs) ∧ But (Iv s w2.heap.size) w4 wr) (fun vi _ => bs.length - (intOf vi).toNat)
  case atStart => exact ⟨0, bs, rfl, Nat.zero_le _, rfl, G4.out, But.refl _ _⟩
  case round =>
    obtain ⟨i, xs, rfl, hi, hxl, hGX, hBe⟩ := hrel
    have HBe := hide hBe
    clear hBe
    by_cases hil : i < bs.length
    · obtain ⟨g, rfl, hg, hc, hf⟩ := hGX.out.block (by rw [hxl.out]; omega)
      have c9 := hc i (by rw [hxl.out]; exact hil)
      have f9 := hf i
      have AG := hide (AT.out g rfl (by omega))
      clear hc hf
      obtain ⟨z, ez⟩ : ∃ z, xs[i]?.getD 0 = z := ⟨_, rfl⟩
      rw [ez] at c9
      clear ez
      go_wp2
      go_roundw
      case rel => exact ⟨i + 1, xs.set i ((z + 1) % 256), by go_num, by omega, by show _ = _; rw [List.length_set]; exact hxl.out, hGX.out.store hxl.out.symm i _, HBe.out.setCell (p := ⟨g, i, none⟩) (.inr AG.out) _⟩
      case measure => simp [intOf]; omega
    · go_wp2
      go_ret
      exact ⟨rfl, _, OK.out.gv bs yes, back (DevAt.but D4.out HBe.out (fun g e => .inr e) (fun e => by unfold Iv at e; omega)) m1.out, back (DevAt.but R4.out HBe.out (fun g e => .inr e) (fun e => by unfold Iv at e; omega)) m2.out, ((But.of_below BW.out).trans B4.out).trans' HBe.out (fun g hg e => by have := HS.out; unfold Iv at e; omega)⟩

set_option maxRecDepth 100000 in
set_option maxHeartbeats 4000000 in
theorem does_7 {A A' : Nat → Prop} {b1 b2 : Nat} {D : Dev} {w : World} (hN : DevAt LN A w b1 D) (hR : DevAt LR A w b2 D) (ok : D.Ok) (hA : ∀ g, A g → g < w.heap.size) (hne : b1 ≠ b2) (hA1 : A' b1) (hA2 : A' b2) (n v : Int) (bv : Value) (bs : List Int) (yes : Bool) (hv : IsF A' w bv bs) (hl : bs.length ≤ 140737488351232) :
    Calls Try.prog 10 #[.pointer (some ⟨b1, 0, none⟩), .pointer (some ⟨b2, 0, none⟩), .agg #[.int .i64 7, .int .i64 n, .int .i64 v, bv, .bool yes]] w (Both A b1 b2 w) := by
  obtain ⟨va, vc, rfl, _, _⟩ := hv.shape
  have HP := hide (fun w2 ba bc hG hB => pre_of (t := 31) (w2 := w2) (kind := 7) (n := n) (v := v) (yes := yes) (ba := ba) (bc := bc) hN hR hv hG hB)
  have HV := hide hv
  have OK := hide ok
  have HA := hide hA
  have l1 := hN.lt
  have l2 := hR.lt
  have m1 := hide hN.mem
  have m2 := hide hR.mem
  have a1 := hide hA1
  have a2 := hide hA2
  have HNE := hide hne
  clear hN hR hv ok hA hne hA1 hA2
  go_enter Try.func10, Try.ntmps10
  go_wp2_with (at_builtin; refine wpList_grow rfl _ _ rfl rfl (w.heap.size + 1) A' _ _ [] bs rfl rfl (Gro.nil _ _) ?g2 ?g3 ?g4 bs (List.nil_append _) ?_)
  · exact HV.out.later ((Below.refl _ _).alloc (Nat.le_refl _) _)
  · simp
  · simp; omega
  intro ba bc w2 hbc hG hB
  have P := HP.out w2 ba bc hG hB
  have BW : Hid (Below w.heap.size w w2) := ((Below.refl _ w).alloc (Nat.le_refl _) _).trans (hB.mono (by omega))
  obtain ⟨s, hs⟩ : ∃ s, s = w.heap.size := ⟨_, rfl⟩
  rw [← hs] at P ⊢
  have HS := hide hs
  have l1 : b1 < s := by omega
  have l2 : b2 < s := by omega
  have hsw : s ≤ w2.heap.size := by have := BW.out.size; omega
  have HL : Hid (∀ W : World, w2.heap.size ≤ W.heap.size → ∀ g, Av A s w2.heap.size g → g < W.heap.size) := fun W hW => av_lt (fun g e => by have := HA.out g e; omega) hsw hW
  have c0 := P.c0
  have c1 := P.c1
  have c2 := P.c2
  have c3 := P.c3
  have c4 := P.c4
  have hsl := World.block_lt_of_cell? w2 _ c1
  have HP2 := hide P
  have KC : Hid (∀ W : World, But (Two b1 b2) w2 W → W.cell? ⟨s, 1, none⟩ = some (.int .i64 n) ∧ W.cell? ⟨s, 2, none⟩ = some (.int .i64 v) ∧ W.cell? ⟨s, 3, none⟩ = some (.slice va bs.length vc) ∧ W.cell? ⟨s, 4, none⟩ = some (.bool yes)) := fun W hb =>
    have key : ∀ i, W.cell? ⟨s, i, none⟩ = w2.cell? ⟨s, i, none⟩ := fun i => hb.cell (p := ⟨s, i, none⟩) hsl (fun e => by rcases e with e | e <;> (simp at e; omega))
    ⟨(key 1).trans c1, (key 2).trans c2, (key 3).trans c3, (key 4).trans c4⟩
  clear HP hG hB P hs hbc HV hsl
  go_wp2_with fail
  refine (Link_any HP2.out.dN OK.out yes).mono ?_
  rintro e w3 ⟨rfl, d3, b3⟩
  have R3 := hide (HP2.out.dR.but b3 (fun g e => e ▸ .inl m1.out) (fun e => HNE.out (Eq.symm e)))
  have D3 := hide d3
  have B3 := hide (one_two (b2 := b2) b3)
  obtain ⟨c1', c2', c3', c4'⟩ := KC.out w3 B3.out
  clear d3 b3
  go_wp2_with fail
  refine (rLink_any R3.out OK.out yes).mono ?_
  rintro e w4 ⟨rfl, r4, b4⟩
  have D4 := hide (D3.out.but b4 (fun g e => e ▸ .inl m2.out) (fun e => HNE.out e))
  have R4 := hide r4
  have B4 := hide (B3.out.trans (one_two' b4))
  clear r4 b4 D3 R3 B3
  have G4 := hide (HP2.out.row.but B4.out (fun g e => by rcases e with e | e <;> omega))
  have AT := hide HP2.out.at_
  clear c0 c1 c2 c3 c4 HP2 KC
  go_wp2
  go_loopw [25] (fun vi wr => ∃ (i : Nat) (xs : List Int), vi = .int .i64 i ∧ i ≤ bs.length ∧ Hid (xs.length = bs.length) ∧ Hid (Gro (s + 1) wr (.slice ba bs.length bc) xs) ∧ But (Iv s w2.heap.size) w4 wr) (fun vi _ => bs.length - (intOf vi).toNat)
  case atStart => exact ⟨0, bs, rfl, Nat.zero_le _, rfl, G4.out, But.refl _ _⟩
  case round =>
    obtain ⟨i, xs, rfl, hi, hxl, hGX, hBe⟩ := hrel
    have HBe := hide hBe
    clear hBe
    by_cases hil : i < bs.length
    · obtain ⟨g, rfl, hg, hc, hf⟩ := hGX.out.block (by rw [hxl.out]; omega)
      have c9 := hc i (by rw [hxl.out]; exact hil)
      have f9 := hf i
      have AG := hide (AT.out g rfl (by omega))
      clear hc hf
      obtain ⟨z, ez⟩ : ∃ z, xs[i]?.getD 0 = z := ⟨_, rfl⟩
      rw [ez] at c9
      clear ez
      go_wp2
      go_roundw
      case rel => exact ⟨i + 1, xs.set i ((z + 1) % 256), by go_num, by omega, by show _ = _; rw [List.length_set]; exact hxl.out, hGX.out.store hxl.out.symm i _, HBe.out.setCell (p := ⟨g, i, none⟩) (.inr AG.out) _⟩
      case measure => simp [intOf]; omega
    · go_wp2
      go_ret
      exact ⟨rfl, _, OK.out.lk yes, back (DevAt.but D4.out HBe.out (fun g e => .inr e) (fun e => by unfold Iv at e; omega)) m1.out, back (DevAt.but R4.out HBe.out (fun g e => .inr e) (fun e => by unfold Iv at e; omega)) m2.out, ((But.of_below BW.out).trans B4.out).trans' HBe.out (fun g hg e => by have := HS.out; unfold Iv at e; omega)⟩

set_option maxRecDepth 100000 in
set_option maxHeartbeats 4000000 in
theorem does_8 {A A' : Nat → Prop} {b1 b2 : Nat} {D : Dev} {w : World} (hN : DevAt LN A w b1 D) (hR : DevAt LR A w b2 D) (ok : D.Ok) (hA : ∀ g, A g → g < w.heap.size) (hne : b1 ≠ b2) (hA1 : A' b1) (hA2 : A' b2) (n v : Int) (bv : Value) (bs : List Int) (yes : Bool) (hv : IsF A' w bv bs) (hl : bs.length ≤ 140737488351232) :
    Calls Try.prog 10 #[.pointer (some ⟨b1, 0, none⟩), .pointer (some ⟨b2, 0, none⟩), .agg #[.int .i64 8, .int .i64 n, .int .i64 v, bv, .bool yes]] w (Both A b1 b2 w) := by
  obtain ⟨va, vc, rfl, _, _⟩ := hv.shape
  have HP := hide (fun w2 ba bc hG hB => pre_of (t := 31) (w2 := w2) (kind := 8) (n := n) (v := v) (yes := yes) (ba := ba) (bc := bc) hN hR hv hG hB)
  have HV := hide hv
  have OK := hide ok
  have HA := hide hA
  have l1 := hN.lt
  have l2 := hR.lt
  have m1 := hide hN.mem
  have m2 := hide hR.mem
  have a1 := hide hA1
  have a2 := hide hA2
  have HNE := hide hne
  clear hN hR hv ok hA hne hA1 hA2
  go_enter Try.func10, Try.ntmps10
  go_wp2_with (at_builtin; refine wpList_grow rfl _ _ rfl rfl (w.heap.size + 1) A' _ _ [] bs rfl rfl (Gro.nil _ _) ?g2 ?g3 ?g4 bs (List.nil_append _) ?_)
  · exact HV.out.later ((Below.refl _ _).alloc (Nat.le_refl _) _)
  · simp
  · simp; omega
  intro ba bc w2 hbc hG hB
  have P := HP.out w2 ba bc hG hB
  have BW : Hid (Below w.heap.size w w2) := ((Below.refl _ w).alloc (Nat.le_refl _) _).trans (hB.mono (by omega))
  obtain ⟨s, hs⟩ : ∃ s, s = w.heap.size := ⟨_, rfl⟩
  rw [← hs] at P ⊢
  have HS := hide hs
  have l1 : b1 < s := by omega
  have l2 : b2 < s := by omega
  have hsw : s ≤ w2.heap.size := by have := BW.out.size; omega
  have HL : Hid (∀ W : World, w2.heap.size ≤ W.heap.size → ∀ g, Av A s w2.heap.size g → g < W.heap.size) := fun W hW => av_lt (fun g e => by have := HA.out g e; omega) hsw hW
  have c0 := P.c0
  have c1 := P.c1
  have c2 := P.c2
  have c3 := P.c3
  have c4 := P.c4
  have hsl := World.block_lt_of_cell? w2 _ c1
  have HP2 := hide P
  have KC : Hid (∀ W : World, But (Two b1 b2) w2 W → W.cell? ⟨s, 1, none⟩ = some (.int .i64 n) ∧ W.cell? ⟨s, 2, none⟩ = some (.int .i64 v) ∧ W.cell? ⟨s, 3, none⟩ = some (.slice va bs.length vc) ∧ W.cell? ⟨s, 4, none⟩ = some (.bool yes)) := fun W hb =>
    have key : ∀ i, W.cell? ⟨s, i, none⟩ = w2.cell? ⟨s, i, none⟩ := fun i => hb.cell (p := ⟨s, i, none⟩) hsl (fun e => by rcases e with e | e <;> (simp at e; omega))
    ⟨(key 1).trans c1, (key 2).trans c2, (key 3).trans c3, (key 4).trans c4⟩
  clear HP hG hB P hs hbc HV hsl
  go_wp2_with fail
  refine (Tick_any HP2.out.dN).mono ?_
  rintro e w3 ⟨rfl, d3, b3⟩
  have R3 := hide (HP2.out.dR.but b3 (fun g e => e ▸ .inl m1.out) (fun e => HNE.out (Eq.symm e)))
  have D3 := hide d3
  have B3 := hide (one_two (b2 := b2) b3)
  obtain ⟨c1', c2', c3', c4'⟩ := KC.out w3 B3.out
  clear d3 b3
  have ck : w3.cell? ⟨b2, 104, none⟩ = some (.int .i64 D.clock) := R3.out.cclock LR_ok
  have fk := R3.out.frozen 104
  have D4 := hide (D3.out.but (K := Only b2) ((But.refl _ w3).cellb 104 (.int .i64 (wrap64 (D.clock + 1)))) (fun g e => e ▸ .inl m2.out) (fun e => HNE.out e))
  have R4 := hide (R3.out.setClock LR_ok (wrap64 (D.clock + 1)))
  have B4 : Hid (But (Two b1 b2) w2 (w3.setCell ⟨b2, 104, none⟩ (.int .i64 (wrap64 (D.clock + 1))))) := B3.out.trans (one_two' ((But.refl _ w3).cellb _ _))
  clear D3 R3 B3
  go_upto_region 32 with fail
  obtain ⟨w4, hw4⟩ : ∃ w4, w4 = w3.setCell ⟨b2, 104, none⟩ (.int .i64 (wrap64 (D.clock + 1))) := ⟨_, rfl⟩
  have D4 : Hid (DevAt LN (Av A s w2.heap.size) w4 b1 D.tick) := by rw [hw4]; exact D4.out
  have R4 : Hid (DevAt LR (Av A s w2.heap.size) w4 b2 D.tick) := by rw [hw4]; exact R4.out
  rw [← hw4] at B4 ⊢
  clear ck fk hw4
  have G4 := hide (HP2.out.row.but B4.out (fun g e => by rcases e with e | e <;> omega))
  have AT := hide HP2.out.at_
  clear c0 c1 c2 c3 c4 HP2 KC
  go_wp2
  go_loopw [25] (fun vi wr => ∃ (i : Nat) (xs : List Int), vi = .int .i64 i ∧ i ≤ bs.length ∧ Hid (xs.length = bs.length) ∧ Hid (Gro (s + 1) wr (.slice ba bs.length bc) xs) ∧ But (Iv s w2.heap.size) w4 wr) (fun vi _ => bs.length - (intOf vi).toNat)
  case atStart => exact ⟨0, bs, rfl, Nat.zero_le _, rfl, G4.out, But.refl _ _⟩
  case round =>
    obtain ⟨i, xs, rfl, hi, hxl, hGX, hBe⟩ := hrel
    have HBe := hide hBe
    clear hBe
    by_cases hil : i < bs.length
    · obtain ⟨g, rfl, hg, hc, hf⟩ := hGX.out.block (by rw [hxl.out]; omega)
      have c9 := hc i (by rw [hxl.out]; exact hil)
      have f9 := hf i
      have AG := hide (AT.out g rfl (by omega))
      clear hc hf
      obtain ⟨z, ez⟩ : ∃ z, xs[i]?.getD 0 = z := ⟨_, rfl⟩
      rw [ez] at c9
      clear ez
      go_wp2
      go_roundw
      case rel => exact ⟨i + 1, xs.set i ((z + 1) % 256), by go_num, by omega, by show _ = _; rw [List.length_set]; exact hxl.out, hGX.out.store hxl.out.symm i _, HBe.out.setCell (p := ⟨g, i, none⟩) (.inr AG.out) _⟩
      case measure => simp [intOf]; omega
    · go_wp2
      go_ret
      exact ⟨rfl, _, OK.out.tick, back (DevAt.but D4.out HBe.out (fun g e => .inr e) (fun e => by unfold Iv at e; omega)) m1.out, back (DevAt.but R4.out HBe.out (fun g e => .inr e) (fun e => by unfold Iv at e; omega)) m2.out, ((But.of_below BW.out).trans B4.out).trans' HBe.out (fun g hg e => by have := HS.out; unfold Iv at e; omega)⟩

set_option maxRecDepth 100000 in
set_option maxHeartbeats 4000000 in
theorem does_9 {A A' : Nat → Prop} {b1 b2 : Nat} {D : Dev} {w : World} (hN : DevAt LN A w b1 D) (hR : DevAt LR A w b2 D) (ok : D.Ok) (hA : ∀ g, A g → g < w.heap.size) (hne : b1 ≠ b2) (hA1 : A' b1) (hA2 : A' b2) (kind : Int) (k0 : ¬ kind = 0) (k1 : ¬ kind = 1) (k2 : ¬ kind = 2) (k3 : ¬ kind = 3) (k4 : ¬ kind = 4) (k5 : ¬ kind = 5) (k6 : ¬ kind = 6) (k7 : ¬ kind = 7) (k8 : ¬ kind = 8) (n v : Int) (bv : Value) (bs : List Int) (yes : Bool) (hv : IsF A' w bv bs) (hl : bs.length ≤ 140737488351232) :
    Calls Try.prog 10 #[.pointer (some ⟨b1, 0, none⟩), .pointer (some ⟨b2, 0, none⟩), .agg #[.int .i64 kind, .int .i64 n, .int .i64 v, bv, .bool yes]] w (Both A b1 b2 w) := by
  obtain ⟨va, vc, rfl, _, _⟩ := hv.shape
  have HP := hide (fun w2 ba bc hG hB => pre_of (t := 31) (w2 := w2) (kind := kind) (n := n) (v := v) (yes := yes) (ba := ba) (bc := bc) hN hR hv hG hB)
  have HV := hide hv
  have OK := hide ok
  have HA := hide hA
  have l1 := hN.lt
  have l2 := hR.lt
  have m1 := hide hN.mem
  have m2 := hide hR.mem
  have a1 := hide hA1
  have a2 := hide hA2
  have HNE := hide hne
  clear hN hR hv ok hA hne hA1 hA2
  have q0 : (kind == 0) = false := beq_no k0
  have q1 : (kind == 1) = false := beq_no k1
  have q2 : (kind == 2) = false := beq_no k2
  have q3 : (kind == 3) = false := beq_no k3
  have q4 : (kind == 4) = false := beq_no k4
  have q5 : (kind == 5) = false := beq_no k5
  have q6 : (kind == 6) = false := beq_no k6
  have q7 : (kind == 7) = false := beq_no k7
  have q8 : (kind == 8) = false := beq_no k8
  clear k0 k1 k2 k3 k4 k5 k6 k7 k8
  go_enter Try.func10, Try.ntmps10
  go_wp2_with (at_builtin; refine wpList_grow rfl _ _ rfl rfl (w.heap.size + 1) A' _ _ [] bs rfl rfl (Gro.nil _ _) ?g2 ?g3 ?g4 bs (List.nil_append _) ?_)
  · exact HV.out.later ((Below.refl _ _).alloc (Nat.le_refl _) _)
  · simp
  · simp; omega
  intro ba bc w2 hbc hG hB
  have P := HP.out w2 ba bc hG hB
  have BW : Hid (Below w.heap.size w w2) := ((Below.refl _ w).alloc (Nat.le_refl _) _).trans (hB.mono (by omega))
  obtain ⟨s, hs⟩ : ∃ s, s = w.heap.size := ⟨_, rfl⟩
  rw [← hs] at P ⊢
  have HS := hide hs
  have l1 : b1 < s := by omega
  have l2 : b2 < s := by omega
  have hsw : s ≤ w2.heap.size := by have := BW.out.size; omega
  have HL : Hid (∀ W : World, w2.heap.size ≤ W.heap.size → ∀ g, Av A s w2.heap.size g → g < W.heap.size) := fun W hW => av_lt (fun g e => by have := HA.out g e; omega) hsw hW
  have c0 := P.c0
  have c1 := P.c1
  have c2 := P.c2
  have c3 := P.c3
  have c4 := P.c4
  have hsl := World.block_lt_of_cell? w2 _ c1
  have HP2 := hide P
  have KC : Hid (∀ W : World, But (Two b1 b2) w2 W → W.cell? ⟨s, 1, none⟩ = some (.int .i64 n) ∧ W.cell? ⟨s, 2, none⟩ = some (.int .i64 v) ∧ W.cell? ⟨s, 3, none⟩ = some (.slice va bs.length vc) ∧ W.cell? ⟨s, 4, none⟩ = some (.bool yes)) := fun W hb =>
    have key : ∀ i, W.cell? ⟨s, i, none⟩ = w2.cell? ⟨s, i, none⟩ := fun i => hb.cell (p := ⟨s, i, none⟩) hsl (fun e => by rcases e with e | e <;> (simp at e; omega))
    ⟨(key 1).trans c1, (key 2).trans c2, (key 3).trans c3, (key 4).trans c4⟩
  clear HP hG hB P hs hbc HV hsl
  have D4 := hide HP2.out.dN
  have R4 := hide HP2.out.dR
  have B4 := hide (But.refl (Two b1 b2) w2)
  go_upto_region 32 with fail
  have G4 := hide (HP2.out.row.but B4.out (fun g e => by rcases e with e | e <;> omega))
  have AT := hide HP2.out.at_
  clear c0 c1 c2 c3 c4 HP2 KC
  go_wp2
  go_loopw [25] (fun vi wr => ∃ (i : Nat) (xs : List Int), vi = .int .i64 i ∧ i ≤ bs.length ∧ Hid (xs.length = bs.length) ∧ Hid (Gro (s + 1) wr (.slice ba bs.length bc) xs) ∧ But (Iv s w2.heap.size) w2 wr) (fun vi _ => bs.length - (intOf vi).toNat)
  case atStart => exact ⟨0, bs, rfl, Nat.zero_le _, rfl, G4.out, But.refl _ _⟩
  case round =>
    obtain ⟨i, xs, rfl, hi, hxl, hGX, hBe⟩ := hrel
    have HBe := hide hBe
    clear hBe
    by_cases hil : i < bs.length
    · obtain ⟨g, rfl, hg, hc, hf⟩ := hGX.out.block (by rw [hxl.out]; omega)
      have c9 := hc i (by rw [hxl.out]; exact hil)
      have f9 := hf i
      have AG := hide (AT.out g rfl (by omega))
      clear hc hf
      obtain ⟨z, ez⟩ : ∃ z, xs[i]?.getD 0 = z := ⟨_, rfl⟩
      rw [ez] at c9
      clear ez
      go_wp2
      go_roundw
      case rel => exact ⟨i + 1, xs.set i ((z + 1) % 256), by go_num, by omega, by show _ = _; rw [List.length_set]; exact hxl.out, hGX.out.store hxl.out.symm i _, HBe.out.setCell (p := ⟨g, i, none⟩) (.inr AG.out) _⟩
      case measure => simp [intOf]; omega
    · go_wp2
      go_ret
      exact ⟨rfl, _, OK.out, back (DevAt.but D4.out HBe.out (fun g e => .inr e) (fun e => by unfold Iv at e; omega)) m1.out, back (DevAt.but R4.out HBe.out (fun g e => .inr e) (fun e => by unfold Iv at e; omega)) m2.out, ((But.of_below BW.out).trans B4.out).trans' HBe.out (fun g hg e => by have := HS.out; unfold Iv at e; omega)⟩

end Go.Proofs.Ytjcdhpfilkojaaa
