
/-
  Room, Sending, Coming; receive.
-/
import Derived.Test.YtjkfjijnjkpbbaaG4
namespace Go.Proofs.Ytjkfjijnjkpbbaa
open Go.RowKit

section
variable {A : Nat → Prop} {w : World} {q : Bl} {n : Nat} {D : Dev} {B : Nat → Buf} {s c : Sd}

set_option maxRecDepth 100000 in
theorem Room_any (h : Prg A w q n D B s c) : Calls Try.prog 24 #[.pointer (some ⟨q.r, 0, none⟩)] w fun e w' => e = .returned (.int .i64 (15 - (s.ids.length : Int))) ∧ w' = w := by
  have c1 := h.s.many
  have m15 := h.s.m15
  have z : (s.ids.length : Int) ≤ 15 := by omega
  generalize s.ids.length = m at *
  clear h
  go_enter Try.func24, Try.ntmps24
  go_wp2
  go_ret
  exact ⟨rfl, rfl⟩

set_option maxRecDepth 100000 in
theorem Sending_any (h : Prg A w q n D B s c) : Calls Try.prog 23 #[.pointer (some ⟨q.r, 0, none⟩)] w fun x w' => ∃ v, x = .returned v ∧ w'.ownsRow w.heap.size 3 1 v s.ids.length (ints s.ids) ∧ Below w.heap.size w w' := by
  have X := hide (list_any h.s)
  clear h
  go_enter Try.func23, Try.ntmps23
  go_wp2_with fail
  refine X.out.mono ?_
  rintro _ w1 ⟨v, rfl, hr, hb⟩
  have HR := hide hr
  have HB := hide hb
  obtain ⟨a, c, rfl, _⟩ := row_shape hr
  clear hr hb X
  go_wp2
  go_ret
  exact ⟨_, rfl, HR.out, HB.out⟩

set_option maxRecDepth 100000 in
theorem Coming_any (h : Prg A w q n D B s c) : Calls Try.prog 26 #[.pointer (some ⟨q.r, 0, none⟩)] w fun x w' => ∃ v, x = .returned v ∧ w'.ownsRow w.heap.size 3 1 v c.ids.length (ints c.ids) ∧ Below w.heap.size w w' := by
  have X := hide (list_any h.c)
  clear h
  go_enter Try.func26, Try.ntmps26
  go_wp2_with fail
  refine X.out.mono ?_
  rintro _ w1 ⟨v, rfl, hr, hb⟩
  have HR := hide hr
  have HB := hide hb
  obtain ⟨a, c, rfl, _⟩ := row_shape hr
  clear hr hb X
  go_wp2
  go_ret
  exact ⟨_, rfl, HR.out, HB.out⟩
end

/-- the variable in block bl holds a row of one's own, in a block that is none of X -/
structure VarX (e : TypeId) (sz N : Nat) (X : Nat → Prop) (W : World) (bl : Nat) (n : Nat) (xs : List Value) : Prop where
  lt : bl < W.heap.size
  le : N ≤ bl
  mem : X bl
  fz : W.frozen? ⟨bl, 0, none⟩ = false
  row : ∃ v, W.cell? ⟨bl, 0, none⟩ = some v ∧ W.ownsRow N e sz v n xs ∧ ∀ k, v.ownBlock = some k → ¬ X k
theorem VarX.but {e : TypeId} {sz N : Nat} {X : Nat → Prop} {W W' : World} {bl n : Nat} {xs : List Value} (h : VarX e sz N X W bl n xs) {K : Nat → Prop} (hb : But K W W') (hn : ¬ K bl) (hk : ∀ g, N ≤ g → g < W.heap.size → ¬ X g → ¬ K g) : VarX e sz N X W' bl n xs := by
  obtain ⟨v, h1, h2, h3⟩ := h.row
  exact ⟨Nat.lt_of_lt_of_le h.lt hb.size, h.le, h.mem, (hb.frozen (p := ⟨bl, 0, none⟩) h.lt hn).trans h.fz, v, (hb.cell (p := ⟨bl, 0, none⟩) h.lt hn).trans h1, row_keep h2 hb (fun k hv => hk k (World.ownsRow.lt h2 k hv).1 (World.ownsRow.lt h2 k hv).2 (h3 k hv)), h3⟩

set_option maxRecDepth 100000 in
set_option maxHeartbeats 4000000 in
theorem receive1_any {A X : Nat → Prop} {W : World} {q : Bl} {n : Nat} {D : Dev} {B : Nat → Buf} {s c : Sd} {N br bc : Nat} {l : List (Int × Bool)} (h : Prg A W q n D B s c) (ok : D.Ok) (hr : W.cell? ⟨br, 0, none⟩ = some (.pointer (some ⟨q.r, 0, none⟩))) (hv : VarX 67 2 N X W bc l.length (flc l))
    (hX : ∀ k, X k → k < W.heap.size) (hq : q.d < N ∧ q.p < N ∧ q.g < N ∧ q.r < N) (hA : ∀ g, N ≤ g → A g) (hl : l.length ≤ 16) (at_ : Nat) (hx : D.rxE (at_ : Int) = 0) (id : Int) :
    Calls Try.prog 87 #[.int .i64 (at_ : Int), .int .i64 id, .pointer (some ⟨br, 0, none⟩), .pointer (some ⟨bc, 0, none⟩)] W fun e W' => e = .returned (.tuple #[]) ∧ Prg A W' q n D (stB n B id (D.rxF (at_ : Int))) s c ∧ VarX 67 2 N X W' bc (l ++ [(id, D.rxB (at_ : Int))]).length (flc (l ++ [(id, D.rxB (at_ : Int))])) ∧ But (fun g => g = q.g ∨ g = bc ∨ N ≤ g ∧ ¬ X g) W W' := by
  have H := hide h
  have HV := hide hv
  have c0 := h.c0
  have XR := hide (Rx_any h.dev ok (at_ : Int))
  rw [hx] at XR
  have HXX := hide hX
  have HQ := hide hq
  have HA := hide hA
  have HL := hide hl
  have HR := hide hr
  have hbl := hv.lt
  have hblN := hv.le
  have rlt := World.block_lt_of_cell? W _ hr
  clear h hv hx hX hq hA hl ok
  generalize D.rxB (at_ : Int) = bad at *
  generalize D.rxF (at_ : Int) = fr at *
  go_enter Try.func87, Try.ntmps87
  go_wp2_with fail
  refine XR.out.mono ?_
  rintro _ w1 ⟨fa, fc, rfl, hG, hb⟩
  have P1 := hide (H.out.later hb)
  have b1 : But (fun _ => False) W w1 := But.of_below hb
  have V1 := hide (HV.out.but b1 (fun e => e) (fun _ _ _ _ e => e))
  have cr1 : w1.cell? ⟨br, 0, none⟩ = some (.pointer (some ⟨q.r, 0, none⟩)) := (b1.cell (p := ⟨br, 0, none⟩) rlt (fun e => e)).trans HR.out
  have c11 := P1.out.c1
  have B1 := hide b1
  have XS := hide (Set_any P1.out.pool id _ _ (hG.isF (A := fun _ => False) (fun _ _ e => e)))
  clear XR hb b1 H HV hG c0 hr
  go_wp2_with fail
  refine XS.out.mono ?_
  rintro _ w2 ⟨rfl, hp, hb⟩
  have P2 := hide (P1.out.onPool hb hp)
  have V2 := hide (V1.out.but hb (fun e => by have e : bc = q.g := e; have := HQ.out; omega) (fun g hg _ _ e => by have e : g = q.g := e; have := HQ.out; omega))
  have B2 : Hid (But (fun g => g = q.g ∨ g = bc ∨ N ≤ g ∧ ¬ X g) W w2) := (B1.out.mono (fun _ e => e.elim)).trans (hb.mono (fun g e => .inl e))
  clear XS hp hb P1 V1 B1 cr1 c11
  obtain ⟨v, cv, ho, hno⟩ := V2.out.row
  have ltw := V2.out.lt
  obtain ⟨g', c', w3, hrun, ho3, hb3, hg, hNg, hlt3⟩ := more_come ho (id, bad) (Nat.le_trans hblN (Nat.le_of_lt ltw)) (by have := HL.out; omega)
  obtain ⟨a, cc, rfl, _⟩ := row_shape ho
  have nb : (Value.slice a l.length cc).ownBlock ≠ some bc := fun e => hno bc e V2.out.mem
  have cv3 : w3.cell? ⟨bc, 0, none⟩ = some (.slice a l.length cc) := (hb3.cell (p := ⟨bc, 0, none⟩) ltw nb).trans cv
  have fz3 : w3.frozen? ⟨bc, 0, none⟩ = false := (hb3.frozen (p := ⟨bc, 0, none⟩) ltw nb).trans V2.out.fz
  have hX2 : ∀ k, X k → k < w2.heap.size := fun k hk => Nat.lt_of_lt_of_le (HXX.out k hk) B2.out.size
  have FIN : Hid (Prg A (w3.setCell ⟨bc, 0, none⟩ (.slice (some ⟨g', 0, none⟩) (l.length + 1) c')) q n D (stB n B id fr) s c ∧ VarX 67 2 N X (w3.setCell ⟨bc, 0, none⟩ (.slice (some ⟨g', 0, none⟩) (l.length + 1) c')) bc (l ++ [(id, bad)]).length (flc (l ++ [(id, bad)])) ∧ But (fun g => g = q.g ∨ g = bc ∨ N ≤ g ∧ ¬ X g) W (w3.setCell ⟨bc, 0, none⟩ (.slice (some ⟨g', 0, none⟩) (l.length + 1) c'))) := by
    have hgX : ¬ X g' := by
      rcases hg with h1 | h1
      · exact hno g' h1
      · intro e; have := hX2 g' e; omega
    have hgb : g' ≠ bc := fun e => hgX (e ▸ V2.out.mem)
    have b4 : But (Only bc) w3 (w3.setCell ⟨bc, 0, none⟩ (.slice (some ⟨g', 0, none⟩) (l.length + 1) c')) := (But.refl _ _).cellb _ _
    have b34 : But (fun g => g = bc ∨ N ≤ g ∧ ¬ X g) w2 (w3.setCell ⟨bc, 0, none⟩ (.slice (some ⟨g', 0, none⟩) (l.length + 1) c')) := (hb3.mono (fun g e => .inr ⟨(World.ownsRow.lt ho g e).1, hno g e⟩)).trans (b4.mono (fun g e => .inl e))
    have HQ' := HQ.out
    have bN : ∀ g, (g = bc ∨ N ≤ g ∧ ¬ X g) → N ≤ g := fun g e => e.elim (fun e => e ▸ hblN) (fun e => e.1)
    refine ⟨P2.out.but b34 (fun g e => HA.out g (bN g e)) (fun e => by have := bN _ e; omega) (fun e => by have := bN _ e; omega) (fun e => by have := bN _ e; omega) (fun e => by have := bN _ e; omega), ⟨Nat.lt_of_lt_of_le ltw (Nat.le_trans hb3.size b4.size), hblN, V2.out.mem, (World.frozen?_setCell ..).trans fz3, _, World.cell?_setCell_same' _ _ _ (by rw [cv3]; rfl), row_keep ho3 b4 (fun k hk e => ?_), fun k hk => ?_⟩, B2.out.trans (b34.mono (fun g e => .inr e))⟩
    · have hk : some g' = some k := hk
      cases hk
      exact hgb e
    · have hk : some g' = some k := hk
      cases hk
      exact hgX
  have HRN := hide hrun
  clear ho hno ho3 hb3 hg hrun hX2 P2 V2 B2 HXX HQ HA
  go_wp2_with (at_builtin; refine wpList_app rfl _ _ 61 61 rfl _ _ rfl rfl HRN.out ?_)
  go_wp2
  go_end0
  exact ⟨rfl, FIN.out.1, FIN.out.2.1, FIN.out.2.2⟩
end Go.Proofs.Ytjkfjijnjkpbbaa
