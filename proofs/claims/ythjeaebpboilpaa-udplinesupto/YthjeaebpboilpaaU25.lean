
/-
  UdpLines: a datagram of one's own.
-/
import Derived.Test.YthjeaebpboilpaaU24
namespace Go.Proofs.Ythjeaebpboilpaa
open Go.RowKit Go.Shelf

section
variable {w : World} {ops : Array Oper} {rest : List Oper} {o : Oper} {a : Act} {Q : Exit → Act → World → Prop}
theorem wpList_appK (hgd : o.guard = none) (T : TypeId) (s x : Operand) (hop : o.op = Op.call { callee := Callee.builtin Builtin.append, args := #[s, x], argTypes := #[T, T] }) (hty : o.type = T) (v u : Value) (hs : a.eval s = v) (hx : a.eval x = u) {v' : Value} {w' : World}
    (hr : (Builtin.append_ #[T, T] T #[v, u]).run Try.prog w = .ok v' w') (h : wpList Try.prog ops Q rest (a.put o.dst v') w') : wpList Try.prog ops Q (o :: rest) a w := by
  refine wpList_plain hgd fun K hK => ?_
  unfold Oper.wp
  simp only [execOp, hop, hty]
  simp [resolve, invoke, builtin, hs, hx, hr, Result.andThen]
  exact hK _ _ h
theorem wpList_bsDg (hgd : o.guard = none) (x : Operand) (ho : o.op = .buildSlice 51 1 #[(0, x)]) (d : Dg) (X : List Value) (hX : X = d.cells) (hx : a.eval x = .agg X.toArray) (h : wpList Try.prog ops Q rest (a.put o.dst (.slice (some ⟨w.heap.size, 0, none⟩) 1 1)) (w.alloc (.cells X.toArray 57))) : wpList Try.prog ops Q (o :: rest) a w := by
  refine wpList_plain hgd fun K hK => ?_
  unfold Oper.wp
  rw [hX] at hx h
  rw [exec_bsDg x d ho hx]
  exact hK _ _ h
end
/-- a new datagram's box -/
theorem box7 (W : World) (X : List Value) (lX : X.length = 7) : ∃ w3 w4 s4, s4 = W.heap.size ∧ w3 = W.alloc (.cells #[.int .u8 0, .int .u8 0, .int .u8 0, .int .u8 0, .int .i64 0, .slice none 0 0, .slice none 0 0] 57) ∧ w4 = w3.setCells s4 0 X ∧ (CellsAt w3 s4 0 zD.cells ∧ (∀ y, w3.frozen? ⟨s4, y, none⟩ = false)) ∧ CellsAt w4 s4 0 X ∧ (∀ y, w4.frozen? ⟨s4, y, none⟩ = false) ∧ Below W.heap.size W w4 ∧ s4 < w4.heap.size ∧ Below W.heap.size W w3 := by
  have b3 := later_alloc W (.cells #[.int .u8 0, .int .u8 0, .int .u8 0, .int .u8 0, .int .i64 0, .slice none 0 0, .slice none 0 0] 57)
  have c4 := (CellsAt.new W zD.cells 57).stored (vs := X) (by rw [lX]; rfl)
  exact ⟨_, _, _, rfl, rfl, rfl, ⟨CellsAt.new W zD.cells _, fun y => frozen_new W _ _ _⟩, c4, fun y => by rw [World.frozen?_setCells]; exact frozen_new W _ _ _, b3.trans ((But.cells W.heap.size X 0 _).below (by simp) (fun g hg e => by have e : g = W.heap.size := e; omega)), c4.lt (by omega), b3⟩
/-- all worlds of the copy of x that lies in the box s -/
structure Cpy (W : World) (x : Dg) (s : Nat) (w3 w4 w5 w6 w7 w8 : World) (a5 a6 : Option Addr) (c5 c6 : Nat) : Prop where
  s1 : s = W.heap.size
  e3 : w3 = W.alloc (.cells #[.int .u8 0, .int .u8 0, .int .u8 0, .int .u8 0, .int .i64 0, .slice none 0 0, .slice none 0 0] 57)
  e4 : w4 = w3.setCells s 0 x.cells
  k3 : CellsAt w3 s 0 zD.cells ∧ (∀ y, w3.frozen? ⟨s, y, none⟩ = false)
  r5 : (Builtin.append_ #[24, 24] 24 #[.slice none 0 0, x.dv]).run Try.prog w4 = .ok (.slice a5 x.D.length c5) w5
  k5 : w5.cell? ⟨s, 5, none⟩ = some x.dv ∧ w5.frozen? ⟨s, 5, none⟩ = false
  e6 : w6 = w5.setCell ⟨s, 5, none⟩ (.slice a5 x.D.length c5)
  r7 : (Builtin.append_ #[55, 55] 55 #[.slice none 0 0, x.bv]).run Try.prog w6 = .ok (.slice a6 x.B.length c6) w7
  k7 : w7.cell? ⟨s, 6, none⟩ = some x.bv ∧ w7.frozen? ⟨s, 6, none⟩ = false
  e8 : w8 = w7.setCell ⟨s, 6, none⟩ (.slice a6 x.B.length c6)
  c8 : CellsAt w8 s 0 (Dg.mk x.src x.port (.slice a5 x.D.length c5) (.slice a6 x.B.length c6) x.D x.B).cells
  ok : (Dg.mk x.src x.port (.slice a5 x.D.length c5) (.slice a6 x.B.length c6) x.D x.B).Ok (fun g => s < g ∧ g < w8.heap.size) w8
  z5 : Scr (Value.int .u8) (fun g => s < g ∧ g < w6.heap.size) w8 a5 x.D.length
  z6 : Scr (Value.int .i64) (fun g => w6.heap.size ≤ g ∧ g < w8.heap.size) w8 a6 x.B.length
  b4 : Below W.heap.size W w4
  b5 : Below W.heap.size W w5
  b6 : Below W.heap.size W w6
  b7 : Below W.heap.size W w7
  b8 : Below W.heap.size W w8
  l8 : s < w6.heap.size ∧ w6.heap.size ≤ w8.heap.size
theorem copy_of {P : Nat → Prop} (W : World) (x : Dg) (hx : x.Ok P W) : ∃ s w3 w4 w5 w6 w7 w8 a5 a6 c5 c6, Cpy W x s w3 w4 w5 w6 w7 w8 a5 a6 c5 c6 := by
  obtain ⟨w3, w4, s, hs, h3, h4, k3, c4, f4, b4, l4, _⟩ := box7 W x.cells rfl
  have hd := hx.ld
  have hb := hx.lb
  obtain ⟨v5, w5, r5, g5, b45⟩ := append_runB (Gro.nil w4.heap.size w4) (hx.d.later b4).isB (Nat.le_refl _) (by simp; omega)
  rw [List.nil_append] at g5
  obtain ⟨a5, c5, rfl, _⟩ := g5.isB.shape
  have q5 : w5.cell? ⟨s, 5, none⟩ = some x.dv := (b45.cell (p := ⟨s, 5, none⟩) l4).trans (c4 5 _ rfl)
  have f5 : ∀ y, w5.frozen? ⟨s, y, none⟩ = false := fun y => (b45.frozen (p := ⟨s, y, none⟩) l4).trans (f4 y)
  have C5 := c4.later l4 b45
  obtain ⟨w6, h6⟩ : ∃ w6, w6 = w5.setCell ⟨s, 5, none⟩ (.slice a5 x.D.length c5) := ⟨_, rfl⟩
  have C6 : CellsAt w6 s 0 (x.cells.set 5 (.slice a5 x.D.length c5)) := by rw [h6]; exact C5.set 5 _
  have f6 : ∀ y, w6.frozen? ⟨s, y, none⟩ = false := fun y => by rw [h6, World.frozen?_setCell]; exact f5 y
  have b56 : But (Only s) w5 w6 := by rw [h6]; exact (But.refl (Only s) w5).cellb (b := s) rfl 5 _
  have B5 : Below W.heap.size W w5 := later b4 b45
  have B6 : Below W.heap.size W w6 := B5.trans (b56.below B5.size (fun g hg e => by have e : g = s := e; omega))
  have l5 : s < w5.heap.size := Nat.lt_of_lt_of_le l4 b45.size
  have l6 : s < w6.heap.size := Nat.lt_of_lt_of_le l5 b56.size
  obtain ⟨a6, c6, w7, r7, n7, b67⟩ := appI_run (O := fun _ => False) (RowN.nil _ w6) (hx.b.later B6) (by simp; omega)
  simp only [List.length_nil, Nat.zero_add, List.nil_append] at r7 n7
  have b67' : Below w6.heap.size w6 w7 := b67.below (Nat.le_refl _) (fun g _ => id)
  have C7 := C6.later l6 b67'
  have f7 : ∀ y, w7.frozen? ⟨s, y, none⟩ = false := fun y => (b67'.frozen (p := ⟨s, y, none⟩) l6).trans (f6 y)
  obtain ⟨w8, h8⟩ : ∃ w8, w8 = w7.setCell ⟨s, 6, none⟩ (.slice a6 x.B.length c6) := ⟨_, rfl⟩
  have C8 : CellsAt w8 s 0 ((x.cells.set 5 (.slice a5 x.D.length c5)).set 6 (.slice a6 x.B.length c6)) := by rw [h8]; exact C7.set 6 _
  have b78 : But (Only s) w7 w8 := by rw [h8]; exact (But.refl (Only s) w7).cellb (b := s) rfl 6 _
  have B7 : Below W.heap.size W w7 := later B6 b67'
  have B8 : Below W.heap.size W w8 := B7.trans (b78.below B7.size (fun g hg e => by have e : g = s := e; omega))
  have z45 := b45.size
  have z56 := b56.size
  have z67 := b67'.size
  have z78 := b78.size
  have G5 := (g5.cn.own (P' := fun g => s < g ∧ g < w6.heap.size) (fun g _ e => ⟨by omega, by omega⟩))
  have G8 := ((G5.but b56 (fun g e e2 => by have e2 : g = s := e2; omega)).later b67').but b78 (fun g e e2 => by have e2 : g = s := e2; omega)
  have N7 : RowN (fun g => w6.heap.size ≤ g ∧ g < w8.heap.size) w7 (.slice a6 x.B.length c6) x.B := n7.own (fun g hg e => by
    rcases e with e | e
    · exact e.elim
    · exact ⟨e.1, by omega⟩)
  have N8 := N7.but b78 (fun g e e2 => by have e2 : g = s := e2; omega)
  refine ⟨s, w3, w4, w5, w6, w7, w8, a5, a6, c5, c6, hs, h3, h4, k3, r5, ⟨q5, f5 5⟩, h6, r7, ⟨C7 6 _ rfl, f7 6⟩, h8, C8, ⟨G8.own (fun g _ e => ⟨e.1, by omega⟩), N8.cn.own (fun g _ e => ⟨by omega, e.2⟩), hd, hb⟩, ?_, N8.scr rfl, b4, B5, B6, B7, B8, l6, by omega⟩
  have S5 : Scr (Value.int .u8) (fun g => s < g ∧ g < w6.heap.size) w5 a5 x.D.length := fun h0 => by
    obtain ⟨g, off, e, hO, r⟩ := g5.scr rfl h0
    exact ⟨g, off, e, ⟨by omega, by omega⟩, r⟩
  exact ((S5.but b56 (fun g e e2 => by have e2 : g = s := e2; omega)).but (K := fun _ => False) (But.of_below b67') (fun _ _ => id)).but b78 (fun g e e2 => by have e2 : g = s := e2; omega)
end Go.Proofs.Ythjeaebpboilpaa
