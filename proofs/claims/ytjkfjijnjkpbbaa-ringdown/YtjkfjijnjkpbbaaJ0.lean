
/-
  begun: the program's half of a rig.
-/
import Derived.Test.YtjkfjijnjkpbbaaH1
namespace Go.Proofs.Ytjkfjijnjkpbbaa
open Go.RowKit

/-- the rig's cells, as far as the program's own ring goes -/
structure RigP (A : Nat → Prop) (W : World) (x : Nat) (q : Bl) (n : Nat) (D : Dev) (B : Nat → Buf) (s c : Sd) : Prop where
  p : Prg A W q n D B s c
  c0 : W.cell? ⟨x, 0, none⟩ = some (.pointer (some ⟨q.d, 0, none⟩))
  c1 : W.cell? ⟨x, 1, none⟩ = some (.pointer (some ⟨q.p, 0, none⟩))
  c2 : W.cell? ⟨x, 2, none⟩ = some (.pointer (some ⟨q.r, 0, none⟩))
  xd : x ≠ q.d
  xg : x ≠ q.g
  xr : x ≠ q.r

section
variable {A : Nat → Prop} {W W' : World} {x : Nat} {q : Bl} {n : Nat} {D D' : Dev} {B B' : Nat → Buf} {s c s' c' : Sd}
theorem RigP.xlt (h : RigP A W x q n D B s c) : x < W.heap.size := World.block_lt_of_cell? W _ h.c0
theorem RigP.but {K : Nat → Prop} (h : RigP A W x q n D B s c) (hb : But K W W') (hk : ∀ g, K g → A g) (n1 : ¬ K q.d) (n2 : ¬ K q.p) (n3 : ¬ K q.g) (n4 : ¬ K q.r) (n5 : ¬ K x) : RigP A W' x q n D B s c :=
  have key : ∀ j, W'.cell? ⟨x, j, none⟩ = W.cell? ⟨x, j, none⟩ := fun j => hb.cell (p := ⟨x, j, none⟩) h.xlt n5
  ⟨h.p.but hb hk n1 n2 n3 n4, (key 0).trans h.c0, (key 1).trans h.c1, (key 2).trans h.c2, h.xd, h.xg, h.xr⟩
theorem RigP.later (h : RigP A W x q n D B s c) (hb : Below W.heap.size W W') : RigP A W' x q n D B s c := h.but (K := fun _ => False) (But.of_below hb) (fun _ e => e.elim) id id id id id
theorem RigP.al (h : RigP A W x q n D B s c) (o : Obj) : RigP A (W.alloc o) x q n D B s c := h.but (K := fun _ => False) ((But.refl _ _).alloc o) (fun _ e => e.elim) id id id id id
theorem RigP.did (h : RigP A W x q n D B s c) (hb : But (PK q) W W') (hp : Prg A W' q n D' B' s' c') : RigP A W' x q n D' B' s' c' :=
  have n5 : ¬ PK q x := fun e => by rcases e with e | e | e; exact h.xd e; exact h.xg e; exact h.xr e
  have key : ∀ j, W'.cell? ⟨x, j, none⟩ = W.cell? ⟨x, j, none⟩ := fun j => hb.cell (p := ⟨x, j, none⟩) h.xlt n5
  ⟨hp, (key 0).trans h.c0, (key 1).trans h.c1, (key 2).trans h.c2, h.xd, h.xg, h.xr⟩
theorem RigP.avoid {A' : Nat → Prop} (h : RigP A W x q n D B s c) (hk : ∀ g, g < W.heap.size → A' g → A g) (hd : A' q.d) (hg : A' q.g) (hr : A' q.r) : RigP A' W x q n D B s c := ⟨h.p.avoid hk hd hg hr, h.c0, h.c1, h.c2, h.xd, h.xg, h.xr⟩
end

/-- the device of a new ring, its buffers, what lies ready -/
def bg0 (n : Nat) : Fl := bgF n Dev.new none4

/-- what begun answers -/
def Begun (w : World) (n : Nat) (e : Ending) (w' : World) : Prop := ∃ x q, e = .returned (.pointer (some ⟨x, 0, none⟩)) ∧ RigP (fun _ => True) w' x q n (bg0 n).D (bg0 n).B sd0 (bg0 n).c ∧ Below w.heap.size w w' ∧ w.heap.size ≤ x ∧ w.heap.size ≤ q.d ∧ w.heap.size ≤ q.p ∧ w.heap.size ≤ q.g ∧ w.heap.size ≤ q.r

set_option maxRecDepth 100000 in
theorem begun_no (w : World) (many : Int) (h : many < 1 ∨ 60 < many) : Calls Try.prog 8 #[.int .i64 many] w fun e w' => e = .returned (.pointer none) ∧ w' = w := by
  rcases h with h | h
  · go_enter Try.func8, Try.ntmps8
    go_wp2
    go_ret
    exact ⟨rfl, rfl⟩
  · have h1 : ¬ many < 1 := by omega
    go_enter Try.func8, Try.ntmps8
    go_wp2
    go_ret
    exact ⟨rfl, rfl⟩

set_option maxRecDepth 100000 in
set_option maxHeartbeats 2000000 in
theorem begun_yes (w : World) (n : Nat) (h0 : 0 < n) (h1 : n ≤ 60) : Calls Try.prog 8 #[.int .i64 (n : Int)] w (Begun w n) := by
  have X1 := hide (New_yes w n h0 (by omega))
  have z0 : ¬ (n : Int) < 1 := by omega
  have z1 : ¬ (60 : Int) < n := by omega
  go_enter Try.func8, Try.ntmps8
  go_wp2_with fail
  refine X1.out.mono ?_
  rintro _ w1 ⟨p, rfl, hp1, b1, hgp⟩
  have X2 := hide (rNew_yes w1 n h0 (by omega))
  have P1 := hide hp1
  have B1 := hide b1
  have hgP := hide hp1.blt
  clear hp1 b1 X1
  go_wp2_with fail
  refine X2.out.mono ?_
  rintro _ w2 ⟨Q, rfl, hq2, b2, hgq⟩
  have Q2 := hide (hq2 (fun _ => True) trivial)
  have P2 := hide (P1.out.later b2)
  have B2 := hide (B1.out.trans (b2.mono B1.out.size))
  have S1 := hide B1.out.size
  clear hq2 b2 X2 P1
  have X3 := hide (New_any w2)
  go_wp2_with fail
  refine X3.out.mono ?_
  rintro _ w3 ⟨rfl, hd3, b3, s3⟩
  have S3 := hide s3
  clear s3
  have D3 := hide (hd3 (fun _ => True) trivial)
  have P3 := hide (P2.out.later b3)
  have Q3 := hide (Q2.out.later b3)
  have B3 := hide (B2.out.trans (b3.mono B2.out.size))
  have lp2 := P2.out.blt
  have lq2 := Q2.out.blt
  have S2 := hide B2.out.size
  clear hd3 b3 X3 P2 Q2
  have X4 := hide (rNew_any w3)
  go_wp2_with fail
  refine X4.out.mono ?_
  rintro _ w4 ⟨rfl, he4, b4, s4⟩
  have S4 := hide s4
  clear s4
  have E4 := hide (he4 (fun _ => True) trivial)
  have D4 := hide (D3.out.later b4)
  have P4 := hide (P3.out.later b4)
  have Q4 := hide (Q3.out.later b4)
  have B4 := hide (B3.out.trans (b4.mono B3.out.size))
  clear he4 b4 X4 D3 P3 Q3
  go_upto_region 9 with fail
  have s3 := S3.out
  have s4 := S4.out
  have lp1 : p < w1.heap.size := hgP.out
  have s1 := S1.out
  have s2 := S2.out
  have x4 : w4.heap.size = w2.heap.size + 2 := by omega
  obtain ⟨w5, hw5⟩ : ∃ w5, w5 = w4.alloc (.cells #[.pointer (some ⟨w2.heap.size, 0, none⟩), .pointer (some ⟨p, 0, none⟩), .pointer none, .pointer (some ⟨w3.heap.size, 0, none⟩), .pointer (some ⟨Q, 0, none⟩), .pointer none, .slice none 0 0, .slice none 0 0] 45) := ⟨_, rfl⟩
  rw [← hw5]
  have b5 : But (fun _ => False) w4 w5 := by rw [hw5]; exact (But.refl _ _).alloc _
  have c5 : ∀ j v, (#[.pointer (some ⟨w2.heap.size, 0, none⟩), .pointer (some ⟨p, 0, none⟩), .pointer none, .pointer (some ⟨w3.heap.size, 0, none⟩), .pointer (some ⟨Q, 0, none⟩), .pointer none, .slice none 0 0, .slice none 0 0] : Array Value)[j]? = some v → w5.cell? ⟨w4.heap.size, j, none⟩ = some v := fun j v hv => by
    rw [hw5, cell_of_row _ w4.heap.size j _ 45 (0, 0) (heap_alloc_new w4 _)]; exact hv
  have f5 : ∀ j, w5.frozen? ⟨w4.heap.size, j, none⟩ = false := fun j => by rw [hw5]; exact frozen_new _ _ _ _
  have s5 : w5.heap.size = w2.heap.size + 3 := by rw [hw5]; simp; omega
  have k0 := c5 0 _ rfl
  have k1 := c5 1 _ rfl
  have k2 := c5 2 _ rfl
  have k3 := c5 3 _ rfl
  have k5 := c5 5 _ rfl
  clear hw5 c5
  have X5 := hide (ringNew_any (D4.out.but b5 (fun _ e => e.elim) id) (P4.out.but b5 id id) trivial (by omega) (by omega) Dev.Ok.new)
  have E5 := hide (E4.out.but b5 (fun _ e => e.elim) id)
  have Q5 := hide (Q4.out.but b5 id id (fun _ e => e.elim))
  have B5 : Hid (Below w.heap.size w w5) := B4.out.trans (b5.below (by have := B4.out.size; omega) (fun _ _ => id))
  have S5 := hide s5
  clear D4 P4 E4 Q4 B4 b5 s3 s4 x4 s5
  go_wp2_with fail
  refine X5.out.mono ?_
  rintro _ w6 ⟨rfl, p6, b6⟩
  have s3 := S3.out
  have s4 := S4.out
  have s5 := S5.out
  have nx : ∀ j, w6.cell? ⟨w4.heap.size, j, none⟩ = w5.cell? ⟨w4.heap.size, j, none⟩ := fun j => b6.cell (p := ⟨w4.heap.size, j, none⟩) (by show w4.heap.size < w5.heap.size; omega) (by show ¬ (w4.heap.size = w2.heap.size ∨ w4.heap.size = w.heap.size); omega)
  have nf : ∀ j, w6.frozen? ⟨w4.heap.size, j, none⟩ = false := fun j => (b6.frozen (p := ⟨w4.heap.size, j, none⟩) (by show w4.heap.size < w5.heap.size; omega) (by show ¬ (w4.heap.size = w2.heap.size ∨ w4.heap.size = w.heap.size); omega)).trans (f5 j)
  have k26 := (nx 2).trans k2
  have f26 := nf 2
  have b7 : But (Only w4.heap.size) w6 (w6.setCell ⟨w4.heap.size, 2, none⟩ (.pointer (some ⟨w5.heap.size, 0, none⟩))) := (But.refl _ _).cellb _ _
  have b67 : But (fun y => y = w2.heap.size ∨ y = w.heap.size ∨ y = w4.heap.size) w5 (w6.setCell ⟨w4.heap.size, 2, none⟩ (.pointer (some ⟨w5.heap.size, 0, none⟩))) := (b6.mono (fun y e => e.elim .inl (fun e => .inr (.inl e)))).trans (b7.mono (fun y e => .inr (.inr e)))
  have P7 : Hid (Prg (fun _ => True) (w6.setCell ⟨w4.heap.size, 2, none⟩ (.pointer (some ⟨w5.heap.size, 0, none⟩))) ⟨w2.heap.size, p, w.heap.size, w5.heap.size⟩ n (bg0 n).D (bg0 n).B sd0 (bg0 n).c) := ((p6.avoid (A' := fun _ => True) (fun _ _ _ => .inl trivial) trivial trivial trivial).but b7 (fun _ _ => trivial) (fun e => by have e : w2.heap.size = w4.heap.size := e; omega) (fun e => by have e : p = w4.heap.size := e; omega) (fun e => by have e : w.heap.size = w4.heap.size := e; omega) (fun e => by have e : w5.heap.size = w4.heap.size := e; omega))
  have E7 := hide (E5.out.but b67 (fun _ _ => trivial) (by omega))
  have Q7 := hide (Q5.out.but b67 (by omega) (by omega) (fun _ _ => trivial))
  have B7 : Hid (Below w.heap.size w (w6.setCell ⟨w4.heap.size, 2, none⟩ (.pointer (some ⟨w5.heap.size, 0, none⟩)))) := B5.out.trans (b67.below B5.out.size (fun y hy e => by omega))
  have k7 : ∀ j, j ≠ 2 → (w6.setCell ⟨w4.heap.size, 2, none⟩ (.pointer (some ⟨w5.heap.size, 0, none⟩))).cell? ⟨w4.heap.size, j, none⟩ = w5.cell? ⟨w4.heap.size, j, none⟩ := fun j hj => (setCell_out hj).trans (nx j)
  have k70 := (k7 0 (by omega)).trans k0
  have k71 := (k7 1 (by omega)).trans k1
  have k72 : (w6.setCell ⟨w4.heap.size, 2, none⟩ (.pointer (some ⟨w5.heap.size, 0, none⟩))).cell? ⟨w4.heap.size, 2, none⟩ = some (.pointer (some ⟨w5.heap.size, 0, none⟩)) := World.cell?_setCell_same' _ _ _ (by rw [k26]; rfl)
  have k73 := (k7 3 (by omega)).trans k3
  have k75 := (k7 5 (by omega)).trans k5
  have f7 : ∀ j, (w6.setCell ⟨w4.heap.size, 2, none⟩ (.pointer (some ⟨w5.heap.size, 0, none⟩))).frozen? ⟨w4.heap.size, j, none⟩ = false := fun j => (World.frozen?_setCell ..).trans (nf j)
  clear p6 b6 b7 b67 X5 E5 Q5 B5 nx nf k7 k0 k1 k2 k3 k5 f5 s3 s4 s5
  go_upto_region 10 with fail
  have s3 := S3.out
  have s4 := S4.out
  have s5 := S5.out
  clear k26 f26
  generalize w6.setCell ⟨w4.heap.size, 2, none⟩ (.pointer (some ⟨w5.heap.size, 0, none⟩)) = w7 at *
  have X8 := hide (rringNew_any E7.out Q7.out (by omega) (by omega) Dev.Ok.new)
  have lt7 : w4.heap.size < w7.heap.size := World.block_lt_of_cell? w7 _ k70
  clear s3 s4 s5
  go_wp2_with fail
  refine X8.out.mono ?_
  rintro _ w8 ⟨rfl, b8⟩
  have s3 := S3.out
  have s4 := S4.out
  have s5 := S5.out
  have nE : ¬ (w4.heap.size = w3.heap.size ∨ w4.heap.size = w1.heap.size) := by omega
  have n8 : ∀ j, w8.cell? ⟨w4.heap.size, j, none⟩ = w7.cell? ⟨w4.heap.size, j, none⟩ := fun j => b8.cell (p := ⟨w4.heap.size, j, none⟩) lt7 nE
  have k80 := (n8 0).trans k70
  have k81 := (n8 1).trans k71
  have k82 := (n8 2).trans k72
  have k85 := (n8 5).trans k75
  have f85 : w8.frozen? ⟨w4.heap.size, 5, none⟩ = false := (b8.frozen (p := ⟨w4.heap.size, 5, none⟩) lt7 nE).trans (f7 5)
  have P8 := hide (P7.out.but b8 (fun _ _ => trivial) (by show ¬ (w2.heap.size = w3.heap.size ∨ w2.heap.size = w1.heap.size); omega) (by show ¬ (p = w3.heap.size ∨ p = w1.heap.size); omega) (by show ¬ (w.heap.size = w3.heap.size ∨ w.heap.size = w1.heap.size); omega) (by show ¬ (w5.heap.size = w3.heap.size ∨ w5.heap.size = w1.heap.size); omega))
  have B8 := hide (B7.out.trans (b8.below B7.out.size (fun y hy e => by omega)))
  have b9 : But (Only w4.heap.size) w8 (w8.setCell ⟨w4.heap.size, 5, none⟩ (.pointer (some ⟨w7.heap.size, 0, none⟩))) := (But.refl _ _).cellb _ _
  have F9 : Hid (Begun w n (.returned (.pointer (some ⟨w4.heap.size, 0, none⟩))) (w8.setCell ⟨w4.heap.size, 5, none⟩ (.pointer (some ⟨w7.heap.size, 0, none⟩)))) := by
    refine ⟨w4.heap.size, ⟨w2.heap.size, p, w.heap.size, w5.heap.size⟩, rfl, ⟨P8.out.but b9 (fun _ _ => trivial) (fun e => by have e : w2.heap.size = w4.heap.size := e; omega) (fun e => by have e : p = w4.heap.size := e; omega) (fun e => by have e : w.heap.size = w4.heap.size := e; omega) (fun e => by have e : w5.heap.size = w4.heap.size := e; omega), (setCell_out (by omega)).trans k80, (setCell_out (by omega)).trans k81, (setCell_out (by omega)).trans k82, by show w4.heap.size ≠ w2.heap.size; omega, by show w4.heap.size ≠ w.heap.size; omega, by show w4.heap.size ≠ w5.heap.size; omega⟩, B8.out.trans (b9.below B8.out.size (fun y hy e => by have e : y = w4.heap.size := e; omega)), by omega, by show w.heap.size ≤ w2.heap.size; omega, by show w.heap.size ≤ p; omega, by show w.heap.size ≤ w.heap.size; omega, by show w.heap.size ≤ w5.heap.size; omega⟩
  have k92 : (w8.setCell ⟨w4.heap.size, 5, none⟩ (.pointer (some ⟨w7.heap.size, 0, none⟩))).cell? ⟨w4.heap.size, 2, none⟩ = some (.pointer (some ⟨w5.heap.size, 0, none⟩)) := (setCell_out (by omega)).trans k82
  clear b8 b9 P8 B8 P7 B7 E7 Q7 X8 n8 k80 k81 k70 k71 k72 k73 k75 f7 s3 s4 s5
  go_wp2
  go_ret
  exact F9.out
end Go.Proofs.Ytjkfjijnjkpbbaa
