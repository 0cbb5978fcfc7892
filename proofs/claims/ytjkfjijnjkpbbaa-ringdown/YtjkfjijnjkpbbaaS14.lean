
/-
  Both rings in one memory. begun: both halves of a rig. What the rig keeps: a row of it is laid anew; both Polls. polls: a Poll of both. takes: a buffer is taken by both.
-/
import Derived.Test.YtjkfjijnjkpbbaaS9
import Derived.Test.YtjkfjijnjkpbbaaJ2
namespace Go.Proofs.Ytjkfjijnjkpbbaa
open Go.RowKit

/-- the program's ring (blocks q) and the document's (blocks k), their rig x, and what was taken (Mn) and came (Cm) -/
structure Two (ρ : Nat → Nat) (W : World) (x : Nat) (q k : Bl) (n : Nat) (X Y : Rg) (tv cv ov mv : Value) (Cm Mn : List Int) : Prop where
  p : RigP (fun g => ρ g ≠ 0) W x q n X.D X.B X.s X.c
  r : RS ρ W k n Y tv cv
  c3 : W.cell? ⟨x, 3, none⟩ = some (.pointer (some ⟨k.d, 0, none⟩))
  c4 : W.cell? ⟨x, 4, none⟩ = some (.pointer (some ⟨k.p, 0, none⟩))
  c5 : W.cell? ⟨x, 5, none⟩ = some (.pointer (some ⟨k.r, 0, none⟩))
  c6 : W.cell? ⟨x, 6, none⟩ = some ov
  c7 : W.cell? ⟨x, 7, none⟩ = some mv
  fz : ∀ j, W.frozen? ⟨x, j, none⟩ = false
  rc : RowN (fun g => ρ g = 11) W ov Cm
  rm : RowN (fun g => ρ g = 12) W mv Mn
  q1 : ρ q.d = 1
  q2 : ρ q.p = 2
  q3 : ρ q.g = 3
  q4 : ρ q.r = 4
  xx : ρ x = 13

section
variable {ρ ρ' : Nat → Nat} {W W' : World} {x : Nat} {q k : Bl} {n : Nat} {X X' Y Y' : Rg} {tv cv ov mv tv' cv' : Value} {Cm Mn : List Int}
theorem Two.lt (h : Two ρ W x q k n X Y tv cv ov mv Cm Mn) : ∀ g, ρ g ≠ 0 → g < W.heap.size := RQ.lt h.r
theorem RigP.grow {K : Nat → Prop} {D : Dev} {B : Nat → Buf} {s c : Sd} (h : RigP (fun g => ρ g ≠ 0) W x q n D B s c) (lt : ∀ g, ρ g ≠ 0 → g < W.heap.size) (hb : But K W W') (hk : ∀ g, K g → ρ g ≠ 0 ∧ g ≠ q.d ∧ g ≠ q.p ∧ g ≠ q.g ∧ g ≠ q.r ∧ g ≠ x) (old : ∀ g, g < W.heap.size → ρ' g = ρ g) : RigP (fun g => ρ' g ≠ 0) W' x q n D B s c := by
  have up : ∀ g, ρ g ≠ 0 → ρ' g ≠ 0 := fun g e => by rw [old g (lt g e)]; exact e
  exact (h.avoid (A' := fun g => ρ' g ≠ 0) (fun g hg e => by rw [old g hg] at e; exact e) (up _ h.p.dev.mem) (up _ h.p.ag) (up _ h.p.ar)).but hb (fun g e => up g (hk g e).1) (fun e => (hk _ e).2.1 rfl) (fun e => (hk _ e).2.2.1 rfl) (fun e => (hk _ e).2.2.2.1 rfl) (fun e => (hk _ e).2.2.2.2.1 rfl) (fun e => (hk _ e).2.2.2.2.2 rfl)
/-- blocks that are neither ring's have turned, new ones have roles -/
theorem Two.grow {K : Nat → Prop} (h : Two ρ W x q k n X Y tv cv ov mv Cm Mn) (hb : But K W W') (hk : ∀ g, K g → 14 ≤ ρ g) (old : ∀ g, g < W.heap.size → ρ' g = ρ g) (lt' : ∀ g, ρ' g ≠ 0 → g < W'.heap.size) : Two ρ' W' x q k n X Y tv cv ov mv Cm Mn := by
  have xl := h.p.xlt
  have nx : ¬ K x := fun e => by have := hk x e; have := h.xx; omega
  have key : ∀ j v, W.cell? ⟨x, j, none⟩ = some v → W'.cell? ⟨x, j, none⟩ = some v := fun j v hv => (hb.cell (p := ⟨x, j, none⟩) xl nx).trans hv
  have o : ∀ g, ρ g ≠ 0 → ρ' g = ρ g := fun g e => old g (h.lt g e)
  exact ⟨h.p.grow h.lt hb (fun g e => by
      have h14 := hk g e
      refine ⟨by omega, fun e2 => ?_, fun e2 => ?_, fun e2 => ?_, fun e2 => ?_, fun e2 => ?_⟩
      · rw [e2, h.q1] at h14; omega
      · rw [e2, h.q2] at h14; omega
      · rw [e2, h.q3] at h14; omega
      · rw [e2, h.q4] at h14; omega
      · rw [e2, h.xx] at h14; omega) old, RQ.grow h.r hb (fun g e => by have := hk g e; omega) old lt', key 3 _ h.c3, key 4 _ h.c4, key 5 _ h.c5, key 6 _ h.c6, key 7 _ h.c7, fun j => (hb.frozen (p := ⟨x, j, none⟩) xl nx).trans (h.fz j),
    (h.rc.own (O' := fun g => ρ' g = 11) (fun g hg e => (old g hg).trans e)).but hb (fun g e e2 => by have h2 := hk g e2; have e : ρ' g = 11 := e; rw [o g (by omega)] at e; omega),
    (h.rm.own (O' := fun g => ρ' g = 12) (fun g hg e => (old g hg).trans e)).but hb (fun g e e2 => by have h2 := hk g e2; have e : ρ' g = 12 := e; rw [o g (by omega)] at e; omega),
    by rw [o _ (by have := h.q1; omega)]; exact h.q1, by rw [o _ (by have := h.q2; omega)]; exact h.q2, by rw [o _ (by have := h.q3; omega)]; exact h.q3, by rw [o _ (by have := h.q4; omega)]; exact h.q4, by rw [o _ (by have := h.xx; omega)]; exact h.xx⟩
theorem Two.later (h : Two ρ W x q k n X Y tv cv ov mv Cm Mn) (hb : Below W.heap.size W W') : Two ρ W' x q k n X Y tv cv ov mv Cm Mn :=
  h.grow (K := fun _ => False) (But.of_below hb) (fun _ e => e.elim) (fun _ _ => rfl) (fun g e => Nat.lt_of_lt_of_le (h.lt g e) hb.size)
theorem Two.pk (h : Two ρ W x q k n X Y tv cv ov mv Cm Mn) : ∀ g, PK q g → ρ g = 1 ∨ ρ g = 3 ∨ ρ g = 4 := fun g e => by
  rcases e with e | e | e
  · rw [e]; exact .inl h.q1
  · rw [e]; exact .inr (.inl h.q3)
  · rw [e]; exact .inr (.inr h.q4)
/-- the program's ring has turned -/
theorem Two.prog (h : Two ρ W x q k n X Y tv cv ov mv Cm Mn) (hb : But (PK q) W W') (hp : Prg (fun g => ρ g ≠ 0) W' q n X'.D X'.B X'.s X'.c) : Two ρ W' x q k n X' Y tv cv ov mv Cm Mn := by
  have xl := h.p.xlt
  have nx : ¬ PK q x := fun e => by have := h.pk x e; have := h.xx; omega
  have key : ∀ j v, W.cell? ⟨x, j, none⟩ = some v → W'.cell? ⟨x, j, none⟩ = some v := fun j v hv => (hb.cell (p := ⟨x, j, none⟩) xl nx).trans hv
  exact ⟨h.p.did hb hp, RQ.but h.r hb (fun g e => by have := h.pk g e; omega), key 3 _ h.c3, key 4 _ h.c4, key 5 _ h.c5, key 6 _ h.c6, key 7 _ h.c7, fun j => (hb.frozen (p := ⟨x, j, none⟩) xl nx).trans (h.fz j), h.rc.but hb (fun g e e2 => by have := h.pk g e2; omega), h.rm.but hb (fun g e e2 => by have := h.pk g e2; omega), h.q1, h.q2, h.q3, h.q4, h.xx⟩
/-- the document's ring has turned -/
theorem Two.ref (h : Two ρ W x q k n X Y tv cv ov mv Cm Mn) (hn : Nx ρ W ρ' W') (hr : RS ρ' W' k n Y' tv' cv') : Two ρ' W' x q k n X Y' tv' cv' ov mv Cm Mn := by
  have xl := h.p.xlt
  have nx : ¬ (5 ≤ ρ x ∧ ρ x ≤ 10) := by have := h.xx; omega
  have key : ∀ j v, W.cell? ⟨x, j, none⟩ = some v → W'.cell? ⟨x, j, none⟩ = some v := fun j v hv => (hn.but.cell (p := ⟨x, j, none⟩) xl nx).trans hv
  have o : ∀ g, ρ g ≠ 0 → ρ' g = ρ g := fun g e => hn.old g (h.lt g e)
  exact ⟨h.p.grow h.lt hn.but (fun g e => by
      refine ⟨by omega, fun e2 => ?_, fun e2 => ?_, fun e2 => ?_, fun e2 => ?_, fun e2 => ?_⟩
      · rw [e2, h.q1] at e; omega
      · rw [e2, h.q2] at e; omega
      · rw [e2, h.q3] at e; omega
      · rw [e2, h.q4] at e; omega
      · rw [e2, h.xx] at e; omega) hn.old, hr, key 3 _ h.c3, key 4 _ h.c4, key 5 _ h.c5, key 6 _ h.c6, key 7 _ h.c7, fun j => (hn.but.frozen (p := ⟨x, j, none⟩) xl nx).trans (h.fz j),
    (h.rc.own (O' := fun g => ρ' g = 11) (fun g hg e => (hn.old g hg).trans e)).but hn.but (fun g e e2 => by have e : ρ' g = 11 := e; rw [o g (by omega)] at e; omega),
    (h.rm.own (O' := fun g => ρ' g = 12) (fun g hg e => (hn.old g hg).trans e)).but hn.but (fun g e e2 => by have e : ρ' g = 12 := e; rw [o g (by omega)] at e; omega),
    by rw [o _ (by have := h.q1; omega)]; exact h.q1, by rw [o _ (by have := h.q2; omega)]; exact h.q2, by rw [o _ (by have := h.q3; omega)]; exact h.q3, by rw [o _ (by have := h.q4; omega)]; exact h.q4, by rw [o _ (by have := h.xx; omega)]; exact h.xx⟩
end

/-- what a call leaves of the whole: whatever has turned is of a block with a role, or new -/
structure Mv (ρ : Nat → Nat) (w : World) (ρ' : Nat → Nat) (w' : World) : Prop where
  but : But (fun g => ρ g ≠ 0) w w'
  old : ∀ g, g < w.heap.size → ρ' g = ρ g
  lt : ∀ g, ρ' g ≠ 0 → g < w'.heap.size
theorem Mv.refl {ρ : Nat → Nat} {w : World} (h : ∀ g, ρ g ≠ 0 → g < w.heap.size) : Mv ρ w ρ w := ⟨But.refl _ _, fun _ _ => rfl, h⟩
theorem Mv.trans {ρ ρ' ρ'' : Nat → Nat} {w w' w'' : World} (h : Mv ρ w ρ' w') (h' : Mv ρ' w' ρ'' w'') : Mv ρ w ρ'' w'' :=
  ⟨h.but.trans' h'.but (fun g hg e => by have := h.old g hg; rw [this] at e; exact e), fun g hg => (h'.old g (Nat.lt_of_lt_of_le hg h.but.size)).trans (h.old g hg), h'.lt⟩
theorem Mv.below {ρ : Nat → Nat} {w w' : World} (lt : ∀ g, ρ g ≠ 0 → g < w.heap.size) (hb : Below w.heap.size w w') : Mv ρ w ρ w' := ⟨But.of_below hb, fun _ _ => rfl, fun g e => Nat.lt_of_lt_of_le (lt g e) hb.size⟩
theorem Mv.of {ρ : Nat → Nat} {w w' : World} {K : Nat → Prop} (lt : ∀ g, ρ g ≠ 0 → g < w.heap.size) (hb : But K w w') (hk : ∀ g, K g → ρ g ≠ 0) : Mv ρ w ρ w' := ⟨hb.mono hk, fun _ _ => rfl, fun g e => Nat.lt_of_lt_of_le (lt g e) hb.size⟩
theorem Mv.nx {ρ ρ' : Nat → Nat} {w w' : World} (h : Nx ρ w ρ' w') (lt : ∀ g, ρ' g ≠ 0 → g < w'.heap.size) : Mv ρ w ρ' w' := ⟨h.but.mono (fun g e => by omega), h.old, lt⟩
/-- what lies below the roles stays -/
theorem Mv.low {ρ ρ' : Nat → Nat} {w w' : World} (h : Mv ρ w ρ' w') {N : Nat} (hN : N ≤ w.heap.size) (hr : ∀ g, ρ g ≠ 0 → N ≤ g) : Below N w w' ∧ ∀ g, ρ' g ≠ 0 → N ≤ g :=
  ⟨h.but.below hN (fun g hg e => by have := hr g e; omega), fun g e => by
    rcases Nat.lt_or_ge g w.heap.size with h1 | h1
    · rw [h.old g h1] at e; exact hr g e
    · omega⟩

set_option maxRecDepth 100000 in
set_option maxHeartbeats 1000000 in
theorem rringNew2 {ρ : Nat → Nat} {w : World} {k : Bl} {n : Nat} {D : Dev} {B : Nat → Buf} (hd : DevAt LR (fun g => ρ g ≠ 0) w k.d D) (hp : RPool (fun g => ρ g ≠ 0) w k.p k.g n B) (hr : k.r = w.heap.size) (d5 : ρ k.d = 5) (p6 : ρ k.p = 6) (g7 : ρ k.g = 7) (lt : ∀ g, ρ g ≠ 0 → g < w.heap.size) (ok : D.Ok) :
    Calls Try.prog 33 #[.pointer (some ⟨k.d, 0, none⟩), .pointer (some ⟨k.p, 0, none⟩)] w fun e w' => e = .returned (.pointer (some ⟨w.heap.size, 0, none⟩)) ∧ But (fun g => 5 ≤ ρ g ∧ ρ g ≤ 10) w w' ∧ ∃ ρ' tv cv, RQ ρ' w' k n (bgF n D B).D (bgF n D B).B tv cv 0 (bgF n D B).c.nx [] (bgF n D B).c.ids ∧ (∀ g, g < w.heap.size → ρ' g = ρ g) := by
  have bA : But (fun _ => False) w (w.alloc (.cells #[.pointer (some ⟨k.d, 0, none⟩), .pointer (some ⟨k.p, 0, none⟩), .slice none 0 0, .slice none 0 0, .int .i64 0, .int .i64 0] 87)) := (But.refl _ _).alloc _
  have cz : ∀ j v, (#[.pointer (some ⟨k.d, 0, none⟩), .pointer (some ⟨k.p, 0, none⟩), .slice none 0 0, .slice none 0 0, .int .i64 0, .int .i64 0] : Array Value)[j]? = some v → (w.alloc (.cells #[.pointer (some ⟨k.d, 0, none⟩), .pointer (some ⟨k.p, 0, none⟩), .slice none 0 0, .slice none 0 0, .int .i64 0, .int .i64 0] 87)).cell? ⟨k.r, j, none⟩ = some v := fun j v hv => by
    rw [hr, cell_of_row _ w.heap.size j _ 87 (0, 0) (heap_alloc_new w _)]; exact hv
  have hdl := hd.lt
  have hpl := hp.blt
  have hgl := hp.glt
  obtain ⟨ρ1, hρ⟩ : ∃ ρ1 : Nat → Nat, ρ1 = fun g => if g = w.heap.size then 8 else ρ g := ⟨_, rfl⟩
  have old : ∀ g, g < w.heap.size → ρ1 g = ρ g := fun g hg => by rw [hρ]; exact if_neg (by omega)
  have r8 : ρ1 w.heap.size = 8 := by rw [hρ]; exact if_pos rfl
  have lt1 : ∀ g, ρ1 g ≠ 0 → g < w.heap.size + 1 := fun g e => by
    rcases Nat.lt_or_ge g (w.heap.size + 1) with h1 | h1
    · exact h1
    · have e2 : ρ1 g = ρ g := by rw [hρ]; exact if_neg (by omega)
      rw [e2] at e
      have := lt g e
      omega
  have key : ∀ g, g < w.heap.size → ρ1 g ≠ 0 → ρ g ≠ 0 := fun g hg e => by rw [old g hg] at e; exact e
  have P0 : RQ ρ1 (w.alloc (.cells #[.pointer (some ⟨k.d, 0, none⟩), .pointer (some ⟨k.p, 0, none⟩), .slice none 0 0, .slice none 0 0, .int .i64 0, .int .i64 0] 87)) k n D B (.slice none 0 0) (.slice none 0 0) 0 0 [] [] :=
    ⟨⟨(hd.avoid key (by show ρ1 k.d ≠ 0; rw [old _ hdl, d5]; omega)).but bA (fun _ e => e.elim) id, ok, (hp.avoid key (by show ρ1 k.g ≠ 0; rw [old _ hgl, g7]; omega)).but bA id id (fun _ e => e.elim), cz 0 _ rfl, cz 1 _ rfl, cz 2 _ rfl, cz 3 _ rfl, cz 4 _ rfl, cz 5 _ rfl, fun j => by rw [hr]; exact frozen_new _ _ _ _, by show ρ1 k.r ≠ 0; rw [hr, r8]; omega, fun e => by rw [e, p6] at d5; omega, fun e => by rw [e, g7] at d5; omega, by omega, by omega, by omega⟩,
      RowN.nil _ _, RowN.nil _ _, (old _ hdl).trans d5, (old _ hpl).trans p6, (old _ hgl).trans g7, by rw [hr]; exact r8, fun g e => by simp; exact lt1 g e⟩
  have X := hide (rbegin_any P0)
  have B0 := hide bA
  have OLD := hide old
  have HRR := hide hr
  rw [hr] at X
  clear bA cz P0 hd hp ok hρ lt lt1 key d5 p6 g7 old hr
  go_enter Try.func33, Try.ntmps33
  go_wp2_with fail
  refine X.out.mono ?_
  rintro _ w5 ⟨rfl, ρ5, tv5, cv5, q5, n5⟩
  have B5 : Hid (But (fun g => 5 ≤ ρ g ∧ ρ g ≤ 10) w w5) := (B0.out.mono (fun _ e => e.elim)).trans' n5.but (fun g hg e => by rw [OLD.out g hg] at e; exact e)
  have Q5 : Hid (∃ ρ' tv cv, RQ ρ' w5 k n (bgF n D B).D (bgF n D B).B tv cv 0 (bgF n D B).c.nx [] (bgF n D B).c.ids ∧ (∀ g, g < w.heap.size → ρ' g = ρ g)) := ⟨ρ5, tv5, cv5, q5, fun g hg => (n5.old g (by simp; omega)).trans (OLD.out g hg)⟩
  clear q5 n5 X B0
  go_wp2
  go_ret
  exact ⟨rfl, B5.out, Q5.out⟩

/-- a new ring -/
def rg0 (n : Nat) : Rg := ⟨(bg0 n).D, (bg0 n).B, sd0, (bg0 n).c⟩

/-- what begun answers -/
def Begun2 (w : World) (n : Nat) (e : Ending) (w' : World) : Prop := ∃ x q k ρ tv cv, e = .returned (.pointer (some ⟨x, 0, none⟩)) ∧ Two ρ w' x q k n (rg0 n) (rg0 n) tv cv (.slice none 0 0) (.slice none 0 0) [] [] ∧ Below w.heap.size w w' ∧ ∀ g, ρ g ≠ 0 → w.heap.size ≤ g

set_option maxRecDepth 100000 in
set_option maxHeartbeats 2000000 in
theorem begun2_yes (w : World) (n : Nat) (h0 : 0 < n) (h1 : n ≤ 60) : Calls Try.prog 8 #[.int .i64 (n : Int)] w (Begun2 w n) := by
  have X1 := hide (New_yes w n h0 (by omega))
  have z0 : ¬ (n : Int) < 1 := by omega
  have z1 : ¬ (60 : Int) < n := by omega
  go_enter Try.func8, Try.ntmps8
  go_wp2_with fail
  refine X1.out.mono ?_
  rintro _ w1 ⟨p, rfl, hp1, b1, hgp⟩
  have X2 := hide (rNew_yes w1 n h0 (by omega))
  have P1 := hide hp1
  have B1 := hide b1
  have hgP := hide hp1.blt
  clear hp1 b1 X1
  go_wp2_with fail
  refine X2.out.mono ?_
  rintro _ w2 ⟨Q, rfl, hq2, b2, hgq⟩
  have Q2 := hide (hq2 (fun _ => True) trivial)
  have P2 := hide (P1.out.later b2)
  have B2 := hide (B1.out.trans (b2.mono B1.out.size))
  have S1 := hide B1.out.size
  clear hq2 b2 X2 P1
  have X3 := hide (New_any w2)
  go_wp2_with fail
  refine X3.out.mono ?_
  rintro _ w3 ⟨rfl, hd3, b3, s3⟩
  have S3 := hide s3
  clear s3
  have D3 := hide (hd3 (fun _ => True) trivial)
  have P3 := hide (P2.out.later b3)
  have Q3 := hide (Q2.out.later b3)
  have B3 := hide (B2.out.trans (b3.mono B2.out.size))
  have lp2 := P2.out.blt
  have lq2 := Q2.out.blt
  have S2 := hide B2.out.size
  clear hd3 b3 X3 P2 Q2
  have X4 := hide (rNew_any w3)
  go_wp2_with fail
  refine X4.out.mono ?_
  rintro _ w4 ⟨rfl, he4, b4, s4⟩
  have S4 := hide s4
  clear s4
  have E4 := hide (he4 (fun _ => True) trivial)
  have D4 := hide (D3.out.later b4)
  have P4 := hide (P3.out.later b4)
  have Q4 := hide (Q3.out.later b4)
  have B4 := hide (B3.out.trans (b4.mono B3.out.size))
  clear he4 b4 X4 D3 P3 Q3
  go_upto_region 9 with fail
  have s3 := S3.out
  have s4 := S4.out
  have lp1 : p < w1.heap.size := hgP.out
  have s1 := S1.out
  have s2 := S2.out
  have x4 : w4.heap.size = w2.heap.size + 2 := by omega
  obtain ⟨w5, hw5⟩ : ∃ w5, w5 = w4.alloc (.cells #[.pointer (some ⟨w2.heap.size, 0, none⟩), .pointer (some ⟨p, 0, none⟩), .pointer none, .pointer (some ⟨w3.heap.size, 0, none⟩), .pointer (some ⟨Q, 0, none⟩), .pointer none, .slice none 0 0, .slice none 0 0] 45) := ⟨_, rfl⟩
  rw [← hw5]
  have b5 : But (fun _ => False) w4 w5 := by rw [hw5]; exact (But.refl _ _).alloc _
  have c5 : ∀ j v, (#[.pointer (some ⟨w2.heap.size, 0, none⟩), .pointer (some ⟨p, 0, none⟩), .pointer none, .pointer (some ⟨w3.heap.size, 0, none⟩), .pointer (some ⟨Q, 0, none⟩), .pointer none, .slice none 0 0, .slice none 0 0] : Array Value)[j]? = some v → w5.cell? ⟨w4.heap.size, j, none⟩ = some v := fun j v hv => by
    rw [hw5, cell_of_row _ w4.heap.size j _ 45 (0, 0) (heap_alloc_new w4 _)]; exact hv
  have f5 : ∀ j, w5.frozen? ⟨w4.heap.size, j, none⟩ = false := fun j => by rw [hw5]; exact frozen_new _ _ _ _
  have s5 : w5.heap.size = w2.heap.size + 3 := by rw [hw5]; simp; omega
  have k0 := c5 0 _ rfl
  have k1 := c5 1 _ rfl
  have k2 := c5 2 _ rfl
  have k3 := c5 3 _ rfl
  have k4 := c5 4 _ rfl
  have k6 := c5 6 _ rfl
  have kc := c5 7 _ rfl
  have k5 := c5 5 _ rfl
  clear hw5 c5
  have X5 := hide (ringNew_any (D4.out.but b5 (fun _ e => e.elim) id) (P4.out.but b5 id id) trivial (by omega) (by omega) Dev.Ok.new)
  have E5 := hide (E4.out.but b5 (fun _ e => e.elim) id)
  have Q5 := hide (Q4.out.but b5 id id (fun _ e => e.elim))
  have B5 : Hid (Below w.heap.size w w5) := B4.out.trans (b5.below (by have := B4.out.size; omega) (fun _ _ => id))
  have S5 := hide s5
  clear D4 P4 E4 Q4 B4 b5 s3 s4 x4 s5
  go_wp2_with fail
  refine X5.out.mono ?_
  rintro _ w6 ⟨rfl, p6, b6⟩
  have s3 := S3.out
  have s4 := S4.out
  have s5 := S5.out
  have nx : ∀ j, w6.cell? ⟨w4.heap.size, j, none⟩ = w5.cell? ⟨w4.heap.size, j, none⟩ := fun j => b6.cell (p := ⟨w4.heap.size, j, none⟩) (by show w4.heap.size < w5.heap.size; omega) (by show ¬ (w4.heap.size = w2.heap.size ∨ w4.heap.size = w.heap.size); omega)
  have nf : ∀ j, w6.frozen? ⟨w4.heap.size, j, none⟩ = false := fun j => (b6.frozen (p := ⟨w4.heap.size, j, none⟩) (by show w4.heap.size < w5.heap.size; omega) (by show ¬ (w4.heap.size = w2.heap.size ∨ w4.heap.size = w.heap.size); omega)).trans (f5 j)
  have k26 := (nx 2).trans k2
  have f26 := nf 2
  have b7 : But (Only w4.heap.size) w6 (w6.setCell ⟨w4.heap.size, 2, none⟩ (.pointer (some ⟨w5.heap.size, 0, none⟩))) := (But.refl _ _).cellb _ _
  have b67 : But (fun y => y = w2.heap.size ∨ y = w.heap.size ∨ y = w4.heap.size) w5 (w6.setCell ⟨w4.heap.size, 2, none⟩ (.pointer (some ⟨w5.heap.size, 0, none⟩))) := (b6.mono (fun y e => e.elim .inl (fun e => .inr (.inl e)))).trans (b7.mono (fun y e => .inr (.inr e)))
  have P7 : Hid (Prg (fun _ => True) (w6.setCell ⟨w4.heap.size, 2, none⟩ (.pointer (some ⟨w5.heap.size, 0, none⟩))) ⟨w2.heap.size, p, w.heap.size, w5.heap.size⟩ n (bg0 n).D (bg0 n).B sd0 (bg0 n).c) := ((p6.avoid (A' := fun _ => True) (fun _ _ _ => .inl trivial) trivial trivial trivial).but b7 (fun _ _ => trivial) (fun e => by have e : w2.heap.size = w4.heap.size := e; omega) (fun e => by have e : p = w4.heap.size := e; omega) (fun e => by have e : w.heap.size = w4.heap.size := e; omega) (fun e => by have e : w5.heap.size = w4.heap.size := e; omega))
  have E7 := hide (E5.out.but b67 (fun _ _ => trivial) (by omega))
  have Q7 := hide (Q5.out.but b67 (by omega) (by omega) (fun _ _ => trivial))
  have B7 : Hid (Below w.heap.size w (w6.setCell ⟨w4.heap.size, 2, none⟩ (.pointer (some ⟨w5.heap.size, 0, none⟩)))) := B5.out.trans (b67.below B5.out.size (fun y hy e => by omega))
  have k7 : ∀ j, j ≠ 2 → (w6.setCell ⟨w4.heap.size, 2, none⟩ (.pointer (some ⟨w5.heap.size, 0, none⟩))).cell? ⟨w4.heap.size, j, none⟩ = w5.cell? ⟨w4.heap.size, j, none⟩ := fun j hj => (setCell_out hj).trans (nx j)
  have k70 := (k7 0 (by omega)).trans k0
  have k71 := (k7 1 (by omega)).trans k1
  have k72 : (w6.setCell ⟨w4.heap.size, 2, none⟩ (.pointer (some ⟨w5.heap.size, 0, none⟩))).cell? ⟨w4.heap.size, 2, none⟩ = some (.pointer (some ⟨w5.heap.size, 0, none⟩)) := World.cell?_setCell_same' _ _ _ (by rw [k26]; rfl)
  have k73 := (k7 3 (by omega)).trans k3
  have k74 := (k7 4 (by omega)).trans k4
  have k76 := (k7 6 (by omega)).trans k6
  have k77 := (k7 7 (by omega)).trans kc
  have k75 := (k7 5 (by omega)).trans k5
  have f7 : ∀ j, (w6.setCell ⟨w4.heap.size, 2, none⟩ (.pointer (some ⟨w5.heap.size, 0, none⟩))).frozen? ⟨w4.heap.size, j, none⟩ = false := fun j => (World.frozen?_setCell ..).trans (nf j)
  clear p6 b6 b7 b67 X5 E5 Q5 B5 nx nf k7 k0 k1 k2 k3 k4 k6 kc k5 f5 s3 s4 s5
  go_upto_region 10 with fail
  have s3 := S3.out
  have s4 := S4.out
  have s5 := S5.out
  clear k26 f26
  generalize w6.setCell ⟨w4.heap.size, 2, none⟩ (.pointer (some ⟨w5.heap.size, 0, none⟩)) = w7 at *
  have lt7 : w4.heap.size < w7.heap.size := World.block_lt_of_cell? w7 _ k70
  obtain ⟨ρ0, hρ⟩ : ∃ ρ0 : Nat → Nat, ρ0 = fun g => if g = w2.heap.size then 1 else if g = p then 2 else if g = w.heap.size then 3 else if g = w5.heap.size then 4 else if g = w3.heap.size then 5 else if g = Q then 6 else if g = w1.heap.size then 7 else if g = w4.heap.size then 13 else 0 := ⟨_, rfl⟩
  have lq : Q < w2.heap.size := lq2
  have r1 : ρ0 w2.heap.size = 1 := by rw [hρ]; simp
  have r2 : ρ0 p = 2 := by rw [hρ]; show (if p = _ then 1 else _) = 2; rw [if_neg (by omega), if_pos rfl]
  have r3 : ρ0 w.heap.size = 3 := by rw [hρ]; show (if _ = _ then 1 else _) = 3; rw [if_neg (by omega), if_neg (by omega), if_pos rfl]
  have r4 : ρ0 w5.heap.size = 4 := by rw [hρ]; show (if _ = _ then 1 else _) = 4; rw [if_neg (by omega), if_neg (by omega), if_neg (by omega), if_pos rfl]
  have r5 : ρ0 w3.heap.size = 5 := by rw [hρ]; show (if _ = _ then 1 else _) = 5; rw [if_neg (by omega), if_neg (by omega), if_neg (by omega), if_neg (by omega), if_pos rfl]
  have r6 : ρ0 Q = 6 := by rw [hρ]; show (if _ = _ then 1 else _) = 6; rw [if_neg (by omega), if_neg (by omega), if_neg (by omega), if_neg (by omega), if_neg (by omega), if_pos rfl]
  have r7 : ρ0 w1.heap.size = 7 := by rw [hρ]; show (if _ = _ then 1 else _) = 7; rw [if_neg (by omega), if_neg (by omega), if_neg (by omega), if_neg (by omega), if_neg (by omega), if_neg (by omega), if_pos rfl]
  have r13 : ρ0 w4.heap.size = 13 := by rw [hρ]; show (if _ = _ then 1 else _) = 13; rw [if_neg (by omega), if_neg (by omega), if_neg (by omega), if_neg (by omega), if_neg (by omega), if_neg (by omega), if_neg (by omega), if_pos rfl]
  have w57 : w5.heap.size < w7.heap.size := P7.out.rlt
  have rall : ∀ g, ρ0 g ≠ 0 → g < w7.heap.size ∧ w.heap.size ≤ g := fun g e => by
    rw [hρ] at e
    by_cases a1 : g = w2.heap.size
    · omega
    by_cases a2 : g = p
    · omega
    by_cases a3 : g = w.heap.size
    · omega
    by_cases a4 : g = w5.heap.size
    · omega
    by_cases a5 : g = w3.heap.size
    · omega
    by_cases a6 : g = Q
    · omega
    by_cases a7 : g = w1.heap.size
    · omega
    by_cases a8 : g = w4.heap.size
    · omega
    · simp [a1, a2, a3, a4, a5, a6, a7, a8] at e
  have X8 := hide (rringNew2 (ρ := ρ0) (k := ⟨w3.heap.size, Q, w1.heap.size, w7.heap.size⟩) (E7.out.avoid (fun _ _ _ => trivial) (by show ρ0 w3.heap.size ≠ 0; omega)) (Q7.out.avoid (fun _ _ _ => trivial) (by show ρ0 w1.heap.size ≠ 0; omega)) rfl r5 r6 r7 (fun g e => (rall g e).1) Dev.Ok.new)
  have P7' : Hid (RigP (fun g => ρ0 g ≠ 0) w7 w4.heap.size ⟨w2.heap.size, p, w.heap.size, w5.heap.size⟩ n (bg0 n).D (bg0 n).B sd0 (bg0 n).c) := ⟨P7.out.avoid (fun _ _ _ => trivial) (by show ρ0 w2.heap.size ≠ 0; omega) (by show ρ0 w.heap.size ≠ 0; omega) (by show ρ0 w5.heap.size ≠ 0; omega), k70, k71, k72, by show w4.heap.size ≠ w2.heap.size; omega, by show w4.heap.size ≠ w.heap.size; omega, by show w4.heap.size ≠ w5.heap.size; omega⟩
  have RALL := hide rall
  have RR := hide (And.intro r1 (And.intro r2 (And.intro r3 (And.intro r4 r13))))
  clear s3 s4 s5 hρ r1 r2 r3 r4 r5 r6 r7 rall E7 Q7 P7
  go_wp2_with fail
  refine X8.out.mono ?_
  rintro _ w8 ⟨rfl, b8, ρ8, tv8, cv8, q8, old8⟩
  obtain ⟨r1, r2, r3, r4, r13⟩ := RR.out
  have s3 := S3.out
  have s4 := S4.out
  have s5 := S5.out
  have nE : ¬ (5 ≤ ρ0 w4.heap.size ∧ ρ0 w4.heap.size ≤ 10) := by omega
  have n8 : ∀ j, w8.cell? ⟨w4.heap.size, j, none⟩ = w7.cell? ⟨w4.heap.size, j, none⟩ := fun j => b8.cell (p := ⟨w4.heap.size, j, none⟩) lt7 nE
  have k82 := (n8 2).trans k72
  have k83 := (n8 3).trans k73
  have k84 := (n8 4).trans k74
  have k85 := (n8 5).trans k75
  have k86 := (n8 6).trans k76
  have k87 := (n8 7).trans k77
  have f8 : ∀ j, w8.frozen? ⟨w4.heap.size, j, none⟩ = false := fun j => (b8.frozen (p := ⟨w4.heap.size, j, none⟩) lt7 nE).trans (f7 j)
  have f85 := f8 5
  have B8 := hide (B7.out.trans (b8.below B7.out.size (fun y hy e => by have := (RALL.out y (by omega)).2; omega)))
  have b9 : But (Only w4.heap.size) w8 (w8.setCell ⟨w4.heap.size, 5, none⟩ (.pointer (some ⟨w7.heap.size, 0, none⟩))) := (But.refl _ _).cellb _ _
  have P8 := P7'.out.grow (ρ' := ρ8) (fun g e => (RALL.out g e).1) b8 (fun g e => by
      refine ⟨by omega, fun e2 => ?_, fun e2 => ?_, fun e2 => ?_, fun e2 => ?_, fun e2 => ?_⟩
      · have e2 : g = w2.heap.size := e2
        rw [e2, r1] at e; omega
      · have e2 : g = p := e2
        rw [e2, r2] at e; omega
      · have e2 : g = w.heap.size := e2
        rw [e2, r3] at e; omega
      · have e2 : g = w5.heap.size := e2
        rw [e2, r4] at e; omega
      · rw [e2, r13] at e; omega) old8
  have q13 : ρ8 w4.heap.size = 13 := (old8 _ lt7).trans r13
  have q1 : ρ8 w2.heap.size = 1 := (old8 _ P7'.out.p.dev.lt).trans r1
  have q2 : ρ8 p = 2 := (old8 _ P7'.out.p.pool.blt).trans r2
  have q3 : ρ8 w.heap.size = 3 := (old8 _ P7'.out.p.pool.glt).trans r3
  have q4 : ρ8 w5.heap.size = 4 := (old8 _ P7'.out.p.rlt).trans r4
  have F9 : Hid (Begun2 w n (.returned (.pointer (some ⟨w4.heap.size, 0, none⟩))) (w8.setCell ⟨w4.heap.size, 5, none⟩ (.pointer (some ⟨w7.heap.size, 0, none⟩)))) := by
    have c5 : (w8.setCell ⟨w4.heap.size, 5, none⟩ (.pointer (some ⟨w7.heap.size, 0, none⟩))).cell? ⟨w4.heap.size, 5, none⟩ = some (.pointer (some ⟨w7.heap.size, 0, none⟩)) := World.cell?_setCell_same' _ _ _ (by rw [k85]; rfl)
    refine ⟨w4.heap.size, ⟨w2.heap.size, p, w.heap.size, w5.heap.size⟩, ⟨w3.heap.size, Q, w1.heap.size, w7.heap.size⟩, ρ8, tv8, cv8, rfl, ⟨?_, ?_, (setCell_out (by omega)).trans k83, (setCell_out (by omega)).trans k84, c5, (setCell_out (by omega)).trans k86, (setCell_out (by omega)).trans k87, fun j => (World.frozen?_setCell ..).trans (f8 j), RowN.nil _ _, RowN.nil _ _, q1, q2, q3, q4, q13⟩, ?_, ?_⟩
    · exact ⟨P8.p.but b9 (fun g e => by have e : g = w4.heap.size := e; rw [e, q13]; omega) (fun e => by have e : w2.heap.size = w4.heap.size := e; omega) (fun e => by have e : p = w4.heap.size := e; omega) (fun e => by have e : w.heap.size = w4.heap.size := e; omega) (fun e => by have e : w5.heap.size = w4.heap.size := e; omega), (setCell_out (by omega)).trans P8.c0, (setCell_out (by omega)).trans P8.c1, (setCell_out (by omega)).trans P8.c2, P8.xd, P8.xg, P8.xr⟩
    · exact RQ.but q8 b9 (fun g e => by have e : g = w4.heap.size := e; rw [e, q13]; omega)
    · exact B8.out.trans (b9.below B8.out.size (fun y hy e => by have e : y = w4.heap.size := e; omega))
    · intro g e
      rcases Nat.lt_or_ge g w7.heap.size with h1 | h1
      · rw [old8 g h1] at e; exact (RALL.out g e).2
      · have := B7.out.size; omega
  have k92 : (w8.setCell ⟨w4.heap.size, 5, none⟩ (.pointer (some ⟨w7.heap.size, 0, none⟩))).cell? ⟨w4.heap.size, 2, none⟩ = some (.pointer (some ⟨w5.heap.size, 0, none⟩)) := (setCell_out (by omega)).trans k82
  clear b8 b9 P8 B8 B7 X8 n8 k70 k71 k72 k73 k74 k75 k76 k77 k83 k84 k86 k87 f7 f8 s3 s4 s5 q8 old8 q13 q1 q2 q3 q4 r1 r2 r3 r4 r13
  go_wp2
  go_ret
  exact F9.out

section
variable {ρ ρ' : Nat → Nat} {W W' : World} {x : Nat} {q k : Bl} {n : Nat} {X X' Y Y' : Rg} {tv cv ov mv tv' cv' : Value} {Cm Mn : List Int}
/-- the program's ring has turned, and told no new block to the device: new blocks may have roles -/
theorem Two.progW (h : Two ρ W x q k n X Y tv cv ov mv Cm Mn) (hb : But (PK q) W W') (hp : Prg (fun g => ρ g ≠ 0 ∨ W.heap.size ≤ g) W' q n X'.D X'.B X'.s X'.c) (old : ∀ g, g < W.heap.size → ρ' g = ρ g) (lt' : ∀ g, ρ' g ≠ 0 → g < W'.heap.size) : Two ρ' W' x q k n X' Y tv cv ov mv Cm Mn := by
  have xl := h.p.xlt
  have nx : ¬ PK q x := fun e => by have := h.pk x e; have := h.xx; omega
  have key : ∀ j v, W.cell? ⟨x, j, none⟩ = some v → W'.cell? ⟨x, j, none⟩ = some v := fun j v hv => (hb.cell (p := ⟨x, j, none⟩) xl nx).trans hv
  have o : ∀ g, ρ g ≠ 0 → ρ' g = ρ g := fun g e => old g (h.lt g e)
  have up : ∀ g, ρ g ≠ 0 → ρ' g ≠ 0 := fun g e => by rw [o g e]; exact e
  have hp' : Prg (fun g => ρ' g ≠ 0) W' q n X'.D X'.B X'.s X'.c := hp.avoid (fun g _ e => by
    rcases Nat.lt_or_ge g W.heap.size with h1 | h1
    · rw [old g h1] at e; exact .inl e
    · exact .inr h1) (up _ h.p.p.dev.mem) (up _ h.p.p.ag) (up _ h.p.p.ar)
  exact ⟨⟨hp', key 0 _ h.p.c0, key 1 _ h.p.c1, key 2 _ h.p.c2, h.p.xd, h.p.xg, h.p.xr⟩, RQ.grow h.r hb (fun g e => by have := h.pk g e; omega) old lt', key 3 _ h.c3, key 4 _ h.c4, key 5 _ h.c5, key 6 _ h.c6, key 7 _ h.c7, fun j => (hb.frozen (p := ⟨x, j, none⟩) xl nx).trans (h.fz j),
    (h.rc.own (O' := fun g => ρ' g = 11) (fun g hg e => (old g hg).trans e)).but hb (fun g e e2 => by have h2 := h.pk g e2; have e : ρ' g = 11 := e; rw [o g (by omega)] at e; omega),
    (h.rm.own (O' := fun g => ρ' g = 12) (fun g hg e => (old g hg).trans e)).but hb (fun g e e2 => by have h2 := h.pk g e2; have e : ρ' g = 12 := e; rw [o g (by omega)] at e; omega),
    by rw [o _ (by have := h.q1; omega)]; exact h.q1, by rw [o _ (by have := h.q2; omega)]; exact h.q2, by rw [o _ (by have := h.q3; omega)]; exact h.q3, by rw [o _ (by have := h.q4; omega)]; exact h.q4, by rw [o _ (by have := h.xx; omega)]; exact h.xx⟩

/-- a new row of those that came -/
theorem Two.setCome (h : Two ρ W x q k n X Y tv cv ov mv Cm Mn) {w2 : World} (hb : But (fun g => ρ g = 11) W w2) {a' : Option Addr} {m' c' : Nat} {L' : List Int} (hrow : RowN (fun g => ρ g = 11 ∨ W.heap.size ≤ g ∧ g < w2.heap.size) w2 (.slice a' m' c') L') :
    w2.cell? ⟨x, 6, none⟩ = some ov ∧ w2.frozen? ⟨x, 6, none⟩ = false ∧ ∃ ρ', Two ρ' (w2.setCell ⟨x, 6, none⟩ (.slice a' m' c')) x q k n X Y tv cv (.slice a' m' c') mv L' Mn ∧ Mv ρ W ρ' (w2.setCell ⟨x, 6, none⟩ (.slice a' m' c')) := by
  have xl := h.p.xlt
  have nx : ¬ ρ x = 11 := by have := h.xx; omega
  have key : ∀ j v, W.cell? ⟨x, j, none⟩ = some v → w2.cell? ⟨x, j, none⟩ = some v := fun j v hv => (hb.cell (p := ⟨x, j, none⟩) xl nx).trans hv
  have fz2 : ∀ j, w2.frozen? ⟨x, j, none⟩ = false := fun j => (hb.frozen (p := ⟨x, j, none⟩) xl nx).trans (h.fz j)
  refine ⟨key 6 _ h.c6, fz2 6, ?_⟩
  obtain ⟨ρ', hρ⟩ : ∃ ρ' : Nat → Nat, ρ' = fun g => if W.heap.size ≤ g ∧ g < w2.heap.size then 11 else ρ g := ⟨_, rfl⟩
  have old : ∀ g, g < W.heap.size → ρ' g = ρ g := fun g hg => by rw [hρ]; exact if_neg (by omega)
  have newr : ∀ g, W.heap.size ≤ g → g < w2.heap.size → ρ' g = 11 := fun g h1 h2 => by rw [hρ]; exact if_pos ⟨h1, h2⟩
  have o : ∀ g, ρ g ≠ 0 → ρ' g = ρ g := fun g e => old g (h.lt g e)
  have lt' : ∀ g, ρ' g ≠ 0 → g < w2.heap.size := fun g e => by
    rcases Nat.lt_or_ge g w2.heap.size with h1 | h1
    · exact h1
    · have e2 : ρ' g = ρ g := by rw [hρ]; exact if_neg (by omega)
      rw [e2] at e
      exact Nat.lt_of_lt_of_le (h.lt g e) hb.size
  have b3 : But (Only x) w2 (w2.setCell ⟨x, 6, none⟩ (.slice a' m' c')) := (But.refl _ _).cellb _ _
  have rx : ρ' x = 13 := by rw [o _ (by have := h.xx; omega)]; exact h.xx
  have hx3 : ∀ g, Only x g → ρ' g = 13 := fun g e => by have e : g = x := e; rw [e]; exact rx
  have p2 := h.p.grow h.lt hb (fun g e => by
      refine ⟨by omega, fun e2 => ?_, fun e2 => ?_, fun e2 => ?_, fun e2 => ?_, fun e2 => ?_⟩
      · rw [e2, h.q1] at e; omega
      · rw [e2, h.q2] at e; omega
      · rw [e2, h.q3] at e; omega
      · rw [e2, h.q4] at e; omega
      · rw [e2, h.xx] at e; omega) old
  have qd : ρ' q.d = 1 := by rw [o _ (by have := h.q1; omega)]; exact h.q1
  have qp : ρ' q.p = 2 := by rw [o _ (by have := h.q2; omega)]; exact h.q2
  have qg : ρ' q.g = 3 := by rw [o _ (by have := h.q3; omega)]; exact h.q3
  have qr : ρ' q.r = 4 := by rw [o _ (by have := h.q4; omega)]; exact h.q4
  have p3 : RigP (fun g => ρ' g ≠ 0) (w2.setCell ⟨x, 6, none⟩ (.slice a' m' c')) x q n X.D X.B X.s X.c := ⟨p2.p.but b3 (fun g e => by have := hx3 g e; omega) (fun e => by have := hx3 _ e; omega) (fun e => by have := hx3 _ e; omega) (fun e => by have := hx3 _ e; omega) (fun e => by have := hx3 _ e; omega), (setCell_out (by omega)).trans p2.c0, (setCell_out (by omega)).trans p2.c1, (setCell_out (by omega)).trans p2.c2, p2.xd, p2.xg, p2.xr⟩
  have r3 := RQ.but (RQ.grow h.r hb (fun g e => by omega) old lt') b3 (fun g e => by have := hx3 g e; omega)
  have own := (hrow.own (O' := fun g => ρ' g = 11) (fun g hg e => by
    show ρ' g = 11
    rcases e with e | e
    · rw [o g (by omega)]; exact e
    · exact newr g e.1 e.2)).but b3 (fun g e e2 => by have := hx3 g e2; omega)
  have oth := ((h.rm.own (O' := fun g => ρ' g = 12) (fun g hg e => (old g hg).trans e)).but hb (fun g e e2 => by have e : ρ' g = 12 := e; rw [o g (by omega)] at e; omega)).but b3 (fun g e e2 => by have := hx3 g e2; omega)
  have cself : (w2.setCell ⟨x, 6, none⟩ (.slice a' m' c')).cell? ⟨x, 6, none⟩ = some (.slice a' m' c') := World.cell?_setCell_same' _ _ _ (by rw [key 6 _ h.c6]; rfl)
  exact ⟨ρ', ⟨p3, r3, (setCell_out (by omega)).trans (key 3 _ h.c3), (setCell_out (by omega)).trans (key 4 _ h.c4), (setCell_out (by omega)).trans (key 5 _ h.c5), cself, (setCell_out (by omega)).trans (key 7 _ h.c7), fun j => (World.frozen?_setCell ..).trans (fz2 j), own, oth, qd, qp, qg, qr, rx⟩,
    ⟨(hb.mono (fun g e => by omega)).trans' b3 (fun g hg e => by have e : g = x := e; have := h.xx; subst e; omega), old, fun g e => Nat.lt_of_lt_of_le (lt' g e) b3.size⟩⟩

/-- a new row of those that were taken -/
theorem Two.setMine (h : Two ρ W x q k n X Y tv cv ov mv Cm Mn) {w2 : World} (hb : But (fun g => ρ g = 12) W w2) {a' : Option Addr} {m' c' : Nat} {L' : List Int} (hrow : RowN (fun g => ρ g = 12 ∨ W.heap.size ≤ g ∧ g < w2.heap.size) w2 (.slice a' m' c') L') :
    w2.cell? ⟨x, 7, none⟩ = some mv ∧ w2.frozen? ⟨x, 7, none⟩ = false ∧ ∃ ρ', Two ρ' (w2.setCell ⟨x, 7, none⟩ (.slice a' m' c')) x q k n X Y tv cv ov (.slice a' m' c') Cm L' ∧ Mv ρ W ρ' (w2.setCell ⟨x, 7, none⟩ (.slice a' m' c')) := by
  have xl := h.p.xlt
  have nx : ¬ ρ x = 12 := by have := h.xx; omega
  have key : ∀ j v, W.cell? ⟨x, j, none⟩ = some v → w2.cell? ⟨x, j, none⟩ = some v := fun j v hv => (hb.cell (p := ⟨x, j, none⟩) xl nx).trans hv
  have fz2 : ∀ j, w2.frozen? ⟨x, j, none⟩ = false := fun j => (hb.frozen (p := ⟨x, j, none⟩) xl nx).trans (h.fz j)
  refine ⟨key 7 _ h.c7, fz2 7, ?_⟩
  obtain ⟨ρ', hρ⟩ : ∃ ρ' : Nat → Nat, ρ' = fun g => if W.heap.size ≤ g ∧ g < w2.heap.size then 12 else ρ g := ⟨_, rfl⟩
  have old : ∀ g, g < W.heap.size → ρ' g = ρ g := fun g hg => by rw [hρ]; exact if_neg (by omega)
  have newr : ∀ g, W.heap.size ≤ g → g < w2.heap.size → ρ' g = 12 := fun g h1 h2 => by rw [hρ]; exact if_pos ⟨h1, h2⟩
  have o : ∀ g, ρ g ≠ 0 → ρ' g = ρ g := fun g e => old g (h.lt g e)
  have lt' : ∀ g, ρ' g ≠ 0 → g < w2.heap.size := fun g e => by
    rcases Nat.lt_or_ge g w2.heap.size with h1 | h1
    · exact h1
    · have e2 : ρ' g = ρ g := by rw [hρ]; exact if_neg (by omega)
      rw [e2] at e
      exact Nat.lt_of_lt_of_le (h.lt g e) hb.size
  have b3 : But (Only x) w2 (w2.setCell ⟨x, 7, none⟩ (.slice a' m' c')) := (But.refl _ _).cellb _ _
  have rx : ρ' x = 13 := by rw [o _ (by have := h.xx; omega)]; exact h.xx
  have hx3 : ∀ g, Only x g → ρ' g = 13 := fun g e => by have e : g = x := e; rw [e]; exact rx
  have p2 := h.p.grow h.lt hb (fun g e => by
      refine ⟨by omega, fun e2 => ?_, fun e2 => ?_, fun e2 => ?_, fun e2 => ?_, fun e2 => ?_⟩
      · rw [e2, h.q1] at e; omega
      · rw [e2, h.q2] at e; omega
      · rw [e2, h.q3] at e; omega
      · rw [e2, h.q4] at e; omega
      · rw [e2, h.xx] at e; omega) old
  have qd : ρ' q.d = 1 := by rw [o _ (by have := h.q1; omega)]; exact h.q1
  have qp : ρ' q.p = 2 := by rw [o _ (by have := h.q2; omega)]; exact h.q2
  have qg : ρ' q.g = 3 := by rw [o _ (by have := h.q3; omega)]; exact h.q3
  have qr : ρ' q.r = 4 := by rw [o _ (by have := h.q4; omega)]; exact h.q4
  have p3 : RigP (fun g => ρ' g ≠ 0) (w2.setCell ⟨x, 7, none⟩ (.slice a' m' c')) x q n X.D X.B X.s X.c := ⟨p2.p.but b3 (fun g e => by have := hx3 g e; omega) (fun e => by have := hx3 _ e; omega) (fun e => by have := hx3 _ e; omega) (fun e => by have := hx3 _ e; omega) (fun e => by have := hx3 _ e; omega), (setCell_out (by omega)).trans p2.c0, (setCell_out (by omega)).trans p2.c1, (setCell_out (by omega)).trans p2.c2, p2.xd, p2.xg, p2.xr⟩
  have r3 := RQ.but (RQ.grow h.r hb (fun g e => by omega) old lt') b3 (fun g e => by have := hx3 g e; omega)
  have own := (hrow.own (O' := fun g => ρ' g = 12) (fun g hg e => by
    show ρ' g = 12
    rcases e with e | e
    · rw [o g (by omega)]; exact e
    · exact newr g e.1 e.2)).but b3 (fun g e e2 => by have := hx3 g e2; omega)
  have oth := ((h.rc.own (O' := fun g => ρ' g = 11) (fun g hg e => (old g hg).trans e)).but hb (fun g e e2 => by have e : ρ' g = 11 := e; rw [o g (by omega)] at e; omega)).but b3 (fun g e e2 => by have := hx3 g e2; omega)
  have cself : (w2.setCell ⟨x, 7, none⟩ (.slice a' m' c')).cell? ⟨x, 7, none⟩ = some (.slice a' m' c') := World.cell?_setCell_same' _ _ _ (by rw [key 7 _ h.c7]; rfl)
  exact ⟨ρ', ⟨p3, r3, (setCell_out (by omega)).trans (key 3 _ h.c3), (setCell_out (by omega)).trans (key 4 _ h.c4), (setCell_out (by omega)).trans (key 5 _ h.c5), (setCell_out (by omega)).trans (key 6 _ h.c6), cself, fun j => (World.frozen?_setCell ..).trans (fz2 j), oth, own, qd, qp, qg, qr, rx⟩,
    ⟨(hb.mono (fun g e => by omega)).trans' b3 (fun g hg e => by have e : g = x := e; have := h.xx; subst e; omega), old, fun g e => Nat.lt_of_lt_of_le (lt' g e) b3.size⟩⟩

end

/-- a Poll in numbers -/
def Rg.poll (n : Nat) (x : Rg) : Rg := if x.D.r 6 / 4 % 2 = 1 ∧ x.D.r 1 = 0 then Rg.reset n ⟨x.D.rdD 6, x.B, x.s, x.c⟩ else x.polled n
def Rg.told (x : Rg) : List (Int × Bool) := if x.D.r 6 / 4 % 2 = 1 ∧ x.D.r 1 = 0 then [] else x.come

theorem Poll_any {A : Nat → Prop} {w : World} {q : Bl} {n : Nat} {X : Rg} (h : Prg A w q n X.D X.B X.s X.c) {hl : Nat → Nat} {g : Nat} (hz : Hz n X hl g) {m : Nat} (hm : Bdd m X.B) (hm2 : m < 4611686018427387904) :
    Calls Try.prog 22 #[.pointer (some ⟨q.r, 0, none⟩)] w fun e w' => ∃ v, e = .returned v ∧ w'.ownsRow w.heap.size 67 2 v X.told.length (flc X.told) ∧ Prg A w' q n (X.poll n).D (X.poll n).B (X.poll n).s (X.poll n).c ∧ But (PK q) w w' := by
  by_cases hd : X.D.r 6 / 4 % 2 = 1 ∧ X.D.r 1 = 0
  · refine (Poll_down h hz.ok hm hm2 hd).mono ?_
    rintro _ w' ⟨rfl, hp, hb⟩
    unfold Rg.told Rg.poll
    rw [if_pos hd, if_pos hd]
    exact ⟨_, rfl, World.ownsRow_nil _ _ _ _, hp, hb⟩
  · have e := hz.got
    refine (Poll_up h hz.ok hm hm2 hd (fun k hk => (hz.rx (by rw [e.1] at hk; exact hk)).1) hz.h3 e.2).mono ?_
    rintro _ w' ⟨v, rfl, ho, hp, hb⟩
    unfold Rg.told Rg.poll
    rw [if_neg hd, if_neg hd]
    exact ⟨_, rfl, ho, hp, hb⟩

theorem rPoll_any {ρ : Nat → Nat} {w : World} {k : Bl} {n : Nat} {Y : Rg} {tv cv : Value} (h : RS ρ w k n Y tv cv) {hl : Nat → Nat} {g : Nat} (hz : Hz n Y hl g) {m : Nat} (hm : Bdd m Y.B) (hm2 : m < 4611686018427387904) :
    Calls Try.prog 75 #[.pointer (some ⟨k.r, 0, none⟩)] w (RPost ρ w k n (Y.poll n) Y.told) := by
  by_cases hd : Y.D.r 6 / 4 % 2 = 1 ∧ Y.D.r 1 = 0
  · refine (rPoll_down h hz.sm hz.cm hm hm2 hd).mono ?_
    rintro _ w' ⟨rfl, ρ', tv', cv', hr, hn⟩
    unfold Rg.told Rg.poll
    rw [if_pos hd, if_pos hd]
    exact ⟨_, rfl, World.ownsRow_nil _ _ _ _, ρ', tv', cv', hr, hn, fun b e => by cases e⟩
  · have := rPoll_up h hz hm hm2 hd
    unfold Rg.told Rg.poll
    rw [if_neg hd, if_neg hd]
    exact this

/-- Poll: who holds what -/
theorem Hz.poll {n : Nat} {X : Rg} {hl : Nat → Nat} {g : Nat} (h : Hz n X hl g) : Hz n (X.poll n) (fun i => hl i + (X.told.map Prod.fst).count (i : Int)) 0 ∧ ∀ z ∈ X.told.map Prod.fst, 0 ≤ z ∧ z < n := by
  unfold Rg.poll Rg.told
  by_cases hd : X.D.r 6 / 4 % 2 = 1 ∧ X.D.r 1 = 0
  · rw [if_pos hd, if_pos hd]
    have h6 : Hz n ⟨X.D.rdD 6, X.B, X.s, X.c⟩ hl g := by
      obtain ⟨s1, s2, s3, s4, s5, s6⟩ := rd6_same X.D
      exact h.dev (h.ok.rd 6) (rd6_r X.D 0 (by omega)) (rd6_r X.D 2 (by omega)) (rd6_r X.D 3 (by omega)) (rd6_r X.D 4 (by omega)) (rd6_r X.D 5 (by omega)) s1 s2 s5
    refine ⟨?_, fun z hz => by simp at hz⟩
    have := h6.resets.1
    simpa using this
  · rw [if_neg hd, if_neg hd, h.comes.1]
    exact ⟨h.polls.1, fun z hz => h.rc z (List.mem_of_mem_take hz)⟩

theorem flc_get (p : Int × Bool) : ∀ (l : List (Int × Bool)) (k : Nat), l[k]? = some p → (flc l)[k * 2]? = some (.int .i64 p.1) ∧ (flc l)[k * 2 + 1]? = some (.bool p.2)
  | [], k, h => by simp at h
  | a :: l, 0, h => by
    simp at h
    subst h
    exact ⟨rfl, rfl⟩
  | a :: l, k + 1, h => by
    have e : flc (a :: l) = .int .i64 a.1 :: .bool a.2 :: flc l := rfl
    have := flc_get p l k (by simpa using h)
    rw [e, show (k + 1) * 2 = k * 2 + 1 + 1 by omega, List.getElem?_cons_succ, List.getElem?_cons_succ, List.getElem?_cons_succ, List.getElem?_cons_succ]
    exact this

/-- the entries from i on of a list of what came, in block g -/
def CmAt (W : World) (g i : Nat) (L : List (Int × Bool)) : Prop := ∀ j p, i ≤ j → L[j]? = some p → W.cell? ⟨g, j * 2, none⟩ = some (.int .i64 p.1) ∧ W.cell? ⟨g, j * 2 + 1, none⟩ = some (.bool p.2)
theorem CmAt.but {K : Nat → Prop} {W W' : World} {g i : Nat} {L : List (Int × Bool)} (h : CmAt W g i L) (hg : g < W.heap.size) (hb : But K W W') (hn : ¬ K g) : CmAt W' g i L := fun j p hj hp =>
  ⟨(hb.cell (p := ⟨g, j * 2, none⟩) hg hn).trans (h j p hj hp).1, (hb.cell (p := ⟨g, j * 2 + 1, none⟩) hg hn).trans (h j p hj hp).2⟩
theorem CmAt.of {W : World} {N g c m : Nat} {L : List (Int × Bool)} (hm : m = L.length) (h : W.ownsRow N 67 2 (.slice (some ⟨g, 0, none⟩) m c) m (flc L)) : CmAt W g 0 L := fun j p _ hp => by
  subst hm
  obtain ⟨h1, h2⟩ := flc_get p L j hp
  have hl : j < L.length := (List.getElem?_eq_some_iff.1 hp).1
  exact ⟨by rw [World.ownsRow.cellAt h _ (by omega)]; exact h1, by rw [World.ownsRow.cellAt h _ (by omega)]; exact h2⟩

/-- between the rounds of polls -/
structure PR (ρ : Nat → Nat) (w : World) (x : Nat) (q k : Bl) (n : Nat) (X Y : Rg) (tv cv ov mv : Value) (Cm Mn : List Int) (LA LB : List (Int × Bool)) (a1 a2 : Option Addr) (i : Nat) (ρ' : Nat → Nat) (wr : World) : Prop where
  t : Two ρ' wr x q k n X Y tv cv ov mv (Cm ++ (LB.take i).map Prod.fst) Mn
  m : Mv ρ w ρ' wr
  e : LA.take i = LB.take i
  r : 0 < LB.length → ∃ ga gb, a1 = some ⟨ga, 0, none⟩ ∧ a2 = some ⟨gb, 0, none⟩ ∧ ρ' ga = 15 ∧ ρ' gb = 14 ∧ CmAt wr ga i LA ∧ (∀ j, wr.frozen? ⟨ga, j, none⟩ = false) ∧ CmAt wr gb 0 LB

theorem step_app2 {ops : Array Oper} {o : Oper} {a : Act} {w : World} {K : Act → World → Prop} {Q : Exit → Act → World → Prop} {E : Prop} (hg : o.guard = none) (T : TypeId) (s x : Operand)
    (hop : o.op = Op.call { callee := Callee.builtin Builtin.append, args := #[s, x], argTypes := #[T, T] }) (hty : o.type = T) (v1 v2 v' : Value) (w' : World) (hs : a.eval s = v1) (hx : a.eval x = v2)
    (hrun : (Builtin.append_ #[T, T] T #[v1, v2]).run Try.prog w = .ok v' w') (hK : K (a.put o.dst v') w') :
    if Region.wanted o (yielded ops a.tmps) = true then Oper.wp Try.prog o a w K Q else E := by
  have hw : Region.wanted o (yielded ops a.tmps) = true := by simp [Region.wanted, hg]
  rw [if_pos hw]
  unfold Oper.wp
  simp only [execOp, hop, hty]
  simp [resolve, invoke, builtin, hs, hx, hrun, Result.andThen]
  exact hK

/-- what polls leaves -/
def PollsP (ρ : Nat → Nat) (w : World) (x : Nat) (q k : Bl) (n : Nat) (X Y : Rg) (mv : Value) (Cm Mn : List Int) (e : Ending) (w' : World) : Prop :=
  ∃ b ρ' tv' cv' ov' L, e = .returned (.bool b) ∧ Two ρ' w' x q k n (X.poll n) (Y.poll n) tv' cv' ov' mv (Cm ++ L) Mn ∧ Mv ρ w ρ' w' ∧ L <+: X.told.map Prod.fst ∧ L <+: Y.told.map Prod.fst ∧ (X.told = Y.told → b = true)

theorem take_succ_get {α : Type} {l : List α} {i : Nat} {p : α} (h : l[i]? = some p) : l.take (i + 1) = l.take i ++ [p] := by
  rw [List.take_add_one, h]; rfl

theorem own_fz {W : World} {N g c m : Nat} {e : TypeId} {sz : Nat} {xs : List Value} {l : Nat} (h : W.ownsRow N e sz (.slice (some ⟨g, 0, none⟩) m c) l xs) (k : Nat) : W.frozen? ⟨g, k, none⟩ = false := by
  obtain ⟨_, ⟨e, _⟩ | ⟨g', cp, cur, e, _, hh, _⟩⟩ := h
  · cases e
  · simp only [Value.slice.injEq, Option.some.injEq, Addr.mk.injEq, and_true] at e
    rw [e.1]
    unfold World.frozen?
    rw [hh]
    simp

set_option maxRecDepth 100000 in
set_option maxHeartbeats 4000000 in
theorem polls_any {ρ : Nat → Nat} {w : World} {x : Nat} {q k : Bl} {n : Nat} {X Y : Rg} {tv cv ov mv : Value} {Cm Mn : List Int} (h : Two ρ w x q k n X Y tv cv ov mv Cm Mn) {hX hY : Nat → Nat} {gX gY : Nat} (zX : Hz n X hX gX) (zY : Hz n Y hY gY) {m : Nat} (bX : Bdd m X.B) (bY : Bdd m Y.B) (hm2 : m < 4611686018427387904) (hc : Cm.length ≤ 4398046511104) :
    Calls Try.prog 36 #[.pointer (some ⟨x, 0, none⟩)] w (PollsP ρ w x q k n X Y mv Cm Mn) := by
  have c2 := h.p.c2
  have X1 := hide (Poll_any h.p.p.wide zX bX hm2)
  have H := hide h
  have ZA : X.told.length ≤ 15 := by unfold Rg.told; split; simp; rw [zX.comes.2]; exact Nat.le_trans zX.h2.1 zX.cm
  obtain ⟨X', hX'⟩ : ∃ X', X' = X.poll n := ⟨_, rfl⟩
  obtain ⟨LA, hLA⟩ : ∃ LA, LA = X.told := ⟨_, rfl⟩
  obtain ⟨LB, hLB⟩ : ∃ LB, LB = Y.told := ⟨_, rfl⟩
  have XB : Hid (∀ ρ W tv cv, RS ρ W k n Y tv cv → Calls Try.prog 75 #[.pointer (some ⟨k.r, 0, none⟩)] W (RPost ρ W k n (Y.poll n) LB)) := fun ρ W tv cv r => by rw [hLB]; exact rPoll_any r zY bY hm2
  obtain ⟨Y', hY'⟩ : ∃ Y', Y' = Y.poll n := ⟨_, rfl⟩
  rw [← hY'] at XB
  rw [← hLA] at ZA
  have fin : ∀ b w' ρ' tv' cv' ov' L, Two ρ' w' x q k n X' Y' tv' cv' ov' mv (Cm ++ L) Mn → Mv ρ w ρ' w' → L <+: LA.map Prod.fst → L <+: LB.map Prod.fst → (LA = LB → b = true) → PollsP ρ w x q k n X Y mv Cm Mn (.returned (.bool b)) w' := fun b w' ρ' tv' cv' ov' L t mvv p1 p2 p3 => by
    subst hX' hY' hLA hLB
    exact ⟨b, ρ', tv', cv', ov', L, rfl, t, mvv, p1, p2, p3⟩
  have FIN := hide fin
  rw [← hLA, ← hX'] at X1
  clear fin hX' hLA hLB hY' h zX zY bX bY
  go_enter Try.func36, Try.ntmps36
  go_wp2_with fail
  refine X1.out.mono ?_
  rintro _ w1 ⟨v1, rfl, o1, p1, b1⟩
  obtain ⟨a1, k1, rfl, hs1, _⟩ := row_shape o1
  obtain ⟨ρ1, hρ⟩ : ∃ ρ1 : Nat → Nat, ρ1 = fun g => if Value.ownBlock (.slice a1 LA.length k1) = some g then 15 else ρ g := ⟨_, rfl⟩
  have old1 : ∀ g, g < w.heap.size → ρ1 g = ρ g := fun g hg => by rw [hρ]; exact if_neg (fun e => by have := (World.ownsRow.lt o1 g e).1; omega)
  have new1 : ∀ g, Value.ownBlock (.slice a1 LA.length k1) = some g → ρ1 g = 15 := fun g e => by rw [hρ]; exact if_pos e
  have lt1 : ∀ g, ρ1 g ≠ 0 → g < w1.heap.size := fun g e => by
    by_cases e2 : Value.ownBlock (.slice a1 LA.length k1) = some g
    · exact (World.ownsRow.lt o1 g e2).2
    · have e3 : ρ1 g = ρ g := by rw [hρ]; exact if_neg e2
      rw [e3] at e
      exact Nat.lt_of_lt_of_le (H.out.lt g e) b1.size
  have t1 := H.out.progW b1 p1 old1 lt1
  have m1 : Mv ρ w ρ1 w1 := ⟨b1.mono (fun g e => by have := H.out.pk g e; omega), old1, lt1⟩
  have c5 := t1.c5
  have X2 := hide (XB.out ρ1 w1 _ _ t1.r)
  have T1 := hide t1
  have M1 := hide m1
  have O1 := hide o1
  have N1 := hide new1
  clear o1 p1 b1 hρ old1 new1 lt1 t1 m1 X1 XB c2 H
  go_wp2_with fail
  refine X2.out.mono ?_
  rintro _ w2 ⟨v2, rfl, o2, ρ2, tv2, cv2, r2, n2, e14⟩
  obtain ⟨a2, k2, rfl, hs2, _⟩ := row_shape o2
  have t2 := T1.out.ref n2 r2
  have m2 := M1.out.trans (Mv.nx n2 t2.lt)
  have nr : ∀ g, Value.ownBlock (.slice a1 LA.length k1) = some g → ρ2 g = 15 := fun g e => (n2.old g (World.ownsRow.lt O1.out g e).2).trans (N1.out g e)
  have o1' := row_keep O1.out n2.but (fun g e e2 => by have := N1.out g e; omega)
  have T2 := hide t2
  have M2 := hide m2
  have NR := hide nr
  have OA := hide o1'
  have OB := hide o2
  have E14 := hide e14
  clear r2 n2 e14 t2 m2 nr o1' o2 T1 M1 O1 N1 X2 c5
  go_upto_region 3 with fail
  by_cases hlen : LA.length = LB.length
  · have zlen : ((LA.length : Int) == (LB.length : Int)) = true := by rw [beq_iff_eq]; omega
    have zl : (LA.length : Int) ≤ 15 := by omega
    obtain ⟨N, hN⟩ : ∃ N, N = LB.length := ⟨_, rfl⟩
    have HN := hide hN
    rw [← hN] at hlen
    rw [hlen] at zl
    rw [hlen, ← hN]
    rw [hlen] at OA NR
    rw [← hN] at OB E14
    have HLN := hide hlen
    have HS1 := hide hs1
    have HS2 := hide hs2
    clear zlen hs1 hs2 hN hlen
    have I0 : Hid (PR ρ w x q k n X' Y' tv2 cv2 ov mv Cm Mn LA LB a1 a2 0 ρ2 w2) := by
      refine ⟨by simpa using T2.out, M2.out, by simp, fun h0 => ?_⟩
      obtain ⟨ga, e1, _⟩ := HS1.out (by have := HLN.out; have := HN.out; omega)
      obtain ⟨gb, e2, _⟩ := HS2.out h0
      subst e1 e2
      refine ⟨ga, gb, rfl, rfl, NR.out ga rfl, E14.out gb rfl, CmAt.of HLN.out.symm OA.out, own_fz OA.out, CmAt.of HN.out OB.out⟩
    clear T2 M2 OA OB NR E14 HS1 HS2
    go_wp2
    go_loopw [5] (fun v5 wr => ∃ (i : Nat) (ρ' : Nat → Nat) (ov : Value), v5 = .int .i64 (i : Int) ∧ i ≤ N ∧ Hid (PR ρ w x q k n X' Y' tv2 cv2 ov mv Cm Mn LA LB a1 a2 i ρ' wr)) (fun v5 _ => N - (intOf v5).toNat)
    case atStart => exact ⟨0, ρ2, ov, rfl, Nat.zero_le _, I0.out⟩
    case round =>
      clear I0
      obtain ⟨i, ρ', ov, rfl, hi, hq⟩ := hrel
      by_cases hlt : i < N
      · have zi : (i : Int) < (N : Int) := by omega
        obtain ⟨ga, gb, rfl, rfl, ra, rb, ca, fa, cb⟩ := hq.out.r (by have := HN.out; omega)
        obtain ⟨p, hp⟩ : ∃ p, LA[i]? = some p := ⟨_, List.getElem?_eq_getElem (by have := HLN.out; omega)⟩
        obtain ⟨p', hp'⟩ : ∃ p', LB[i]? = some p' := ⟨_, List.getElem?_eq_getElem (by have := HN.out; omega)⟩
        obtain ⟨d0, d1⟩ := ca i p (Nat.le_refl _) hp
        obtain ⟨d2, d3⟩ := cb i p' (Nat.zero_le _) hp'
        obtain ⟨p1, p2⟩ := p
        obtain ⟨y1, y2⟩ := p'
        simp only at d0 d1 d2 d3
        have HP := hide (And.intro hp hp')
        have RAB := hide (And.intro ra rb)
        have CA := hide ca
        have CB := hide cb
        have FA := hide fa
        have ne1 : ∀ a b : Int, a ≠ b → (a == b) = false := fun a b e => by simp [e]
        clear ca cb ra rb hp hp'
        by_cases e12 : (p1, p2) = (y1, y2)
        · obtain ⟨rfl, rfl⟩ : p1 = y1 ∧ p2 = y2 := by simpa using e12
          go_upto_region 8 with fail
          go_quiet (fail)
          go_upto_region 10 with fail
          have bq : Below wr.heap.size wr (wr.drewN nq) := undrewK0 (Below.refl _ _)
          have al : ga < wr.heap.size := hq.out.t.lt ga (by have := RAB.out.1; omega)
          have bl : gb < wr.heap.size := hq.out.t.lt gb (by have := RAB.out.2; omega)
          have BF : But (fun _ => False) wr (wr.drewN nq) := But.of_below bq
          have TQ := hide (hq.out.t.later bq)
          have MQ := hide (hq.out.m.trans (Mv.below hq.out.t.lt bq))
          have CAQ := hide (CA.out.but al BF id)
          have CBQ := hide (CB.out.but bl BF id)
          have FAQ : Hid (∀ j, (wr.drewN nq).frozen? ⟨ga, j, none⟩ = false) := fun j => FA.out j
          have HQE := hide hq.out.e
          clear bq BF al bl d0 d1 d2 d3 CA CB FA fa hq
          generalize wr.drewN nq = wq at *
          obtain ⟨d2, d3⟩ := CBQ.out i (p1, p2) (Nat.zero_le _) HP.out.2
          simp only at d2 d3
          have c6 := TQ.out.c6
          have bd : Below wq.heap.size wq wq.drew := undrew0 (Below.refl _ _)
          have td := TQ.out.later bd
          obtain ⟨a5, k5, w5, hrun, hrow, hb5⟩ := td.rc.push p1 (by rw [List.length_append, List.length_map, List.length_take]; have := HN.out; omega)
          obtain ⟨c65, f65, ρ5, t5, m5⟩ := td.setCome hb5 hrow
          obtain ⟨oa, oc, eo⟩ := TQ.out.rc.shape
          obtain ⟨ol, hol⟩ : ∃ ol, ol = (Cm ++ (LB.take i).map Prod.fst).length := ⟨_, rfl⟩
          rw [← hol] at eo hrun t5 m5
          subst eo
          have HRN : Hid ((Builtin.append_ #[31, 31] 31 #[.slice oa ol oc, .slice (some ⟨wq.heap.size, 0, none⟩) 1 1]).run Try.prog (wq.alloc (.cells #[.int .i64 p1] 3)).drew = .ok (.slice a5 (ol + 1) k5) w5) := hrun
          have eL : Cm ++ (LB.take i).map Prod.fst ++ [p1] = Cm ++ (LB.take (i + 1)).map Prod.fst := by rw [take_succ_get HP.out.2, List.map_append, List.append_assoc]; rfl
          rw [eL] at t5
          have xl : x < wq.heap.size := TQ.out.p.xlt
          have nxw : ¬ x = wq.heap.size := by omega
          have nxw' : ¬ wq.heap.size = x := by omega
          have gbl : gb < wq.heap.size := TQ.out.lt gb (by have := RAB.out.2; omega)
          have ngb : ¬ gb = wq.heap.size := by omega
          have F5 : Hid (Two ρ5 (w5.setCell ⟨x, 6, none⟩ (.slice a5 (ol + 1) k5)) x q k n X' Y' tv2 cv2 (.slice a5 (ol + 1) k5) mv (Cm ++ (LB.take (i + 1)).map Prod.fst) Mn ∧ Mv ρ' wq ρ5 (w5.setCell ⟨x, 6, none⟩ (.slice a5 (ol + 1) k5)) ∧ But (fun g => ρ' g = 11 ∨ g = x) wq (w5.setCell ⟨x, 6, none⟩ (.slice a5 (ol + 1) k5))) := ⟨t5, (Mv.below TQ.out.lt bd).trans m5, ((But.of_below bd).trans (hb5.mono (fun g e => .inl e))).setCell (p := ⟨x, 6, none⟩) (.inr (.inr rfl)) _⟩
          clear td hrun hrow hb5 t5 m5 eL bd hol
          go_cut [] from 21 to 53 (fun wc => Hid (∃ ρ5, Two ρ5 wc x q k n X' Y' tv2 cv2 (.slice a5 (ol + 1) k5) mv (Cm ++ (LB.take (i + 1)).map Prod.fst) Mn ∧ Mv ρ' wq ρ5 wc ∧ But (fun g => ρ' g = 11 ∨ g = x) wq wc))
          case first =>
            go_region_law (first | (refine step_app2 rfl 31 _ _ rfl rfl _ _ _ _ (by simp [Act.eval]) (by simp [Act.eval]) HRN.out ?_))
            all_goals go_wp2
            all_goals go_meet
            all_goals exact ⟨ρ5, F5.out⟩
          case rest =>
            obtain ⟨ρ6, t6, m6, b6⟩ := hcut.out
            have ra := RAB.out.1
            have rb := RAB.out.2
            have gal : ga < wq.heap.size := TQ.out.lt ga (by omega)
            have nga : ¬ (ρ' ga = 11 ∨ ga = x) := fun e => by
              rcases e with e | e
              · omega
              · have := TQ.out.xx; rw [← e] at this; omega
            have ngb2 : ¬ (ρ' gb = 11 ∨ gb = x) := fun e => by
              rcases e with e | e
              · omega
              · have := TQ.out.xx; rw [← e] at this; omega
            have ca6 := CAQ.out.but gal b6 nga
            have cb6 := CBQ.out.but gbl b6 ngb2
            have fa6 : ∀ j, wc.frozen? ⟨ga, j, none⟩ = false := fun j => (b6.frozen (p := ⟨ga, j, none⟩) gal nga).trans (FAQ.out j)
            have ra6 : ρ6 ga = 15 := (m6.old ga gal).trans ra
            have rb6 : ρ6 gb = 14 := (m6.old gb gbl).trans rb
            have d0 := (ca6 i (p1, p2) (Nat.le_refl _) HP.out.1).1
            have f0 := fa6 (i * 2)
            simp only at d0
            have b7 : But (Only ga) wc (wc.setCell ⟨ga, i * 2, none⟩ (.int .i64 (-1))) := (But.refl _ _).cellb _ _
            have t7 := t6.grow (ρ' := ρ6) b7 (fun g e => by have e : g = ga := e; rw [e, ra6]; omega) (fun _ _ => rfl) (fun g e => Nat.lt_of_lt_of_le (t6.lt g e) b7.size)
            have m7 : Mv ρ6 wc ρ6 (wc.setCell ⟨ga, i * 2, none⟩ (.int .i64 (-1))) := Mv.of t6.lt b7 (fun g e => by have e : g = ga := e; rw [e, ra6]; omega)
            have gab : gb ≠ ga := fun e => by rw [e] at rb6; omega
            have R7 : Hid (PR ρ w x q k n X' Y' tv2 cv2 (.slice a5 (ol + 1) k5) mv Cm Mn LA LB (some ⟨ga, 0, none⟩) (some ⟨gb, 0, none⟩) (i + 1) ρ6 (wc.setCell ⟨ga, i * 2, none⟩ (.int .i64 (-1)))) := by
              refine ⟨t7, (MQ.out.trans m6).trans m7, by rw [take_succ_get HP.out.1, take_succ_get HP.out.2, HQE.out], fun _ => ⟨ga, gb, rfl, rfl, ra6, rb6, fun j p hj hp => ?_, fun j => (World.frozen?_setCell ..).trans (fa6 j), cb6.but (t6.lt gb (by omega)) b7 gab⟩⟩
              obtain ⟨z1, z2⟩ := ca6 j p (by omega) hp
              exact ⟨(setCell_out (by omega)).trans z1, (setCell_out (by omega)).trans z2⟩
            clear t6 m6 b6 ca6 cb6 fa6 t7 m7 b7 hcut TQ MQ CAQ CBQ FAQ c6 c65 f65 HQE d2 d3
            go_wp2
            go_roundw
            case rel => exact ⟨i + 1, ρ6, _, by go_num, hlt, R7.out⟩
            case measure => simp [intOf]; omega
        · have F : Hid (∀ W, Below wr.heap.size wr W → PollsP ρ w x q k n X Y mv Cm Mn (.returned (.bool false)) W) := fun W hb => FIN.out false W ρ' tv2 cv2 ov _ (hq.out.t.later hb) (hq.out.m.trans (Mv.below hq.out.t.lt hb)) (by rw [← hq.out.e, List.map_take]; exact List.take_prefix _ _) (by rw [List.map_take]; exact List.take_prefix _ _) (fun e => by
            have h1 := HP.out.1
            rw [e, HP.out.2] at h1
            exact absurd (Option.some.inj h1).symm e12)
          by_cases e1 : p1 = y1
          · have e2 : ¬ p2 = y2 := fun e2 => e12 (by rw [e1, e2])
            subst e1
            have e3 : (p2 == y2) = false := by simp [e2]
            go_upto_region 8 with fail
            go_quiet (fail)
            go_wp2
            go_ret
            exact F.out _ (undrewK0 (Below.refl _ _))
          · have e3 : (p1 == y1) = false := by simp [e1]
            go_upto_region 8 with fail
            go_quiet (fail)
            go_wp2
            go_ret
            exact F.out _ (undrewK0 (Below.refl _ _))
      · obtain rfl : i = N := by omega
        have zi : ¬ (i : Int) < (i : Int) := by omega
        have F : Hid (PollsP ρ w x q k n X Y mv Cm Mn (.returned (.bool true)) wr) := FIN.out true wr ρ' tv2 cv2 ov _ hq.out.t hq.out.m (by rw [← hq.out.e, List.map_take]; exact List.take_prefix _ _) (by rw [List.map_take]; exact List.take_prefix _ _) (fun _ => rfl)
        go_wp2
        go_ret
        exact F.out
  · have zlen : ((LA.length : Int) == (LB.length : Int)) = false := by rw [beq_eq_false_iff_ne]; omega
    have F := hide (FIN.out false w2 ρ2 tv2 cv2 ov [] (by rw [List.append_nil]; exact T2.out) M2.out List.nil_prefix List.nil_prefix (fun e => absurd (by rw [e]) hlen))
    clear T2 M2 OA OB NR E14
    go_wp2
    go_ret
    exact F.out

theorem IsF.drop {A : Nat → Prop} {W : World} {a : Option Addr} {n c : Nat} {L : List Int} (h : IsF A W (.slice a n c) L) (k : Nat) (hk : k ≤ L.length) :
    IsF A W (.slice (if c = k then a else Option.map (fun x => x.add k) a) (n - k) (c - k)) (L.drop k) := by
  obtain ⟨a2, c', e, hl, hn, hc⟩ := h
  simp only [Value.slice.injEq] at e
  obtain ⟨rfl, rfl, rfl⟩ := e
  refine ⟨if c = k then a else Option.map (fun x => x.add k) a, c - k, by rw [List.length_drop], by rw [List.length_drop]; omega, fun e => ?_, fun h0 => ?_⟩
  · split at e
    · omega
    · have : a = none := by simpa using e
      have := hn this
      omega
  · simp only [List.length_drop] at h0
    obtain ⟨b, off, rfl, hb, ha, hcs⟩ := hc (by omega)
    refine ⟨b, off + k, by rw [if_neg (by omega)]; simp [Addr.add_lit], hb, ha, fun j hj => ?_⟩
    simp only [List.length_drop] at hj
    rw [Nat.add_assoc, hcs (k + j) (by omega), List.getElem?_drop]
theorem IsF.take {A : Nat → Prop} {W : World} {a : Option Addr} {n c : Nat} {L : List Int} (h : IsF A W (.slice a n c) L) (k : Nat) (hk : k ≤ L.length) : IsF A W (.slice a k c) (L.take k) := by
  obtain ⟨a', c', e, hl, hn, hc⟩ := h
  simp only [Value.slice.injEq] at e
  obtain ⟨rfl, rfl, rfl⟩ := e
  have e : (L.take k).length = k := by simp; omega
  refine ⟨a, c, by rw [e], by omega, hn, fun h0 => ?_⟩
  obtain ⟨b, off, rfl, hb, ha, hcs⟩ := hc (by omega)
  refine ⟨b, off, rfl, hb, ha, fun j hj => ?_⟩
  rw [hcs j (by omega), List.getElem?_take, if_pos (by omega)]

/-- the buffer i was free, is held once, and says something -/
structure Tk (n : Nat) (X X' : Rg) (i : Nat) : Prop where
  g : gt n X.B = some i
  d : X'.D = X.D
  s : X'.s = X.s
  c : X'.c = X.c
  o : ∀ j, j ≠ i → X'.B j = X.B j
  r : (X'.B i).refs = 1
  h : (X'.B i).head.length ≤ 104

theorem Hz.took {n : Nat} {X X' : Rg} {hl : Nat → Nat} {g i : Nat} (h : Hz n X hl g) (t : Tk n X X' i) : Hz n X' (upd hl i (hl i + 1)) g := by
  obtain ⟨hi, h0, _⟩ := gt_some t.g
  obtain ⟨n1, _, hl0⟩ := h.free hi h0
  have e : X' = ⟨X.D, X'.B, X.s, X.c⟩ := by
    cases X' with
    | mk D B s c =>
      have h1 : D = X.D := t.d
      have h2 : s = X.s := t.s
      have h3 : c = X.c := t.c
      rw [h1, h2, h3]
  rw [e]
  refine h.turn (fun j hj => ?_) (fun j hj hm => t.o j (fun e => n1 (e ▸ hm)))
  by_cases e : j = i
  · subst e; rw [upd_same, h0, t.r]; omega
  · rw [t.o j e, upd_other _ _ _ _ e]

/-- what a taken buffer says -/
def tkB (n : Nat) (B : Nat → Buf) (i k : Nat) (bs : List Int) : Nat → Buf := foB n (stB n (upd B i ⟨1, [], []⟩) (i : Int) (bs.drop k)) (i : Int) (bs.take k)
theorem stB_other {n : Nat} {B : Nat → Buf} {i j : Nat} {bs : List Int} (h : j ≠ i) : stB n B (i : Int) bs j = B j := by
  unfold stB; split
  · rw [upd_other _ _ _ _ (by simpa using h)]
  · rfl
theorem foB_other {n : Nat} {B : Nat → Buf} {i j : Nat} {bs : List Int} (h : j ≠ i) : foB n B (i : Int) bs j = B j := by
  unfold foB; split
  · rw [upd_other _ _ _ _ (by simpa using h)]
  · rfl
theorem stB_refs {n : Nat} {B : Nat → Buf} {i : Int} {bs : List Int} (j : Nat) : (stB n B i bs j).refs = (B j).refs := by
  unfold stB; split
  · by_cases e : j = i.toNat
    · subst e; rw [upd_same]
    · rw [upd_other _ _ _ _ e]
  · rfl
theorem foB_refs {n : Nat} {B : Nat → Buf} {i : Int} {bs : List Int} (j : Nat) : (foB n B i bs j).refs = (B j).refs := by
  unfold foB; split
  · by_cases e : j = i.toNat
    · subst e; rw [upd_same]
    · rw [upd_other _ _ _ _ e]
  · rfl
theorem stB_head {n : Nat} {B : Nat → Buf} {i : Int} {bs : List Int} (j m : Nat) (h : (B j).head.length ≤ m) : (stB n B i bs j).head.length ≤ m := by
  unfold stB; split
  · by_cases e : j = i.toNat
    · subst e; rw [upd_same]; exact Nat.zero_le _
    · rw [upd_other _ _ _ _ e]; exact h
  · exact h
theorem foB_head {n : Nat} {B : Nat → Buf} {i : Int} {bs : List Int} (j : Nat) (h : (B j).head.length ≤ 104) : (foB n B i bs j).head.length ≤ 104 := by
  unfold foB; split
  · rename_i h0
    by_cases e : j = i.toNat
    · subst e; rw [upd_same]
      show bs.length ≤ 104
      unfold foE at h0
      split at h0
      · split at h0 <;> omega
      · omega
    · rw [upd_other _ _ _ _ e]; exact h
  · exact h
theorem Tk.get {n : Nat} {X : Rg} {i : Nat} (h : gt n X.B = some i) : Tk n X ⟨X.D, upd X.B i ⟨1, [], []⟩, X.s, X.c⟩ i :=
  ⟨h, rfl, rfl, rfl, fun j hj => upd_other _ _ _ _ hj, by show (upd X.B i ⟨1, [], []⟩ i).refs = 1; rw [upd_same], by show (upd X.B i ⟨1, [], []⟩ i).head.length ≤ 104; rw [upd_same]; exact Nat.zero_le _⟩
theorem Tk.full {n : Nat} {X : Rg} {i : Nat} (h : gt n X.B = some i) (k : Nat) (bs : List Int) : Tk n X ⟨X.D, tkB n X.B i k bs, X.s, X.c⟩ i :=
  ⟨h, rfl, rfl, rfl, fun j hj => by show tkB n X.B i k bs j = _; unfold tkB; rw [foB_other hj, stB_other hj, upd_other _ _ _ _ hj], by show (tkB n X.B i k bs i).refs = 1; unfold tkB; rw [foB_refs, stB_refs, upd_same], by
    show (tkB n X.B i k bs i).head.length ≤ 104
    unfold tkB
    exact foB_head _ (stB_head _ _ (by rw [upd_same]; exact Nat.zero_le _))⟩

/-- what takes leaves -/
def TakesP (ρ : Nat → Nat) (w : World) (x : Nat) (q k : Bl) (n : Nat) (X Y : Rg) (tv cv ov : Value) (Cm Mn : List Int) (e : Ending) (w' : World) : Prop :=
  ∃ b ρ' mv' X' Y' Mn', e = .returned (.bool b) ∧ Two ρ' w' x q k n X' Y' tv cv ov mv' Cm Mn' ∧ Mv ρ w ρ' w' ∧ (X' = X ∨ ∃ i, Tk n X X' i) ∧ (Y' = Y ∨ ∃ i, Tk n Y Y' i) ∧ (Mn' = Mn ∨ ∃ i : Nat, Tk n X X' i ∧ Tk n Y Y' i ∧ Mn' = Mn ++ [(i : Int)]) ∧ (X = Y → b = true ∧ X' = Y')

section
variable {ρ : Nat → Nat} {w : World} {x : Nat} {q k : Bl} {n : Nat} {X Y : Rg} {tv cv ov mv : Value} {Cm Mn : List Int}
/-- the program's pool has turned -/
theorem Two.pool {w' : World} {B' : Nat → Buf} (h : Two ρ w x q k n X Y tv cv ov mv Cm Mn) (hb : But (Only q.g) w w') (hp : PoolAt w' q.p q.g n B') : Two ρ w' x q k n ⟨X.D, B', X.s, X.c⟩ Y tv cv ov mv Cm Mn ∧ Mv ρ w ρ w' :=
  ⟨h.prog (hb.mono (fun g e => .inr (.inl e))) (h.p.p.onPool hb hp), Mv.of h.lt hb (fun g e => by have e : g = q.g := e; rw [e, h.q3]; omega)⟩
/-- the document's pool has turned -/
theorem Two.rpool {w' : World} {B' : Nat → Buf} (h : Two ρ w x q k n X Y tv cv ov mv Cm Mn) (hb : But (Only k.g) w w') (hp : RPool (fun g => ρ g ≠ 0) w' k.p k.g n B') : Two ρ w' x q k n X ⟨Y.D, B', Y.s, Y.c⟩ tv cv ov mv Cm Mn ∧ Mv ρ w ρ w' := by
  obtain ⟨r, nn⟩ := RQ.onPool h.r hb hp
  have t := h.ref nn (Y' := ⟨Y.D, B', Y.s, Y.c⟩) r
  exact ⟨t, Mv.nx nn t.lt⟩

set_option maxRecDepth 100000 in
set_option maxHeartbeats 2000000 in
theorem takes_no (h : Two ρ w x q k n X Y tv cv ov mv Cm Mn) (ho : ∀ i, gt n X.B = some i → gt n Y.B ≠ some i) (kd kk : Int) (bv : Value) (hbv : ∃ a m c, bv = .slice a m c) (ys : Bool) :
    Calls Try.prog 34 #[.pointer (some ⟨x, 0, none⟩), .agg #[.int .i64 kd, .int .i64 kk, bv, .bool ys]] w (TakesP ρ w x q k n X Y tv cv ov Cm Mn) := by
  obtain ⟨ba, bm, bc, rfl⟩ := hbv
  have bA : Below w.heap.size w (w.alloc (.cells #[.int .i64 kd, .int .i64 kk, .slice ba bm bc, .bool ys] 29)) := (Below.refl _ _).alloc (Nat.le_refl _) _
  have h0 := h.later bA
  have m0 := Mv.below h.lt bA
  have c1 := h0.p.c1
  have T0 := hide h0
  have M0 := hide m0
  clear bA h h0 m0
  cases hX : gt n X.B with
  | none =>
    have XG := hide (Get_no T0.out.p.p.pool (gt_none hX))
    cases hY : gt n Y.B with
    | none =>
      have YG := hide (rGet_no (RQ.rf T0.out.r).pool (gt_none hY))
      have c4 := T0.out.c4
      have F : Hid (TakesP ρ w x q k n X Y tv cv ov Cm Mn (.returned (.bool true)) (w.alloc (.cells #[.int .i64 kd, .int .i64 kk, .slice ba bm bc, .bool ys] 29))) := ⟨true, ρ, mv, X, Y, Mn, rfl, T0.out, M0.out, .inl rfl, .inl rfl, .inl rfl, fun e => ⟨rfl, e⟩⟩
      go_enter Try.func34, Try.ntmps34
      go_wp2_with fail
      refine XG.out.mono ?_
      rintro _ w1 ⟨rfl, hw⟩
      have hw' := hw.symm
      subst hw'
      go_wp2_with fail
      refine YG.out.mono ?_
      rintro _ w2 ⟨rfl, hw⟩
      have hw' := hw.symm
      subst hw'
      go_wp2
      go_ret
      exact F.out
    | some j =>
      obtain ⟨hj, j0, jl⟩ := gt_some hY
      have YG := hide (rGet_yes (RQ.rf T0.out.r).pool j hj j0 jl)
      have c4 := T0.out.c4
      have FIN : Hid (∀ w', But (Only k.g) (w.alloc (.cells #[.int .i64 kd, .int .i64 kk, .slice ba bm bc, .bool ys] 29)) w' → RPool (fun g => ρ g ≠ 0) w' k.p k.g n (upd Y.B j ⟨1, [], []⟩) → TakesP ρ w x q k n X Y tv cv ov Cm Mn (.returned (.bool false)) w') := fun w' hb hp => by
        obtain ⟨t, mm⟩ := T0.out.rpool hb hp
        exact ⟨false, ρ, mv, X, _, Mn, rfl, t, M0.out.trans mm, .inl rfl, .inr ⟨j, Tk.get hY⟩, .inl rfl, fun e => by rw [e, hY] at hX; cases hX⟩
      clear j0 jl hX hY
      go_enter Try.func34, Try.ntmps34
      go_wp2_with fail
      refine XG.out.mono ?_
      rintro _ w1 ⟨rfl, hw⟩
      have hw' := hw.symm
      subst hw'
      go_wp2_with fail
      refine YG.out.mono ?_
      rintro _ w2 ⟨rfl, p2, b2⟩
      have F := hide (FIN.out w2 b2 p2)
      clear p2 b2 FIN
      by_cases e : (j : Int) = 0
      · have e2 : ((0 : Int) == (j : Int)) = true := by rw [beq_iff_eq]; omega
        have e3 : j = 0 := by omega
        subst e3
        go_wp2
        go_ret
        exact F.out
      · have e2 : ((0 : Int) == (j : Int)) = false := by rw [beq_eq_false_iff_ne]; omega
        go_wp2
        go_ret
        exact F.out
  | some i =>
    obtain ⟨hi, i0, il⟩ := gt_some hX
    have XG := hide (Get_yes T0.out.p.p.pool i hi i0 il)
    cases hY : gt n Y.B with
    | none =>
      have FIN : Hid (∀ w', Two ρ w' x q k n ⟨X.D, upd X.B i ⟨1, [], []⟩, X.s, X.c⟩ Y tv cv ov mv Cm Mn → Mv ρ w ρ w' → TakesP ρ w x q k n X Y tv cv ov Cm Mn (.returned (.bool false)) w') := fun w' t mm =>
        ⟨false, ρ, mv, _, Y, Mn, rfl, t, mm, .inr ⟨i, Tk.get hX⟩, .inl rfl, .inl rfl, fun e => by rw [← e, hX] at hY; cases hY⟩
      have YN := hide (gt_none hY)
      clear i0 il hX hY
      go_enter Try.func34, Try.ntmps34
      go_wp2_with fail
      refine XG.out.mono ?_
      rintro _ w1 ⟨rfl, p1, b1⟩
      obtain ⟨t1, m1⟩ := T0.out.pool b1 p1
      have F := hide (FIN.out w1 t1 (M0.out.trans m1))
      have YG := hide (rGet_no (RQ.rf t1.r).pool YN.out)
      have c4 := t1.c4
      clear t1 m1 p1 b1 FIN T0 M0 c1
      go_wp2_with fail
      refine YG.out.mono ?_
      rintro _ w2 ⟨rfl, hw⟩
      have hw' := hw.symm
      subst hw'
      by_cases e : (i : Int) = 0
      · have e3 : i = 0 := by omega
        subst e3
        go_wp2
        go_ret
        exact F.out
      · have e2 : ((i : Int) == (0 : Int)) = false := by rw [beq_eq_false_iff_ne]; omega
        go_wp2
        go_ret
        exact F.out
    | some j =>
      obtain ⟨hj, j0, jl⟩ := gt_some hY
      have hij : i ≠ j := fun e => ho i hX (by rw [hY, e])
      have FIN : Hid (∀ w', Two ρ w' x q k n ⟨X.D, upd X.B i ⟨1, [], []⟩, X.s, X.c⟩ ⟨Y.D, upd Y.B j ⟨1, [], []⟩, Y.s, Y.c⟩ tv cv ov mv Cm Mn → Mv ρ w ρ w' → TakesP ρ w x q k n X Y tv cv ov Cm Mn (.returned (.bool false)) w') := fun w' t mm =>
        ⟨false, ρ, mv, _, _, Mn, rfl, t, mm, .inr ⟨i, Tk.get hX⟩, .inr ⟨j, Tk.get hY⟩, .inl rfl, fun e => by rw [← e, hX] at hY; exact absurd (Option.some.inj hY) hij⟩
      have YN := hide (And.intro hj (And.intro j0 jl))
      clear i0 il hX hY j0 jl
      go_enter Try.func34, Try.ntmps34
      go_wp2_with fail
      refine XG.out.mono ?_
      rintro _ w1 ⟨rfl, p1, b1⟩
      obtain ⟨t1, m1⟩ := T0.out.pool b1 p1
      have T1 := hide t1
      have M1 := hide (M0.out.trans m1)
      have YG := hide (rGet_yes (RQ.rf t1.r).pool j YN.out.1 YN.out.2.1 YN.out.2.2)
      have c4 := t1.c4
      clear t1 m1 p1 b1 T0 M0 c1
      go_wp2_with fail
      refine YG.out.mono ?_
      rintro _ w2 ⟨rfl, p2, b2⟩
      obtain ⟨t2, m2⟩ := T1.out.rpool b2 p2
      have F := hide (FIN.out w2 t2 (M1.out.trans m2))
      have e2 : ((i : Int) == (j : Int)) = false := by rw [beq_eq_false_iff_ne]; omega
      clear t2 m2 p2 b2 FIN T1 M1 c4
      go_wp2
      go_ret
      exact F.out
end
end Go.Proofs.Ytjkfjijnjkpbbaa
