
/-
  The document's Same, where two heads are the same; Fits.
-/
import Derived.Test.YtiglejmmdghmgaaI14
namespace Go.Proofs.Ytiglejmmdghmgaa
open Go.RowKit Go.Shelf

set_option maxRecDepth 100000 in
set_option maxHeartbeats 4000000 in
theorem Same_true (p : Pk) (ov uv : Value) (w : World) (ho : IsB w.heap.size w ov p.opts) (hu : IsB w.heap.size w uv p.opts) :
    Calls Try.prog 14 #[.agg (p.cells ov).toArray, .agg (p.cells uv).toArray] w fun e w' => e = .returned (.bool true) ∧ Below w.heap.size w w' := by
  obtain ⟨s, hs⟩ : ∃ s, s = w.heap.size := ⟨_, rfl⟩
  obtain ⟨X, hX⟩ : ∃ X, X = p.cells ov := ⟨_, rfl⟩
  obtain ⟨Y, hY⟩ : ∃ Y, Y = p.cells uv := ⟨_, rfl⟩
  have lX : X.length = 16 := by rw [hX]; rfl
  have lY : Y.length = 16 := by rw [hY]; rfl
  rw [← hX, ← hY]
  obtain ⟨w1, hw1⟩ : ∃ w1, w1 = (w.alloc (.cells X.toArray 26)).alloc (.cells Y.toArray 26) := ⟨_, rfl⟩
  have b1 : Below w.heap.size w w1 := by rw [hw1]; exact ((Below.refl _ w).alloc (Nat.le_refl _) _).alloc (by simp) _
  have cx : CellsAt w1 s 0 (p.cells ov) := by
    rw [hw1, hs, ← hX]
    exact (CellsAt.new w X 26).but (by simp) ((But.refl (fun _ => False) _).alloc _) id
  have cy : CellsAt w1 (s + 1) 0 (p.cells uv) := by
    have := CellsAt.new (w.alloc (.cells X.toArray 26)) Y 26
    rw [World.size_alloc, ← hs] at this
    rw [hw1, ← hY]; exact this
  have so := conv_str (ho.later b1)
  have su := conv_str (hu.later b1)
  have x0 := cx 0 _ rfl
  have y0 := cy 0 _ rfl
  have x1 := cx 1 _ rfl
  have y1 := cy 1 _ rfl
  have x2 := cx 2 _ rfl
  have y2 := cy 2 _ rfl
  have x3 := cx 3 _ rfl
  have y3 := cy 3 _ rfl
  have x4 := cx 4 _ rfl
  have y4 := cy 4 _ rfl
  have x5 := cx 5 _ rfl
  have y5 := cy 5 _ rfl
  have x6 := cx 6 _ rfl
  have y6 := cy 6 _ rfl
  have x7 := cx 7 _ rfl
  have y7 := cy 7 _ rfl
  have x8 := cx 8 _ rfl
  have y8 := cy 8 _ rfl
  have x9 := cx 9 _ rfl
  have y9 := cy 9 _ rfl
  have x10 := cx 10 _ rfl
  have y10 := cy 10 _ rfl
  have x11 := cx 11 _ rfl
  have y11 := cy 11 _ rfl
  have x12 := cx 12 _ rfl
  have y12 := cy 12 _ rfl
  have x13 := cx 13 _ rfl
  have y13 := cy 13 _ rfl
  have x14 := cx 14 _ rfl
  have y14 := cy 14 _ rfl
  have x15 := cx 15 _ rfl
  have y15 := cy 15 _ rfl
  simp only [Nat.zero_add] at x0 y0 x1 y1 x2 y2 x3 y3 x4 y4 x5 y5 x6 y6 x7 y7 x8 y8 x9 y9 x10 y10 x11 y11 x12 y12 x13 y13 x14 y14 x15 y15
  have EI := eq_ip
  have m1 : eqI ⟨p.src.a, p.src.b, p.src.c, p.src.d⟩ ⟨p.src.a, p.src.b, p.src.c, p.src.d⟩ = true := eqI_self _
  have m2 : eqI ⟨p.dst.a, p.dst.b, p.dst.c, p.dst.d⟩ ⟨p.dst.a, p.dst.b, p.dst.c, p.dst.d⟩ = true := eqI_self _
  have HB : Hid (Below s w w1) := by rw [hs]; exact b1
  have HB2 := hide b1
  obtain ⟨SO, hSO⟩ : ∃ SO, SO = strB p.opts := ⟨_, rfl⟩
  rw [← hSO] at so su
  clear hX hY cx cy b1 ho hu hSO
  go_enter Try.func14, Try.ntmps14
  have hw1' := hw1.symm
  have hs' := hs.symm
  clear hw1 hs
  go_wp2
  go_ret
  exact ⟨rfl, by first | exact HB2.out | exact HB.out⟩
set_option maxHeartbeats 1000000 in
theorem Fits_any (x : I4) (w : World) (hx : x.Ok) : Calls Try.prog 17 #[x.val] w fun e w' => e = .returned (.bool (decide (1 ≤ x.a ∧ x.a ≤ 223) && !decide (x.a = 127))) ∧ Below w.heap.size w w' := by
  obtain ⟨s, hs⟩ : ∃ s, s = w.heap.size := ⟨_, rfl⟩
  obtain ⟨w1, hw1⟩ : ∃ w1, w1 = w.alloc (.cells #[.int .u8 x.a, .int .u8 x.b, .int .u8 x.c, .int .u8 x.d] 23) := ⟨_, rfl⟩
  have b1 : Below w.heap.size w w1 := by rw [hw1]; exact later_alloc _ _
  have c1 : CellsAt w1 s 0 x.vals := by rw [hw1, hs]; exact CellsAt.new w x.vals 23
  have x0 := c1 0 _ rfl
  simp only [Nat.zero_add] at x0
  obtain ⟨A0, A1⟩ := hx.1
  have HB := hide b1
  have HB2 : Hid (Below s w w1) := by rw [hs]; exact b1
  have hwrap : IntKind.i64.wrap x.a = x.a := wrapI _ (by omega) (by omega)
  obtain ⟨r, hr⟩ : ∃ r, r = (decide (1 ≤ x.a ∧ x.a ≤ 223) && !decide (x.a = 127)) := ⟨_, rfl⟩
  rw [← hr]
  have HR := hide hr
  clear hr
  rw [show x.val = .agg #[.int .u8 x.a, .int .u8 x.b, .int .u8 x.c, .int .u8 x.d] from rfl]
  clear b1 c1
  go_enter Try.func17, Try.ntmps17
  have hw1' := hw1.symm
  have hs' := hs.symm
  clear hw1 hs
  go_wp2_with fail
  clear hw1' hs'
  refine (within_any _ _ _ _).mono ?_
  rintro _ w2 ⟨rfl, e2⟩
  rw [e2]
  clear e2
  obtain ⟨d1, h1⟩ : ∃ d1, d1 = decide (1 ≤ x.a ∧ x.a ≤ 223) := ⟨_, rfl⟩
  rw [← h1] at HR ⊢
  clear h1
  cases d1 with
  | false =>
    have E : Hid (r = false) := by unfold Hid; rw [HR.out]; rfl
    go_wp2
    go_ret
    exact ⟨by rw [E.out]; rfl, by first | exact HB.out | exact HB2.out⟩
  | true =>
    by_cases h : x.a = 127
    · have q : (x.a != 127) = false := by rw [h]; rfl
      have E : Hid (r = false) := by unfold Hid; rw [HR.out, decide_eq_true h]; rfl
      clear h
      go_wp2
      go_ret
      exact ⟨by rw [E.out]; rfl, by first | exact HB.out | exact HB2.out⟩
    · have q : (x.a != 127) = true := by simpa using h
      have E : Hid (r = true) := by unfold Hid; rw [HR.out, decide_eq_false h]; rfl
      clear h
      go_wp2
      go_ret
      exact ⟨by rw [E.out]; rfl, by first | exact HB.out | exact HB2.out⟩
end Go.Proofs.Ytiglejmmdghmgaa
