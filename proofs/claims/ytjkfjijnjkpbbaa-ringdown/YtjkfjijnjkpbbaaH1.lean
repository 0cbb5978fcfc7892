
/-
  The document's ring: begin and New, as far as a beginning goes.
-/
import Derived.Test.YtjkfjijnjkpbbaaG12
import Derived.Test.YtjkfjijnjkpbbaaL4
namespace Go.Proofs.Ytjkfjijnjkpbbaa
open Go.RowKit

/-- the document's ring in memory: its device, its pool, its six cells -/
structure Rf (A : Nat → Prop) (W : World) (k : Bl) (n : Nat) (D : Dev) (B : Nat → Buf) (tv cv : Value) (nx fl : Nat) : Prop where
  dev : DevAt LR A W k.d D
  ok : D.Ok
  pool : RPool A W k.p k.g n B
  c0 : W.cell? ⟨k.r, 0, none⟩ = some (.pointer (some ⟨k.d, 0, none⟩))
  c1 : W.cell? ⟨k.r, 1, none⟩ = some (.pointer (some ⟨k.p, 0, none⟩))
  c2 : W.cell? ⟨k.r, 2, none⟩ = some tv
  c3 : W.cell? ⟨k.r, 3, none⟩ = some cv
  c4 : W.cell? ⟨k.r, 4, none⟩ = some (.int .i64 (nx : Int))
  c5 : W.cell? ⟨k.r, 5, none⟩ = some (.int .i64 (fl : Int))
  fz : ∀ j, W.frozen? ⟨k.r, j, none⟩ = false
  ar : A k.r
  dp : k.d ≠ k.p
  dg : k.d ≠ k.g
  dr : k.d ≠ k.r
  pr : k.p ≠ k.r
  gr : k.g ≠ k.r

section
variable {A : Nat → Prop} {W W' : World} {k : Bl} {n : Nat} {D D' : Dev} {B B' : Nat → Buf} {tv cv tv' cv' : Value} {nx fl nx' fl' : Nat}
theorem Rf.rlt (h : Rf A W k n D B tv cv nx fl) : k.r < W.heap.size := World.block_lt_of_cell? W _ h.c0
theorem Rf.but {K : Nat → Prop} (h : Rf A W k n D B tv cv nx fl) (hb : But K W W') (hk : ∀ g, K g → A g) (n1 : ¬ K k.d) (n2 : ¬ K k.p) (n3 : ¬ K k.g) (n4 : ¬ K k.r) : Rf A W' k n D B tv cv nx fl :=
  have key : ∀ j, W'.cell? ⟨k.r, j, none⟩ = W.cell? ⟨k.r, j, none⟩ := fun j => hb.cell (p := ⟨k.r, j, none⟩) h.rlt n4
  ⟨h.dev.but hb hk n1, h.ok, h.pool.but hb n2 n3 hk, (key 0).trans h.c0, (key 1).trans h.c1, (key 2).trans h.c2, (key 3).trans h.c3, (key 4).trans h.c4, (key 5).trans h.c5, fun j => (hb.frozen (p := ⟨k.r, j, none⟩) h.rlt n4).trans (h.fz j), h.ar, h.dp, h.dg, h.dr, h.pr, h.gr⟩
theorem Rf.later (h : Rf A W k n D B tv cv nx fl) (hb : Below W.heap.size W W') : Rf A W' k n D B tv cv nx fl := h.but (K := fun _ => False) (But.of_below hb) (fun _ e => e.elim) id id id id
theorem Rf.onDev (h : Rf A W k n D B tv cv nx fl) (hb : But (Only k.d) W W') (hd : DevAt LR A W' k.d D') (ok : D'.Ok) : Rf A W' k n D' B tv cv nx fl :=
  have nr : ¬ Only k.d k.r := fun e => h.dr e.symm
  have key : ∀ j, W'.cell? ⟨k.r, j, none⟩ = W.cell? ⟨k.r, j, none⟩ := fun j => hb.cell (p := ⟨k.r, j, none⟩) h.rlt nr
  ⟨hd, ok, h.pool.but hb (fun e => h.dp e.symm) (fun e => h.dg e.symm) (fun _ e => e ▸ h.dev.mem), (key 0).trans h.c0, (key 1).trans h.c1, (key 2).trans h.c2, (key 3).trans h.c3, (key 4).trans h.c4, (key 5).trans h.c5, fun j => (hb.frozen (p := ⟨k.r, j, none⟩) h.rlt nr).trans (h.fz j), h.ar, h.dp, h.dg, h.dr, h.pr, h.gr⟩
theorem Rf.onPool (h : Rf A W k n D B tv cv nx fl) (hb : But (Only k.g) W W') (hp : RPool A W' k.p k.g n B') : Rf A W' k n D B' tv cv nx fl :=
  have nr : ¬ Only k.g k.r := fun e => h.gr e.symm
  have key : ∀ j, W'.cell? ⟨k.r, j, none⟩ = W.cell? ⟨k.r, j, none⟩ := fun j => hb.cell (p := ⟨k.r, j, none⟩) h.rlt nr
  ⟨h.dev.but hb (fun _ e => e ▸ h.pool.ag) (fun e => h.dg e), h.ok, hp, (key 0).trans h.c0, (key 1).trans h.c1, (key 2).trans h.c2, (key 3).trans h.c3, (key 4).trans h.c4, (key 5).trans h.c5, fun j => (hb.frozen (p := ⟨k.r, j, none⟩) h.rlt nr).trans (h.fz j), h.ar, h.dp, h.dg, h.dr, h.pr, h.gr⟩
theorem Rf.store (h : Rf A W k n D B tv cv nx fl) (j : Nat) (v : Value)
    (h2 : (if j = 2 then v else tv) = tv') (h3 : (if j = 3 then v else cv) = cv') (h4 : (if j = 4 then v else .int .i64 (nx : Int)) = .int .i64 (nx' : Int)) (h5 : (if j = 5 then v else .int .i64 (fl : Int)) = .int .i64 (fl' : Int)) (hj : 2 ≤ j) : Rf A (W.setCell ⟨k.r, j, none⟩ v) k n D B tv' cv' nx' fl' := by
  have b1 : But (Only k.r) W (W.setCell ⟨k.r, j, none⟩ v) := (But.refl _ _).cellb _ _
  have key : ∀ i u u', W.cell? ⟨k.r, i, none⟩ = some u → (if j = i then v else u) = u' → (W.setCell ⟨k.r, j, none⟩ v).cell? ⟨k.r, i, none⟩ = some u' := fun i u u' hu he => by
    by_cases e : j = i
    · subst e
      rw [if_pos rfl] at he
      rw [World.cell?_setCell_same' _ _ _ (by rw [hu]; rfl), he]
    · rw [if_neg e] at he
      rw [setCell_out (fun q => e q.symm), hu, he]
  exact ⟨h.dev.but b1 (fun _ e => e ▸ h.ar) (fun e => h.dr e), h.ok, h.pool.but b1 (fun e => h.pr e) (fun e => h.gr e) (fun _ e => e ▸ h.ar), key 0 _ _ h.c0 (if_neg (by omega)), key 1 _ _ h.c1 (if_neg (by omega)), key 2 _ _ h.c2 h2, key 3 _ _ h.c3 h3, key 4 _ _ h.c4 h4, key 5 _ _ h.c5 h5, fun i => (World.frozen?_setCell ..).trans (h.fz i), h.ar, h.dp, h.dg, h.dr, h.pr, h.gr⟩
end

def lenV : Value → Nat
  | .slice _ n _ => n
  | _ => 0

/-- between the rounds of a first fill: the row of what lies ready is new -/
structure RfI (A : Nat → Prop) (w : World) (k : Bl) (n N : Nat) (tv : Value) (nx : Nat) (C : List Int) (wr : World) : Prop where
  p : ∃ D B cv fl, Rf A wr k n D B tv cv nx fl ∧ fl < 16 ∧ wr.ownsRow N 3 1 cv C.length (ints C) ∧ C.length ≤ 15
  b : But (fun g => PK k g ∨ N ≤ g) w wr

theorem keep_new {A : Nat → Prop} {W W' : World} {k : Bl} {n : Nat} {D : Dev} {B : Nat → Buf} {tv cv : Value} {nx fl N : Nat} (h : Rf A W k n D B tv cv nx fl) {K : Nat → Prop} (hb : But K W W') (hK : ∀ g, K g → N ≤ g ∧ A g) (hd : k.d < N) (hp : k.p < N) (hg : k.g < N) (hr : k.r < N) : Rf A W' k n D B tv cv nx fl :=
  h.but hb (fun g e => (hK g e).2) (fun e => by have := (hK _ e).1; omega) (fun e => by have := (hK _ e).1; omega) (fun e => by have := (hK _ e).1; omega) (fun e => by have := (hK _ e).1; omega)

set_option maxRecDepth 100000 in
set_option maxHeartbeats 2000000 in
theorem rfill0_any {A : Nat → Prop} {w : World} {k : Bl} {n N : Nat} {tv : Value} {nx : Nat} {C : List Int} (h : RfI A w k n N tv nx C w) (hN : N ≤ w.heap.size) (hA : ∀ g, N ≤ g → A g) (hd : k.d < N) (hp : k.p < N) (hg : k.g < N) (hr : k.r < N) :
    Calls Try.prog 91 #[.pointer (some ⟨k.r, 0, none⟩)] w fun e w' => e = .returned (.tuple #[]) ∧ But (fun g => PK k g ∨ N ≤ g) w w' := by
  have I0 := hide h
  have HA := hide hA
  clear h hA
  go_enter Try.func91, Try.ntmps91
  go_wp2
  go_loopw [2] (fun v2 wr => ∃ (b : Bool) (C : List Int), v2 = .bool b ∧ Hid (RfI A w k n N tv nx C wr)) (fun _ wr => 15 - lenV ((wr.cell? ⟨k.r, 3, none⟩).getD undef))
  case atStart => exact ⟨false, C, rfl, I0.out⟩
  case round =>
    clear I0
    obtain ⟨b, C, rfl, hI⟩ := hrel
    obtain ⟨D, B, cv, fl, hR, hfl, hrow, hC⟩ := hI.out.p
    have c0 := hR.c0
    have c1 := hR.c1
    have c3 := hR.c3
    have c5 := hR.c5
    have zC : (C.length : Int) ≤ 15 := by omega
    have zf : (fl : Int) < 16 := by omega
    obtain ⟨a, cc, rfl, _⟩ := row_shape hrow
    have BB := hide hI.out.b
    have HR := hide hR
    have HROW := hide hrow
    have C3R := hide c3
    have XW : Hid (∀ W, Below wr.heap.size wr W → Calls Try.prog 73 #[.pointer (some ⟨k.d, 0, none⟩), .int .i64 3, .int .i64 (fl : Int)] W fun e w' => e = .returned (.int .i64 (wrE 3 (fl : Int))) ∧ But (fun g => PK k g ∨ N ≤ g) w w') := fun W hb => by
      refine (rWrite_any (HR.out.later hb).dev HR.out.ok 3 _).mono ?_
      rintro e w' ⟨rfl, _, hbd⟩
      exact ⟨rfl, BB.out.trans ((But.of_below hb).trans (hbd.mono (fun g e => .inl (.inl e))))⟩
    have XR : Hid (∀ W D2 B2, Rf A W k n D2 B2 tv (.slice a C.length cc) nx fl → Calls Try.prog 98 #[.pointer (some ⟨k.d, 0, none⟩), .int .i64 (fl : Int), .int .i64 274] W fun e w' => (∃ x, e = .returned (.int .i64 x)) ∧ (∃ D3, Rf A w' k n D3 B2 tv (.slice a C.length cc) nx fl) ∧ But (Only k.d) W w') := fun W D2 B2 p => by
      refine (rSetRx_any p.dev p.ok _ _).mono ?_
      rintro e w' ⟨rfl, hdv, hbd⟩
      exact ⟨⟨_, rfl⟩, ⟨_, p.onDev hbd hdv (p.ok.sr _ _)⟩, hbd⟩
    clear hR hI hrow
    by_cases hlt : C.length < 15
    · have zl : (C.length : Int) < 15 := by omega
      cases hgt : gt n B with
      | none =>
        have X := hide (rGet_no HR.out.pool (gt_none hgt))
        go_wp2_with fail
        refine X.out.mono ?_
        rintro _ w1 ⟨rfl, hw⟩
        have hw' := hw.symm
        subst hw'
        clear hw X
        cases b with
        | false =>
          go_wp2_with fail
          go_end0
          exact ⟨rfl, BB.out⟩
        | true =>
          go_upto_region 9 with fail
          have q7 : Below wr.heap.size wr wr.drew := undrew0 (Below.refl _ _)
          go_region_with (go_at_call 73; refine (XW.out wr.drew q7).mono ?_; rintro _ w9 ⟨rfl, b9⟩)
          all_goals go_end0
          all_goals exact ⟨rfl, b9⟩
      | some i =>
        obtain ⟨hi, h0, hl0⟩ := gt_some hgt
        have X := hide (rGet_yes HR.out.pool i hi h0 hl0)
        clear XW
        go_wp2_with fail
        refine X.out.mono ?_
        rintro _ w1 ⟨rfl, hp1, hb1⟩
        have P1 := hide (HR.out.onPool hb1 hp1)
        have row1 := row_keep HROW.out hb1 (fun g hg e => by have h1 := (World.ownsRow.lt HROW.out g hg).1; have e : g = k.g := e; omega)
        have B1 := hide (BB.out.trans (hb1.mono (fun g e => .inl (.inr (.inl e)))))
        have ROW1 := hide row1
        clear hp1 hb1 X h0 hl0 c0 c1 c3 c5 BB HROW HR row1 hgt
        go_upto_region 4 with fail
        have c01 := P1.out.c0
        have c51 := P1.out.c5
        have XS := hide (XR.out w1.drew _ _ (P1.out.later (undrew0 (Below.refl _ _))))
        clear XR
        go_cut [2, 3] from 5 to 48 (fun v2 v3 wc => v2 = .bool b ∧ v3 = .int .i64 (i : Int) ∧ Hid ((∃ D3 B3, Rf A wc k n D3 B3 tv (.slice a C.length cc) nx fl) ∧ But (Only k.d) w1 wc))
        case first =>
          go_region_with (go_at_call 98; refine XS.out.mono ?_; rintro _ w9 ⟨⟨x, rfl⟩, p9, b9⟩; have F9 : Hid ((∃ D3 B3, Rf A w9 k n D3 B3 tv (.slice a C.length cc) nx fl) ∧ But (Only k.d) w1 w9) := (by obtain ⟨D3, p9⟩ := p9; exact ⟨⟨D3, _, p9⟩, ((But.refl _ w1).drew).trans b9⟩); clear p9 b9)
          all_goals go_wp2
          all_goals go_meet
          all_goals exact ⟨rfl, rfl, F9.out⟩
        case rest =>
          obtain ⟨rfl, rfl, h5⟩ := hcut
          obtain ⟨⟨D3, B3, p3⟩, b3⟩ := h5.out
          have P3 := hide p3
          have ROW3 := hide (row_keep ROW1.out b3 (fun g hg e => by have h1 := (World.ownsRow.lt ROW1.out g hg).1; have e : g = k.d := e; omega))
          have B3' := hide (B1.out.trans (b3.mono (fun g e => .inl (.inl e))))
          have c53 := p3.c5
          have f53 := p3.fz 5
          have EM : ((fl : Int) + 1) % 16 = (((fl + 1) % 16 : Nat) : Int) := by omega
          have P4 := hide (p3.store (tv' := tv) (cv' := .slice a C.length cc) (nx' := nx) (fl' := (fl + 1) % 16) 5 (.int .i64 (((fl : Int) + 1) % 16)) (if_neg (by omega)) (if_neg (by omega)) (if_neg (by omega)) (by rw [if_pos rfl, EM]) (by omega))
          have B4 : Hid (But (fun g => PK k g ∨ N ≤ g) w (wc.setCell ⟨k.r, 5, none⟩ (.int .i64 (((fl : Int) + 1) % 16)))) := B3'.out.setCell (p := ⟨k.r, 5, none⟩) (.inr (.inl (.inr (.inr rfl)))) _
          have ROW4 : Hid ((wc.setCell ⟨k.r, 5, none⟩ (.int .i64 (((fl : Int) + 1) % 16))).ownsRow N 3 1 (.slice a C.length cc) C.length (ints C)) := row_keep ROW3.out ((But.refl (Only k.r) _).cellb _ _) (fun g hg e => by have h1 := (World.ownsRow.lt ROW3.out g hg).1; have e : g = k.r := e; omega)
          clear EM h5 p3 b3 XS c01 c51 P1 B1 ROW1 ROW3 B3' P3
          go_upto_region 6 with fail
          clear c53 f53
          generalize wc.setCell ⟨k.r, 5, none⟩ (.int .i64 (((fl : Int) + 1) % 16)) = w4 at *
          have hN4 : N ≤ w4.heap.size := Nat.le_trans hN B4.out.size
          obtain ⟨g', c', w5, hrun, ho5, hb5, hg5, hNg, hlt5⟩ := more_int ROW4.out (i : Int) hN4 (by omega)
          have P5 := hide (keep_new P4.out hb5 (fun g e => ⟨(World.ownsRow.lt ROW4.out g e).1, HA.out g (World.ownsRow.lt ROW4.out g e).1⟩) hd hp hg hr)
          have c34 := P4.out.c3
          have c35 := P5.out.c3
          have f35 := P5.out.fz 3
          have P6 := hide (P5.out.store (tv' := tv) (cv' := .slice (some ⟨g', 0, none⟩) (C.length + 1) c') (nx' := nx) (fl' := (fl + 1) % 16) 3 (.slice (some ⟨g', 0, none⟩) (C.length + 1) c') (if_neg (by omega)) (if_pos rfl) (if_neg (by omega)) (if_neg (by omega)) (by omega))
          have B6 : Hid (But (fun g => PK k g ∨ N ≤ g) w (w5.setCell ⟨k.r, 3, none⟩ (.slice (some ⟨g', 0, none⟩) (C.length + 1) c'))) := (B4.out.trans (hb5.mono (fun g e => .inr (World.ownsRow.lt ROW4.out g e).1))).setCell (p := ⟨k.r, 3, none⟩) (.inr (.inl (.inr (.inr rfl)))) _
          have ROW6 : Hid ((w5.setCell ⟨k.r, 3, none⟩ (.slice (some ⟨g', 0, none⟩) (C.length + 1) c')).ownsRow N 3 1 (.slice (some ⟨g', 0, none⟩) (C.length + 1) c') (C ++ [(i : Int)]).length (ints (C ++ [(i : Int)]))) := row_keep ho5 ((But.refl (Only k.r) _).cellb _ _) (fun g hg' e => by have hg' : some g' = some g := hg'; have e : g = k.r := e; have hg'' := Option.some.inj hg'; omega)
          have HRN := hide hrun
          have M6 : Hid ((w5.setCell ⟨k.r, 3, none⟩ (.slice (some ⟨g', 0, none⟩) (C.length + 1) c')).cell? ⟨k.r, 3, none⟩ = some (.slice (some ⟨g', 0, none⟩) (C.length + 1) c')) := P6.out.c3
          clear hrun ho5 hb5 hg5 P4 B4 ROW4 P5
          go_wp2_with (at_builtin; refine wpList_app rfl _ _ 31 31 rfl _ _ rfl rfl HRN.out ?_)
          go_wp2
          go_roundw
          case rel => exact ⟨true, C ++ [(i : Int)], rfl, ⟨⟨_, _, _, _, P6.out, Nat.mod_lt _ (by omega), ROW6.out, by simp; omega⟩, B6.out⟩⟩
          case measure =>
            rw [M6.out, C3R.out]
            show 15 - (C.length + 1) < 15 - C.length
            omega
    · have zl : ¬ (C.length : Int) < 15 := by omega
      cases b with
      | false =>
        go_wp2_with fail
        go_end0
        exact ⟨rfl, BB.out⟩
      | true =>
        go_upto_region 9 with fail
        have q7 : Below wr.heap.size wr wr.drew := undrew0 (Below.refl _ _)
        go_region_with (go_at_call 73; refine (XW.out wr.drew q7).mono ?_; rintro _ w9 ⟨rfl, b9⟩)
        all_goals go_end0
        all_goals exact ⟨rfl, b9⟩

set_option maxRecDepth 100000 in
set_option maxHeartbeats 1000000 in
theorem rbegin0_any {A : Nat → Prop} {w : World} {k : Bl} {n N : Nat} {D : Dev} {B : Nat → Buf} {tv cv : Value} {nx fl : Nat} (h : Rf A w k n D B tv cv nx fl) (hN : N ≤ w.heap.size) (hA : ∀ g, N ≤ g → A g) (hd : k.d < N) (hp : k.p < N) (hg : k.g < N) (hr : k.r < N) :
    Calls Try.prog 67 #[.pointer (some ⟨k.r, 0, none⟩)] w fun e w' => e = .returned (.tuple #[]) ∧ But (fun g => PK k g ∨ N ≤ g) w w' := by
  have X1 := hide (rWrite_any h.dev h.ok 0 2)
  have c0 := h.c0
  have H := hide h
  have HA := hide hA
  have H4 := hide (And.intro hd (And.intro hp (And.intro hg hr)))
  clear h hA hd hp hg hr
  go_enter Try.func67, Try.ntmps67
  go_wp2_with fail
  refine X1.out.mono ?_
  rintro _ w1 ⟨rfl, d1, b1⟩
  have P1 := hide (H.out.onDev b1 d1 (H.out.ok.wr 0 2))
  have B1 : Hid (But (fun g => PK k g ∨ N ≤ g) w w1) := b1.mono (fun g e => .inl (.inl e))
  have c01 := P1.out.c0
  have X2 := hide (rWrite_any P1.out.dev P1.out.ok 0 1)
  clear d1 b1 X1 H c0
  go_wp2_with fail
  refine X2.out.mono ?_
  rintro _ w2 ⟨rfl, d2, b2⟩
  have P2 := hide (P1.out.onDev b2 d2 (P1.out.ok.wr 0 1))
  have B2 : Hid (But (fun g => PK k g ∨ N ≤ g) w w2) := B1.out.trans (b2.mono (fun g e => .inl (.inl e)))
  clear d2 b2 X2 P1 c01 B1
  have c2 := P2.out.c2
  have f2 := P2.out.fz 2
  have P3 := hide (P2.out.store (tv' := .slice none 0 0) (cv' := cv) (nx' := nx) (fl' := fl) 2 (.slice none 0 0) (if_pos rfl) (if_neg (by omega)) (if_neg (by omega)) (if_neg (by omega)) (by omega))
  have B3 : Hid (But (fun g => PK k g ∨ N ≤ g) w (w2.setCell ⟨k.r, 2, none⟩ (.slice none 0 0))) := B2.out.setCell (p := ⟨k.r, 2, none⟩) (.inr (.inl (.inr (.inr rfl)))) _
  go_upto_region 3 with fail
  clear c2 f2 P2 B2
  generalize w2.setCell ⟨k.r, 2, none⟩ (.slice none 0 0) = w3 at *
  have c3 := P3.out.c3
  have f3 := P3.out.fz 3
  have P4 := hide (P3.out.store (tv' := .slice none 0 0) (cv' := .slice none 0 0) (nx' := nx) (fl' := fl) 3 (.slice none 0 0) (if_neg (by omega)) (if_pos rfl) (if_neg (by omega)) (if_neg (by omega)) (by omega))
  have B4 : Hid (But (fun g => PK k g ∨ N ≤ g) w (w3.setCell ⟨k.r, 3, none⟩ (.slice none 0 0))) := B3.out.setCell (p := ⟨k.r, 3, none⟩) (.inr (.inl (.inr (.inr rfl)))) _
  go_upto_region 4 with fail
  clear c3 f3 P3 B3
  generalize w3.setCell ⟨k.r, 3, none⟩ (.slice none 0 0) = w4 at *
  have c4 := P4.out.c4
  have f4 := P4.out.fz 4
  have P5 := hide (P4.out.store (tv' := .slice none 0 0) (cv' := .slice none 0 0) (nx' := 0) (fl' := fl) 4 (.int .i64 0) (if_neg (by omega)) (if_neg (by omega)) (if_pos rfl) (if_neg (by omega)) (by omega))
  have B5 : Hid (But (fun g => PK k g ∨ N ≤ g) w (w4.setCell ⟨k.r, 4, none⟩ (.int .i64 0))) := B4.out.setCell (p := ⟨k.r, 4, none⟩) (.inr (.inl (.inr (.inr rfl)))) _
  go_upto_region 5 with fail
  clear c4 f4 P4 B4
  generalize w4.setCell ⟨k.r, 4, none⟩ (.int .i64 0) = w5 at *
  have c5 := P5.out.c5
  have f5 := P5.out.fz 5
  have P6 := hide (P5.out.store (tv' := .slice none 0 0) (cv' := .slice none 0 0) (nx' := 0) (fl' := 0) 5 (.int .i64 0) (if_neg (by omega)) (if_neg (by omega)) (if_neg (by omega)) (if_pos rfl) (by omega))
  have B6 : Hid (But (fun g => PK k g ∨ N ≤ g) w (w5.setCell ⟨k.r, 5, none⟩ (.int .i64 0))) := B5.out.setCell (p := ⟨k.r, 5, none⟩) (.inr (.inl (.inr (.inr rfl)))) _
  go_upto_region 6 with fail
  clear c5 f5 P5 B5
  generalize w5.setCell ⟨k.r, 5, none⟩ (.int .i64 0) = w6 at *
  have XF := hide (rfill0_any (C := []) ⟨⟨_, _, _, _, P6.out, by omega, World.ownsRow_nil _ _ _ _, by simp⟩, But.refl _ _⟩ (Nat.le_trans hN B6.out.size) HA.out H4.out.1 H4.out.2.1 H4.out.2.2.1 H4.out.2.2.2)
  go_wp2_with fail
  refine XF.out.mono ?_
  rintro _ w7 ⟨rfl, b7⟩
  have B7 := hide (B6.out.trans b7)
  clear b7 XF P6 B6
  go_wp2
  go_end0
  exact ⟨rfl, B7.out⟩

set_option maxRecDepth 100000 in
set_option maxHeartbeats 1000000 in
theorem rringNew_any {A : Nat → Prop} {w : World} {d p g n : Nat} {D : Dev} {B : Nat → Buf} (hd : DevAt LR A w d D) (hp : RPool A w p g n B) (hdp : d ≠ p) (hdg : d ≠ g) (ok : D.Ok) :
    Calls Try.prog 33 #[.pointer (some ⟨d, 0, none⟩), .pointer (some ⟨p, 0, none⟩)] w fun e w' => e = .returned (.pointer (some ⟨w.heap.size, 0, none⟩)) ∧ But (fun x => x = d ∨ x = g) w w' := by
  have bA : But (fun _ => False) w (w.alloc (.cells #[.pointer (some ⟨d, 0, none⟩), .pointer (some ⟨p, 0, none⟩), .slice none 0 0, .slice none 0 0, .int .i64 0, .int .i64 0] 87)) := (But.refl _ _).alloc _
  have cz : ∀ k v, (#[.pointer (some ⟨d, 0, none⟩), .pointer (some ⟨p, 0, none⟩), .slice none 0 0, .slice none 0 0, .int .i64 0, .int .i64 0] : Array Value)[k]? = some v → (w.alloc (.cells #[.pointer (some ⟨d, 0, none⟩), .pointer (some ⟨p, 0, none⟩), .slice none 0 0, .slice none 0 0, .int .i64 0, .int .i64 0] 87)).cell? ⟨w.heap.size, k, none⟩ = some v := fun k v hv => by
    rw [cell_of_row _ w.heap.size k _ 87 (0, 0) (heap_alloc_new w _)]; exact hv
  have hdl := hd.lt
  have hpl := hp.blt
  have hgl := hp.glt
  have P0 : Rf (fun x => A x ∨ w.heap.size ≤ x) (w.alloc (.cells #[.pointer (some ⟨d, 0, none⟩), .pointer (some ⟨p, 0, none⟩), .slice none 0 0, .slice none 0 0, .int .i64 0, .int .i64 0] 87)) ⟨d, p, g, w.heap.size⟩ n D B (.slice none 0 0) (.slice none 0 0) 0 0 :=
    ⟨(hd.avoid (fun x hx e => e.elim id (fun e => by omega)) (.inl hd.mem)).but bA (fun _ e => e.elim) id, ok, (hp.avoid (fun x hx e => e.elim id (fun e => by omega)) (.inl hp.ag)).but bA id id (fun _ e => e.elim), cz 0 _ rfl, cz 1 _ rfl, cz 2 _ rfl, cz 3 _ rfl, cz 4 _ rfl, cz 5 _ rfl, fun k => frozen_new _ _ _ _, .inr (Nat.le_refl _), hdp, hdg, by show d ≠ w.heap.size; omega, by show p ≠ w.heap.size; omega, by show g ≠ w.heap.size; omega⟩
  have X := hide (rbegin0_any (N := w.heap.size + 1) P0 (by simp) (fun x hx => .inr (by omega)) (by show d < _; omega) (by show p < _; omega) (by show g < _; omega) (by show w.heap.size < _; omega))
  have B0 := hide bA
  clear bA cz P0 hd hp ok
  go_enter Try.func33, Try.ntmps33
  go_wp2_with fail
  refine X.out.mono ?_
  rintro _ w5 ⟨rfl, b5⟩
  have B5 : Hid (But (fun x => x = d ∨ x = g) w w5) := (B0.out.mono (fun _ e => e.elim)).trans' b5 (fun x hx e => by
    rcases e with (e | e | e) | e
    · exact .inl e
    · exact .inr e
    · have e : x = w.heap.size := e
      omega
    · omega)
  clear b5 X B0
  go_wp2
  go_ret
  exact ⟨rfl, B5.out⟩
end Go.Proofs.Ytjkfjijnjkpbbaa
