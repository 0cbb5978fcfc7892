
/-
  does: Send, Give, Link. does: Take, Tick. does: a call of both. The calls that come in; what holds between them; a buffer that is seen in a variable.
-/
import Derived.Test.YtjkfjijnjkpbbaaS21
import Derived.Deep.RegionHeld3
namespace Go.Proofs.Ytjkfjijnjkpbbaa
open Go.RowKit

set_option maxRecDepth 100000 in
set_option maxHeartbeats 4000000 in
theorem does_1 {ρ : Nat → Nat} {w : World} {x : Nat} {q k : Bl} {n m : Nat} {X Y : Rg} {tv cv ov mv : Value} {Cm Mn : List Int} (h : Two ρ w x q k n X Y tv cv ov mv Cm Mn) (hi : Inv n X Y Cm Mn m) (hm : m ≤ 4398046511104) (hcl : Cm.length ≤ 4398046511104) (hml : Mn.length ≤ 4398046511104) {N : Nat} (hN : ∀ g, ρ g ≠ 0 → N ≤ g) (kk : Int) (ys : Bool) (ba : Option Addr) (bc : Nat) (bs : List Int) (hbl : bs.length ≤ 140737488351232) (hv : IsF (fun g => N ≤ g) w (.slice ba bs.length bc) bs) (hNw : N ≤ w.heap.size) (hcap : bc ≤ maxLen) :
    Calls Try.prog 9 #[.pointer (some ⟨x, 0, none⟩), .agg #[.int .i64 1, .int .i64 kk, .slice ba bs.length bc, .bool ys]] w (DoesP ρ w x q k n m 1 X Y Cm Mn) := by
  have bx : Box ρ N w x w.heap.size q k n X Y tv cv ov mv Cm Mn 1 kk (.slice ba bs.length bc) bs ys (w.alloc (.cells #[.int .i64 1, .int .i64 kk, .slice ba bs.length bc, .bool ys] 29)) := Box.mk' h hv hNw
  have BX := hide bx
  have o0 := bx.o0
  have HI := hide hi
  have HN := hide hN
  have HB : Hid (m ≤ 4398046511104 ∧ Cm.length ≤ 4398046511104 ∧ Mn.length ≤ 4398046511104 ∧ bs.length ≤ 140737488351232 ∧ bc ≤ maxLen) := And.intro hm (And.intro hcl (And.intro hml (And.intro hbl hcap)))
  clear h hi hv hNw hN bx hm hcl hml hbl hcap
  go_enter Try.func9, Try.ntmps9
  go_upto_region 1 with fail
  obtain ⟨so, hso⟩ : ∃ so, so = w.heap.size := ⟨_, rfl⟩
  rw [← hso] at BX o0 ⊢
  generalize w.alloc (.cells #[.int .i64 1, .int .i64 kk, .slice ba bs.length bc, .bool ys] 29) = w0 at *
  clear hso
  obtain ⟨hX, gX, zX, _⟩ := HI.out.x
  obtain ⟨hY, gY, zY, _⟩ := HI.out.y
  obtain ⟨eX, heX⟩ : ∃ e, e = sdE n X.D X.B X.s kk := ⟨_, rfl⟩
  obtain ⟨eY, heY⟩ : ∃ e, e = sdE n Y.D Y.B Y.s kk := ⟨_, rfl⟩
  have KP : Hid (∀ W, But (fun g => ρ g ≠ 0 ∧ ρ g ≠ 13) w0 W → W.cell? ⟨x, 2, none⟩ = some (.pointer (some ⟨q.r, 0, none⟩)) ∧ W.cell? ⟨x, 5, none⟩ = some (.pointer (some ⟨k.r, 0, none⟩)) ∧ W.cell? ⟨so, 1, none⟩ = some (.int .i64 kk)) := fun W hb => ⟨(BX.out.keep hb).1 2 _ BX.out.t.p.c2, (BX.out.keep hb).1 5 _ BX.out.t.c5, (BX.out.keep hb).2 1 _ BX.out.o1⟩
  have XF1 : Hid (∀ W, Below w0.heap.size w0 W → Calls Try.prog 13 #[.pointer (some ⟨q.r, 0, none⟩), .int .i64 kk] W fun e w' => e = .returned (.int .i64 eX) ∧ Two ρ w' x q k n ⟨sdD n X.D X.B X.s kk, sdB n X.D X.B X.s kk, sdS n X.D X.B X.s kk, X.c⟩ Y tv cv ov mv Cm Mn ∧ But (fun g => ρ g ≠ 0 ∧ ρ g ≠ 13) w0 w') := fun W hb => by
    have t := BX.out.t.later hb
    refine (Send_any t.p.p zX.ok t.lt kk HI.out.bx (by have := HB.out.1; omega)).mono ?_
    rintro _ w' ⟨rfl, hp, hbb⟩
    exact ⟨by rw [heX], t.prog hbb hp, (But.of_below hb).trans (hbb.mono (BX.out.t.nx13))⟩
  have XF2 : Hid (∀ W, Two ρ W x q k n ⟨sdD n X.D X.B X.s kk, sdB n X.D X.B X.s kk, sdS n X.D X.B X.s kk, X.c⟩ Y tv cv ov mv Cm Mn → But (fun g => ρ g ≠ 0 ∧ ρ g ≠ 13) w0 W → Calls Try.prog 35 #[.pointer (some ⟨k.r, 0, none⟩), .int .i64 kk] W fun e w' => e = .returned (.int .i64 eY) ∧ DoesP ρ w x q k n m 1 X Y Cm Mn (.returned (.bool (eX == eY))) w' ∧ But (fun g => ρ g ≠ 0 ∧ ρ g ≠ 13) w0 w') := fun W t hb => by
    refine (rSend_any t.r zY.sm HI.out.hy kk HI.out.by' (by have := HB.out.1; omega)).mono ?_
    rintro _ w' ⟨rfl, ρ', tv', cv', hr, hn⟩
    have t2 := t.ref hn hr
    refine ⟨by rw [heY], ⟨_, ρ', tv', cv', _, _, _, _, Cm, Mn, rfl, t2, (BX.out.m.trans (Mv.of BX.out.t.lt hb (fun g e => e.1))).trans (Mv.nx hn t2.lt), ⟨(HI.out.x.sends kk).mono (by omega), (HI.out.y.sends kk).mono (by omega), HI.out.rc, HI.out.rm, HI.out.bx.sd _, HI.out.by'.sd _, by omega, ?_⟩, by omega, fun _ => sd_r1 _, fun e => ?_⟩, hb.trans (hn.but.mono (fun g e => by omega))⟩
    · show HL (sdB n Y.D Y.B Y.s kk)
      unfold sdB; split
      · exact HI.out.hy.ho _
      · exact HI.out.hy
    · subst e; exact ⟨by rw [heX, heY]; simp, rfl⟩
  obtain ⟨c2, c5, o1⟩ := KP.out w0 (But.refl _ _)
  have qd : Below w0.heap.size w0 w0.drew := undrew0 (Below.refl _ _)
  have q0 : But (fun g => ρ g ≠ 0 ∧ ρ g ≠ 13) w0 w0.drew := (But.refl _ _).drew
  clear zX zY heX heY
  go_upto_region 5 with fail
  go_region_held3 (fun W => W.cell? ⟨x, 2, none⟩ = some (.pointer (some ⟨q.r, 0, none⟩)) ∧ W.cell? ⟨x, 5, none⟩ = some (.pointer (some ⟨k.r, 0, none⟩)) ∧ W.cell? ⟨so, 1, none⟩ = some (.int .i64 kk)) (first | exact KP.out _ (by assumption) | assumption) (first
    | (go_at_call 13; refine (XF1.out w0.drew qd).mono ?_; rintro _ w7 ⟨rfl, t7, q7⟩; have T7 := hide t7; clear t7)
    | (go_at_call 35; refine (XF2.out w7 T7.out q7).mono ?_; rintro _ w8 ⟨rfl, t8, q8⟩; have F8 := hide t8; clear t8))
  all_goals go_wp2
  all_goals go_ret
  all_goals exact F8.out
set_option maxRecDepth 100000 in
set_option maxHeartbeats 4000000 in
theorem does_5 {ρ : Nat → Nat} {w : World} {x : Nat} {q k : Bl} {n m : Nat} {X Y : Rg} {tv cv ov mv : Value} {Cm Mn : List Int} (h : Two ρ w x q k n X Y tv cv ov mv Cm Mn) (hi : Inv n X Y Cm Mn m) (hm : m ≤ 4398046511104) (hcl : Cm.length ≤ 4398046511104) (hml : Mn.length ≤ 4398046511104) {N : Nat} (hN : ∀ g, ρ g ≠ 0 → N ≤ g) (kk : Int) (ys : Bool) (ba : Option Addr) (bc : Nat) (bs : List Int) (hbl : bs.length ≤ 140737488351232) (hv : IsF (fun g => N ≤ g) w (.slice ba bs.length bc) bs) (hNw : N ≤ w.heap.size) (hcap : bc ≤ maxLen) :
    Calls Try.prog 9 #[.pointer (some ⟨x, 0, none⟩), .agg #[.int .i64 5, .int .i64 kk, .slice ba bs.length bc, .bool ys]] w (DoesP ρ w x q k n m 5 X Y Cm Mn) := by
  have bx : Box ρ N w x w.heap.size q k n X Y tv cv ov mv Cm Mn 5 kk (.slice ba bs.length bc) bs ys (w.alloc (.cells #[.int .i64 5, .int .i64 kk, .slice ba bs.length bc, .bool ys] 29)) := Box.mk' h hv hNw
  have BX := hide bx
  have o0 := bx.o0
  have HI := hide hi
  have HN := hide hN
  have HB : Hid (m ≤ 4398046511104 ∧ Cm.length ≤ 4398046511104 ∧ Mn.length ≤ 4398046511104 ∧ bs.length ≤ 140737488351232 ∧ bc ≤ maxLen) := And.intro hm (And.intro hcl (And.intro hml (And.intro hbl hcap)))
  clear h hi hv hNw hN bx hm hcl hml hbl hcap
  go_enter Try.func9, Try.ntmps9
  go_upto_region 1 with fail
  obtain ⟨so, hso⟩ : ∃ so, so = w.heap.size := ⟨_, rfl⟩
  rw [← hso] at BX o0 ⊢
  generalize w.alloc (.cells #[.int .i64 5, .int .i64 kk, .slice ba bs.length bc, .bool ys] 29) = w0 at *
  clear hso
  have KP : Hid (∀ W, But (fun g => ρ g ≠ 0 ∧ ρ g ≠ 13) w0 W → W.cell? ⟨x, 0, none⟩ = some (.pointer (some ⟨q.d, 0, none⟩)) ∧ W.cell? ⟨x, 3, none⟩ = some (.pointer (some ⟨k.d, 0, none⟩)) ∧ W.cell? ⟨so, 2, none⟩ = some (.slice ba bs.length bc) ∧ W.cell? ⟨so, 3, none⟩ = some (.bool ys)) := fun W hb => ⟨(BX.out.keep hb).1 0 _ BX.out.t.p.c0, (BX.out.keep hb).1 3 _ BX.out.t.c3, (BX.out.keep hb).2 2 _ BX.out.o2, (BX.out.keep hb).2 3 _ BX.out.o3⟩
  obtain ⟨eX, heX⟩ : ∃ e, e = X.D.gvE bs := ⟨_, rfl⟩
  obtain ⟨eY, heY⟩ : ∃ e, e = Y.D.gvE bs := ⟨_, rfl⟩
  have XF1 : Hid (∀ W, Below w0.heap.size w0 W → Calls Try.prog 16 #[.pointer (some ⟨q.d, 0, none⟩), .slice ba bs.length bc, .bool ys] W fun e w' => e = .returned (.int .i64 eX) ∧ Two ρ w' x q k n ⟨X.D.gvD bs ys, X.B, X.s, X.c⟩ Y tv cv ov mv Cm Mn ∧ But (fun g => ρ g ≠ 0 ∧ ρ g ≠ 13) w0 w') := fun W hb => by
    have t := BX.out.t.later hb
    refine (Give_any (A' := fun g => N ≤ g) t.p.p.dev HI.out.x.ok t.lt _ bs ys (BX.out.v.later hb) (by have := HB.out.2.2.2.1; omega)).mono ?_
    rintro _ w' ⟨rfl, hd, hbb⟩
    exact ⟨by rw [heX], t.prog (hbb.mono (fun g e => .inl e)) (t.p.p.onDev hbb hd), (But.of_below hb).trans (hbb.mono (fun g e => BX.out.t.nx13 g (.inl e)))⟩
  have XF2 : Hid (∀ W, Two ρ W x q k n ⟨X.D.gvD bs ys, X.B, X.s, X.c⟩ Y tv cv ov mv Cm Mn → But (fun g => ρ g ≠ 0 ∧ ρ g ≠ 13) w0 W → Calls Try.prog 40 #[.pointer (some ⟨k.d, 0, none⟩), .slice ba bs.length bc, .bool ys] W fun e w' => e = .returned (.int .i64 eY) ∧ DoesP ρ w x q k n m 5 X Y Cm Mn (.returned (.bool (eX == eY))) w' ∧ But (fun g => ρ g ≠ 0 ∧ ρ g ≠ 13) w0 w') := fun W t hb => by
    have iv := BX.out.v.but hb (fun g e => HN.out g e.1)
    refine (rGive_any (A' := fun g => N ≤ g) (RQ.rf t.r).dev HI.out.y.ok t.lt _ bs ys iv (by have := HB.out.2.2.2.1; omega)).mono ?_
    rintro _ w' ⟨rfl, hd, hbb⟩
    obtain ⟨r, nn⟩ := RQ.onDev t.r hbb hd (HI.out.y.ok.gv _ _)
    have t2 := t.ref nn (Y' := ⟨Y.D.gvD bs ys, Y.B, Y.s, Y.c⟩) r
    exact ⟨by rw [heY], ⟨_, ρ, _, _, _, _, _, _, Cm, Mn, rfl, t2, (BX.out.m.trans (Mv.of BX.out.t.lt hb (fun g e => e.1))).trans (Mv.nx nn t2.lt), HI.out.same (HI.out.x.gives bs ys) (HI.out.y.gives bs ys) rfl rfl, by omega, fun _ => gv_r1 _ _ _, fun e => by subst e; exact ⟨by rw [heX, heY]; simp, rfl⟩⟩, hb.trans (nn.but.mono (fun g e => by omega))⟩
  obtain ⟨c0, c3, o2, o3⟩ := KP.out w0 (But.refl _ _)
  have qd : Below w0.heap.size w0 w0.drew := undrew0 (Below.refl _ _)
  have q0 : But (fun g => ρ g ≠ 0 ∧ ρ g ≠ 13) w0 w0.drew := (But.refl _ _).drew
  clear heX heY
  go_upto_region 16 with fail
  go_region_held3 (fun W => W.cell? ⟨x, 0, none⟩ = some (.pointer (some ⟨q.d, 0, none⟩)) ∧ W.cell? ⟨x, 3, none⟩ = some (.pointer (some ⟨k.d, 0, none⟩)) ∧ W.cell? ⟨so, 2, none⟩ = some (.slice ba bs.length bc) ∧ W.cell? ⟨so, 3, none⟩ = some (.bool ys)) (first | exact KP.out _ (by assumption) | assumption) (first
    | (go_at_call 16; refine (XF1.out w0.drew qd).mono ?_; rintro _ w7 ⟨rfl, t7, q7⟩; have T7 := hide t7; clear t7)
    | (go_at_call 40; refine (XF2.out w7 T7.out q7).mono ?_; rintro _ w8 ⟨rfl, t8, q8⟩; have F8 := hide t8; clear t8))
  all_goals go_wp2
  all_goals go_ret
  all_goals exact F8.out
set_option maxRecDepth 100000 in
set_option maxHeartbeats 4000000 in
theorem does_6 {ρ : Nat → Nat} {w : World} {x : Nat} {q k : Bl} {n m : Nat} {X Y : Rg} {tv cv ov mv : Value} {Cm Mn : List Int} (h : Two ρ w x q k n X Y tv cv ov mv Cm Mn) (hi : Inv n X Y Cm Mn m) (hm : m ≤ 4398046511104) (hcl : Cm.length ≤ 4398046511104) (hml : Mn.length ≤ 4398046511104) {N : Nat} (hN : ∀ g, ρ g ≠ 0 → N ≤ g) (kk : Int) (ys : Bool) (ba : Option Addr) (bc : Nat) (bs : List Int) (hbl : bs.length ≤ 140737488351232) (hv : IsF (fun g => N ≤ g) w (.slice ba bs.length bc) bs) (hNw : N ≤ w.heap.size) (hcap : bc ≤ maxLen) :
    Calls Try.prog 9 #[.pointer (some ⟨x, 0, none⟩), .agg #[.int .i64 6, .int .i64 kk, .slice ba bs.length bc, .bool ys]] w (DoesP ρ w x q k n m 6 X Y Cm Mn) := by
  have bx : Box ρ N w x w.heap.size q k n X Y tv cv ov mv Cm Mn 6 kk (.slice ba bs.length bc) bs ys (w.alloc (.cells #[.int .i64 6, .int .i64 kk, .slice ba bs.length bc, .bool ys] 29)) := Box.mk' h hv hNw
  have BX := hide bx
  have o0 := bx.o0
  have HI := hide hi
  have HN := hide hN
  have HB : Hid (m ≤ 4398046511104 ∧ Cm.length ≤ 4398046511104 ∧ Mn.length ≤ 4398046511104 ∧ bs.length ≤ 140737488351232 ∧ bc ≤ maxLen) := And.intro hm (And.intro hcl (And.intro hml (And.intro hbl hcap)))
  clear h hi hv hNw hN bx hm hcl hml hbl hcap
  go_enter Try.func9, Try.ntmps9
  go_upto_region 1 with fail
  obtain ⟨so, hso⟩ : ∃ so, so = w.heap.size := ⟨_, rfl⟩
  rw [← hso] at BX o0 ⊢
  generalize w.alloc (.cells #[.int .i64 6, .int .i64 kk, .slice ba bs.length bc, .bool ys] 29) = w0 at *
  clear hso
  have KP : Hid (∀ W, But (fun g => ρ g ≠ 0 ∧ ρ g ≠ 13) w0 W → W.cell? ⟨x, 0, none⟩ = some (.pointer (some ⟨q.d, 0, none⟩)) ∧ W.cell? ⟨x, 3, none⟩ = some (.pointer (some ⟨k.d, 0, none⟩)) ∧ W.cell? ⟨so, 2, none⟩ = some (.slice ba bs.length bc) ∧ W.cell? ⟨so, 3, none⟩ = some (.bool ys)) := fun W hb => ⟨(BX.out.keep hb).1 0 _ BX.out.t.p.c0, (BX.out.keep hb).1 3 _ BX.out.t.c3, (BX.out.keep hb).2 2 _ BX.out.o2, (BX.out.keep hb).2 3 _ BX.out.o3⟩
  have XF1 : Hid (∀ W, Below w0.heap.size w0 W → Calls Try.prog 21 #[.pointer (some ⟨q.d, 0, none⟩), .bool ys] W fun e w' => e = .returned (.tuple #[]) ∧ Hid (Two ρ w' x q k n ⟨X.D.lkD ys, X.B, X.s, X.c⟩ Y tv cv ov mv Cm Mn ∧ But (fun g => ρ g ≠ 0 ∧ ρ g ≠ 13) w0 w')) := fun W hb => by
    have t := BX.out.t.later hb
    refine (Link_any t.p.p.dev HI.out.x.ok ys).mono ?_
    rintro _ w' ⟨rfl, hd, hbb⟩
    exact ⟨rfl, t.prog (hbb.mono (fun g e => .inl e)) (t.p.p.onDev hbb hd), (But.of_below hb).trans (hbb.mono (fun g e => BX.out.t.nx13 g (.inl e)))⟩
  obtain ⟨c0, c3, o2, o3⟩ := KP.out w0 (But.refl _ _)
  go_upto_region 18 with fail
  go_cut [] (fun wc => Hid (Two ρ wc x q k n ⟨X.D.lkD ys, X.B, X.s, X.c⟩ Y tv cv ov mv Cm Mn ∧ But (fun g => ρ g ≠ 0 ∧ ρ g ≠ 13) w0 wc))
  case first =>
    have qd : Below w0.heap.size w0 w0.drew := undrew0 (Below.refl _ _)
    go_region_with (go_at_call 21; refine (XF1.out w0.drew qd).mono ?_; rintro _ w7 ⟨rfl, F7⟩)
    all_goals go_wp2
    all_goals go_meet
    all_goals exact F7.out
  case rest =>
    obtain ⟨w1, hw1⟩ : ∃ w1, w1 = wc := ⟨_, rfl⟩
    rw [← hw1] at hcut ⊢
    clear hw1 c0 c3 o2 o3 XF1
    obtain ⟨t1, b1⟩ := hcut.out
    obtain ⟨c0, c3, o2, o3⟩ := KP.out w1 b1
    have XF2 : Hid (∀ W, Below w1.heap.size w1 W → Calls Try.prog 41 #[.pointer (some ⟨k.d, 0, none⟩), .bool ys] W fun e w' => e = .returned (.tuple #[]) ∧ DoesP ρ w x q k n m 6 X Y Cm Mn (.returned (.bool true)) w') := fun W hb => by
      have t := hcut.out.1.later hb
      refine (rLink_any (RQ.rf t.r).dev HI.out.y.ok ys).mono ?_
      rintro _ w' ⟨rfl, hd, hbb⟩
      obtain ⟨r, nn⟩ := RQ.onDev t.r hbb hd (HI.out.y.ok.lk _)
      have t2 := t.ref nn (Y' := ⟨Y.D.lkD ys, Y.B, Y.s, Y.c⟩) r
      exact ⟨rfl, true, ρ, _, _, _, _, _, _, Cm, Mn, rfl, t2, ((BX.out.m.trans (Mv.of BX.out.t.lt hcut.out.2 (fun g e => e.1))).trans (Mv.below hcut.out.1.lt hb)).trans (Mv.nx nn t2.lt), HI.out.same ((HI.out.x.links ys).mono (by omega)) ((HI.out.y.links ys).mono (by omega)) rfl rfl, by omega, fun e => absurd rfl e, fun e => by subst e; exact ⟨rfl, rfl⟩⟩
    clear t1 b1
    go_upto_region 19 with fail
    have qd : Below w1.heap.size w1 w1.drew := undrew0 (Below.refl _ _)
    go_region_with (go_at_call 41; refine (XF2.out w1.drew qd).mono ?_; rintro _ w8 ⟨rfl, f8⟩; have F8 := hide f8; clear f8)
    all_goals go_wp2
    all_goals go_ret
    all_goals exact F8.out

set_option maxRecDepth 100000 in
set_option maxHeartbeats 4000000 in
theorem does_7 {ρ : Nat → Nat} {w : World} {x : Nat} {q k : Bl} {n m : Nat} {X Y : Rg} {tv cv ov mv : Value} {Cm Mn : List Int} (h : Two ρ w x q k n X Y tv cv ov mv Cm Mn) (hi : Inv n X Y Cm Mn m) (hm : m ≤ 4398046511104) (hcl : Cm.length ≤ 4398046511104) (hml : Mn.length ≤ 4398046511104) {N : Nat} (hN : ∀ g, ρ g ≠ 0 → N ≤ g) (kk : Int) (ys : Bool) (ba : Option Addr) (bc : Nat) (bs : List Int) (hbl : bs.length ≤ 140737488351232) (hv : IsF (fun g => N ≤ g) w (.slice ba bs.length bc) bs) (hNw : N ≤ w.heap.size) (hcap : bc ≤ maxLen) :
    Calls Try.prog 9 #[.pointer (some ⟨x, 0, none⟩), .agg #[.int .i64 7, .int .i64 kk, .slice ba bs.length bc, .bool ys]] w (DoesP ρ w x q k n m 7 X Y Cm Mn) := by
  have bx : Box ρ N w x w.heap.size q k n X Y tv cv ov mv Cm Mn 7 kk (.slice ba bs.length bc) bs ys (w.alloc (.cells #[.int .i64 7, .int .i64 kk, .slice ba bs.length bc, .bool ys] 29)) := Box.mk' h hv hNw
  have BX := hide bx
  have o0 := bx.o0
  have HI := hide hi
  have HN := hide hN
  have HB : Hid (m ≤ 4398046511104 ∧ Cm.length ≤ 4398046511104 ∧ Mn.length ≤ 4398046511104 ∧ bs.length ≤ 140737488351232 ∧ bc ≤ maxLen) := And.intro hm (And.intro hcl (And.intro hml (And.intro hbl hcap)))
  clear h hi hv hNw hN bx hm hcl hml hbl hcap
  go_enter Try.func9, Try.ntmps9
  go_upto_region 1 with fail
  obtain ⟨so, hso⟩ : ∃ so, so = w.heap.size := ⟨_, rfl⟩
  rw [← hso] at BX o0 ⊢
  generalize w.alloc (.cells #[.int .i64 7, .int .i64 kk, .slice ba bs.length bc, .bool ys] 29) = w0 at *
  clear hso
  have c0 := BX.out.t.p.c0
  have XT := hide (Tick_any BX.out.t.p.p.dev)
  go_wp2_with fail
  refine XT.out.mono ?_
  rintro _ w1 ⟨rfl, d1, b1⟩
  have t1 := BX.out.t.prog (X' := ⟨X.D.tick, X.B, X.s, X.c⟩) (b1.mono (fun g e => .inl e)) (BX.out.t.p.p.onDev b1 d1)
  have m1 := BX.out.m.trans (Mv.of BX.out.t.lt b1 (fun g e => (BX.out.t.nx13 g (.inl e)).1))
  have c3 := t1.c3
  have ck := (RQ.rf t1.r).dev.cclock LR_ok
  have fk := (RQ.rf t1.r).dev.frozen 104
  have ck' : w1.cell? ⟨k.d, 104, none⟩ = some (.int .i64 Y.D.clock) := ck
  have d2 := (RQ.rf t1.r).dev.setClock LR_ok (wrap64 (Y.D.clock + 1))
  have b2 : But (Only k.d) w1 (w1.setCell ⟨k.d, 104, none⟩ (.int .i64 (wrap64 (Y.D.clock + 1)))) := (But.refl _ _).cellb _ _
  have F : Hid (DoesP ρ w x q k n m 7 X Y Cm Mn (.returned (.bool true)) (w1.setCell ⟨k.d, 104, none⟩ (.int .i64 (wrap64 (Y.D.clock + 1))))) := by
    obtain ⟨r, nn⟩ := RQ.onDev t1.r b2 (D' := Y.D.tick) d2 HI.out.y.ok.tick
    have t2 := t1.ref nn (Y' := ⟨Y.D.tick, Y.B, Y.s, Y.c⟩) r
    exact ⟨true, ρ, _, _, _, _, _, _, Cm, Mn, rfl, t2, m1.trans (Mv.nx nn t2.lt), HI.out.same (HI.out.x.ticks.mono (by omega)) (HI.out.y.ticks.mono (by omega)) rfl rfl, by omega, fun _ => rfl, fun e => by subst e; exact ⟨rfl, rfl⟩⟩
  generalize Y.D.clock = ck0 at *
  clear t1 m1 d1 b1 d2 b2 XT c0 ck o0
  go_wp2
  go_ret
  exact F.out
set_option maxRecDepth 100000 in
set_option maxHeartbeats 4000000 in
theorem does_4 {ρ : Nat → Nat} {w : World} {x : Nat} {q k : Bl} {n m : Nat} {X Y : Rg} {tv cv ov mv : Value} {Cm Mn : List Int} (h : Two ρ w x q k n X Y tv cv ov mv Cm Mn) (hi : Inv n X Y Cm Mn m) (hm : m ≤ 4398046511104) (hcl : Cm.length ≤ 4398046511104) (hml : Mn.length ≤ 4398046511104) {N : Nat} (hN : ∀ g, ρ g ≠ 0 → N ≤ g) (kk : Int) (ys : Bool) (ba : Option Addr) (bc : Nat) (bs : List Int) (hbl : bs.length ≤ 140737488351232) (hv : IsF (fun g => N ≤ g) w (.slice ba bs.length bc) bs) (hNw : N ≤ w.heap.size) (hcap : bc ≤ maxLen) :
    Calls Try.prog 9 #[.pointer (some ⟨x, 0, none⟩), .agg #[.int .i64 4, .int .i64 kk, .slice ba bs.length bc, .bool ys]] w (DoesP ρ w x q k n m 4 X Y Cm Mn) := by
  have bx : Box ρ N w x w.heap.size q k n X Y tv cv ov mv Cm Mn 4 kk (.slice ba bs.length bc) bs ys (w.alloc (.cells #[.int .i64 4, .int .i64 kk, .slice ba bs.length bc, .bool ys] 29)) := Box.mk' h hv hNw
  have BX := hide bx
  have o0 := bx.o0
  have HI := hide hi
  have HN := hide hN
  have HB : Hid (m ≤ 4398046511104 ∧ Cm.length ≤ 4398046511104 ∧ Mn.length ≤ 4398046511104 ∧ bs.length ≤ 140737488351232 ∧ bc ≤ maxLen) := And.intro hm (And.intro hcl (And.intro hml (And.intro hbl hcap)))
  clear h hi hv hNw hN bx hm hcl hml hbl hcap
  go_enter Try.func9, Try.ntmps9
  go_upto_region 1 with fail
  obtain ⟨so, hso⟩ : ∃ so, so = w.heap.size := ⟨_, rfl⟩
  rw [← hso] at BX o0 ⊢
  generalize w.alloc (.cells #[.int .i64 4, .int .i64 kk, .slice ba bs.length bc, .bool ys] 29) = w0 at *
  clear hso
  have c0 := BX.out.t.p.c0
  have XT := hide (Take_any BX.out.t.p.p.dev HI.out.x.ok)
  obtain ⟨fX, hfX⟩ : ∃ f, f = X.D.tkF := ⟨_, rfl⟩
  obtain ⟨fY, hfY⟩ : ∃ f, f = Y.D.tkF := ⟨_, rfl⟩
  obtain ⟨uX, huX⟩ : ∃ f, f = X.D.tkT := ⟨_, rfl⟩
  obtain ⟨uY, huY⟩ : ∃ f, f = Y.D.tkT := ⟨_, rfl⟩
  obtain ⟨eX, heX⟩ : ∃ f, f = X.D.tkE := ⟨_, rfl⟩
  obtain ⟨eY, heY⟩ : ∃ f, f = Y.D.tkE := ⟨_, rfl⟩
  have SM : Hid (X = Y → fX = fY ∧ uX = uY ∧ eX = eY) := fun e => by subst e; exact ⟨hfX.trans hfY.symm, huX.trans huY.symm, heX.trans heY.symm⟩
  rw [← hfX, ← huX, ← heX] at XT
  have HFY := hide (And.intro hfY (And.intro huY heY))
  clear hfX huX heX hfY huY heY
  go_wp2_with fail
  refine XT.out.mono ?_
  rintro _ w1 ⟨fa, fc, rfl, g1, d1, b1⟩
  have t1 := BX.out.t.prog (X' := ⟨X.D.tkD, X.B, X.s, X.c⟩) (b1.mono (fun g e => .inl e)) (BX.out.t.p.p.onDev b1 d1)
  have m1 := BX.out.m.trans (Mv.of BX.out.t.lt b1 (fun g e => (BX.out.t.nx13 g (.inl e)).1))
  have z1 : Below w1.heap.size w1 (w1.alloc (.cells #[.slice fa fX.length fc, .bool false, .int .i64 uX] 51)) := (Below.refl _ _).alloc (Nat.le_refl _) _
  have t1' := t1.later z1
  have c3 := t1'.c3
  have M1 := hide (m1.trans (Mv.below t1.lt z1))
  have cz : ∀ j v, (#[.slice fa fX.length fc, .bool false, .int .i64 uX] : Array Value)[j]? = some v → (w1.alloc (.cells #[.slice fa fX.length fc, .bool false, .int .i64 uX] 51)).cell? ⟨w1.heap.size, j, none⟩ = some v := fun j v hv => by
    rw [cell_of_row _ w1.heap.size j _ 51 (0, 0) (heap_alloc_new w1 _)]; exact hv
  have y0 : (w1.alloc (.cells #[.slice fa fX.length fc, .bool false, .int .i64 uX] 51)).cell? ⟨w1.heap.size, 0, none⟩ = some (.slice fa fX.length fc) := cz 0 _ rfl
  have y2 : (w1.alloc (.cells #[.slice fa fX.length fc, .bool false, .int .i64 uX] 51)).cell? ⟨w1.heap.size, 2, none⟩ = some (.int .i64 uX) := cz 2 _ rfl
  have i1 : IsF (fun g => ρ g ≠ 0) (w1.alloc (.cells #[.slice fa fX.length fc, .bool false, .int .i64 uX] 51)) (.slice fa fX.length fc) fX := (g1.isF (A := fun g => ρ g ≠ 0) (fun g hg e => by have := BX.out.t.lt g e; omega)).later z1
  have s10 : ρ w1.heap.size = 0 := by
    rcases Nat.eq_zero_or_pos (ρ w1.heap.size) with e | e
    · exact e
    · have := t1.lt _ (by omega : ρ w1.heap.size ≠ 0); omega
  have T1 := hide t1'
  have I1 := hide i1
  have Y0 := hide y0
  have Y2 := hide y2
  have S1 : Hid (ρ w1.heap.size = 0 ∧ w1.heap.size < (w1.alloc (.cells #[.slice fa fX.length fc, .bool false, .int .i64 uX] 51)).heap.size) := ⟨s10, by simp⟩
  clear t1 m1 z1 t1' cz i1 s10 d1 b1 g1 XT c0 y0 y2 o0
  go_upto_region 13 with fail
  obtain ⟨sa, hsa⟩ : ∃ sa, sa = w1.heap.size := ⟨_, rfl⟩
  rw [← hsa] at Y0 Y2 S1 ⊢
  generalize w1.alloc (.cells #[.slice fa fX.length fc, .bool false, .int .i64 uX] 51) = w2 at *
  clear hsa
  have XR := hide (rTake_any (RQ.rf T1.out.r).dev HI.out.y.ok)
  rw [← HFY.out.1, ← HFY.out.2.1, ← HFY.out.2.2] at XR
  go_wp2_with fail
  refine XR.out.mono ?_
  rintro _ w3 ⟨ga, gc, rfl, g3, d3, b3⟩
  obtain ⟨r3, n3⟩ := RQ.onDev T1.out.r b3 d3 HI.out.y.ok.tk
  have t3 := T1.out.ref n3 (Y' := ⟨Y.D.tkD, Y.B, Y.s, Y.c⟩) r3
  have k5 : ¬ Only k.d sa := fun e => by have e : sa = k.d := e; have h1 := RQ.d5 T1.out.r; have h2 := S1.out.1; rw [e] at h2; omega
  have y03 := (b3.cell (p := ⟨sa, 0, none⟩) S1.out.2 k5).trans Y0.out
  have y23 := (b3.cell (p := ⟨sa, 2, none⟩) S1.out.2 k5).trans Y2.out
  have i13 := I1.out.but b3 (fun g e => by have e : g = k.d := e; rw [e, RQ.d5 T1.out.r]; omega)
  have z3 : Below w3.heap.size w3 (w3.alloc (.cells #[.slice ga fY.length gc, .bool false, .int .i64 uY] 51)) := (Below.refl _ _).alloc (Nat.le_refl _) _
  have cz : ∀ j v, (#[.slice ga fY.length gc, .bool false, .int .i64 uY] : Array Value)[j]? = some v → (w3.alloc (.cells #[.slice ga fY.length gc, .bool false, .int .i64 uY] 51)).cell? ⟨w3.heap.size, j, none⟩ = some v := fun j v hv => by
    rw [cell_of_row _ w3.heap.size j _ 51 (0, 0) (heap_alloc_new w3 _)]; exact hv
  have v0 : (w3.alloc (.cells #[.slice ga fY.length gc, .bool false, .int .i64 uY] 51)).cell? ⟨w3.heap.size, 0, none⟩ = some (.slice ga fY.length gc) := cz 0 _ rfl
  have v2 : (w3.alloc (.cells #[.slice ga fY.length gc, .bool false, .int .i64 uY] 51)).cell? ⟨w3.heap.size, 2, none⟩ = some (.int .i64 uY) := cz 2 _ rfl
  have s3 : sa < w3.heap.size := Nat.lt_of_lt_of_le S1.out.2 b3.size
  have y04 := (z3.cell (p := ⟨sa, 0, none⟩) s3).trans y03
  have y24 := (z3.cell (p := ⟨sa, 2, none⟩) s3).trans y23
  have j1 := i13.later z3
  have j2 := g3.later z3
  have t4 := t3.later z3
  have M4 := M1.out.trans ((Mv.nx n3 t3.lt).trans (Mv.below t3.lt z3))
  have FIN : Hid (∀ b, (X = Y → b = true) → DoesP ρ w x q k n m 4 X Y Cm Mn (.returned (.bool b)) (w3.alloc (.cells #[.slice ga fY.length gc, .bool false, .int .i64 uY] 51))) := fun b hb => ⟨b, ρ, _, _, _, _, _, _, Cm, Mn, rfl, t4, M4, HI.out.same (HI.out.x.takesD.mono (by omega)) (HI.out.y.takesD.mono (by omega)) rfl rfl, by omega, fun _ => tk_r1 _, fun e => ⟨hb e, by subst e; rfl⟩⟩
  have cx := conv_str j1
  have cy := conv_str j2
  clear t3 n3 r3 d3 b3 g3 y03 y23 i13 z3 cz j1 j2 t4 M4 XR c3 T1 M1 I1 Y0 Y2 HFY S1 k5
  go_upto_region 14 with fail
  obtain ⟨sc, hsc⟩ : ∃ sc, sc = w3.heap.size := ⟨_, rfl⟩
  rw [← hsc] at v0 v2 ⊢
  generalize w3.alloc (.cells #[.slice ga fY.length gc, .bool false, .int .i64 uY] 51) = w4 at *
  clear hsc s3
  by_cases e1 : fX = fY
  · subst e1
    by_cases e2 : uX = uY
    · subst e2
      have F := hide (FIN.out (eX == eY) (fun e => by rw [(SM.out e).2.2]; simp))
      clear FIN
      go_wp2
      go_ret
      exact F.out
    · have e3 : (uX == uY) = false := by simp [e2]
      have F := hide (FIN.out false (fun e => absurd (SM.out e).2.1 e2))
      clear FIN
      go_wp2
      go_ret
      exact F.out
  · have FF : Hid (∀ b, DoesP ρ w x q k n m 4 X Y Cm Mn (.returned (.bool b)) w4) := fun b => FIN.out b (fun e => absurd (SM.out e).1 e1)
    clear FIN
    generalize strB fX = s1 at *
    generalize strB fY = s2 at *
    by_cases e4 : s1 = s2
    · subst e4
      by_cases e2 : uX = uY
      · subst e2
        go_wp2
        go_ret
        exact FF.out _
      · have e3 : (uX == uY) = false := by simp [e2]
        go_wp2
        go_ret
        exact FF.out _
    · go_wp2
      all_goals go_ret
      all_goals exact FF.out _

theorem does_any {ρ : Nat → Nat} {w : World} {x : Nat} {q k : Bl} {n m : Nat} {X Y : Rg} {tv cv ov mv : Value} {Cm Mn : List Int} (h : Two ρ w x q k n X Y tv cv ov mv Cm Mn) (hi : Inv n X Y Cm Mn m) (hm : m ≤ 4398046511104) (hcl : Cm.length ≤ 4398046511104) (hml : Mn.length ≤ 4398046511104) {N : Nat} (hN : ∀ g, ρ g ≠ 0 → N ≤ g) (kd kk : Int) (ys : Bool) (ba : Option Addr) (bc : Nat) (bs : List Int) (hbl : bs.length ≤ 140737488351232) (hv : IsF (fun g => N ≤ g) w (.slice ba bs.length bc) bs) (hNw : N ≤ w.heap.size) (hcap : bc ≤ maxLen) :
    Calls Try.prog 9 #[.pointer (some ⟨x, 0, none⟩), .agg #[.int .i64 kd, .int .i64 kk, .slice ba bs.length bc, .bool ys]] w (DoesP ρ w x q k n m kd X Y Cm Mn) := by
  by_cases hx : kd < 0 ∨ 9 < kd
  · exact does_x h hi hm hcl hml hN kd hx kk ys ba bc bs hbl hv hNw hcap
  · have : kd = 0 ∨ kd = 1 ∨ kd = 2 ∨ kd = 3 ∨ kd = 4 ∨ kd = 5 ∨ kd = 6 ∨ kd = 7 ∨ kd = 8 ∨ kd = 9 := by omega
    rcases this with rfl | rfl | rfl | rfl | rfl | rfl | rfl | rfl | rfl | rfl
    · exact does_0 h hi hm hcl hml hN kk ys ba bc bs hbl hv hNw hcap
    · exact does_1 h hi hm hcl hml hN kk ys ba bc bs hbl hv hNw hcap
    · exact does_2 h hi hm hcl hml hN kk ys ba bc bs hbl hv hNw hcap
    · exact does_3 h hi hm hcl hml hN kk ys ba bc bs hbl hv hNw hcap
    · exact does_4 h hi hm hcl hml hN kk ys ba bc bs hbl hv hNw hcap
    · exact does_5 h hi hm hcl hml hN kk ys ba bc bs hbl hv hNw hcap
    · exact does_6 h hi hm hcl hml hN kk ys ba bc bs hbl hv hNw hcap
    · exact does_7 h hi hm hcl hml hN kk ys ba bc bs hbl hv hNw hcap
    · exact does_8 h hi hm hcl hml hN kk ys ba bc bs hbl hv hNw hcap
    · exact does_9 h hi hm hcl hml hN kk ys ba bc bs hbl hv hNw hcap
theorem inv0 (n : Nat) : Inv n (rg0 n) (rg0 n) [] [] 1 := by
  have h := Hd.new n
  have z : Hz n (rg0 n) (fun _ => 0) 0 := by
    obtain ⟨j, b1, b2, _⟩ := h.h4
    obtain ⟨a1, a2, a3, a4⟩ := h.h2
    exact ⟨h.ok, h.on, h.sf, h.sm, h.cf, h.cm, h.h5, h.h3, ⟨j, b1, b2⟩, ⟨a1, a2, fun k hk => by omega, a4⟩, h.refs, h.rs, h.rc, h.cb⟩
  have kn : Kn n (rg0 n) [] [] 1 := ⟨_, _, z, fun i _ => by simp, by simp⟩
  exact ⟨kn, kn, fun z hz => by simp at hz, fun z hz => by simp at hz, (bg0_ok n).2, (bg0_ok n).2, Nat.le_refl _, HL.flN 15 ⟨bgD Dev.new, none4, sd0⟩ (fun i => Nat.zero_le _)⟩

/-- a call as it came in -/
structure OpV where
  kind : Int
  k : Int
  bv : Value
  bs : List Int
  yes : Bool
/-- THE SLICE VALUE v HOLDS THE CALLS l, all of it below n₀ -/
def IsO (n₀ : Nat) (W : World) (v : Value) (l : List OpV) : Prop :=
  ∃ a cap, v = .slice a l.length cap ∧ (0 < l.length → ∃ g off, a = some ⟨g, off, none⟩ ∧ g < n₀ ∧ ∀ i o, l[i]? = some o →
      W.cell? ⟨g, off + i * 4, none⟩ = some (.int .i64 o.kind) ∧ W.cell? ⟨g, off + i * 4 + 1, none⟩ = some (.int .i64 o.k) ∧ W.cell? ⟨g, off + i * 4 + 2, none⟩ = some o.bv ∧ W.cell? ⟨g, off + i * 4 + 3, none⟩ = some (.bool o.yes)) ∧
    ∀ o ∈ l, IsF (fun g => n₀ ≤ g) W o.bv o.bs ∧ o.bs.length ≤ 140737488351232 ∧ ∀ a m c, o.bv = .slice a m c → c ≤ maxLen

theorem IsF.below {n₀ : Nat} {W W' : World} {v : Value} {bs : List Int} (h : IsF (fun g => n₀ ≤ g) W v bs) (hb : Below n₀ W W') : IsF (fun g => n₀ ≤ g) W' v bs := by
  obtain ⟨a, cap, e, hl, hn, hc⟩ := h
  refine ⟨a, cap, e, hl, hn, fun h0 => ?_⟩
  obtain ⟨b, off, e1, hb1, ha, hcs⟩ := hc h0
  exact ⟨b, off, e1, Nat.lt_of_lt_of_le hb1 hb.size, ha, fun j hj => (hb.cell (p := ⟨b, off + j, none⟩) (by simp at ha; exact ha)).trans (hcs j hj)⟩
theorem IsO.below {n₀ : Nat} {W W' : World} {v : Value} {l : List OpV} (h : IsO n₀ W v l) (hb : Below n₀ W W') : IsO n₀ W' v l := by
  obtain ⟨a, cap, e, hc, hf⟩ := h
  refine ⟨a, cap, e, fun h0 => ?_, fun o ho => ⟨(hf o ho).1.below hb, (hf o ho).2⟩⟩
  obtain ⟨g, off, e1, hg, hcs⟩ := hc h0
  have key : ∀ k, W'.cell? ⟨g, k, none⟩ = W.cell? ⟨g, k, none⟩ := fun k => hb.cell (p := ⟨g, k, none⟩) hg
  refine ⟨g, off, e1, hg, fun i o hi => ?_⟩
  obtain ⟨q0, q1, q2, q3⟩ := hcs i o hi
  exact ⟨(key _).trans q0, (key _).trans q1, (key _).trans q2, (key _).trans q3⟩

/-- between the calls -/
structure Fst (N : Nat) (W : World) (x : Nat) (q k : Bl) (n cnt : Nat) (ρ : Nat → Nat) (X Y : Rg) (tv cv ov mv : Value) (Cm Mn : List Int) (wr : World) : Prop where
  t : Two ρ wr x q k n X Y tv cv ov mv Cm Mn
  b : Below N W wr
  r : ∀ g, ρ g ≠ 0 → N ≤ g
  i : Inv n X Y Cm Mn (cnt + 1)
  m : Mn.length ≤ cnt
theorem Fst.mv {N : Nat} {W : World} {x : Nat} {q k : Bl} {n i i' : Nat} {ρ ρ' : Nat → Nat} {X Y X' Y' : Rg} {tv cv ov mv tv' cv' ov' mv' : Value} {Cm Mn Cm' Mn' : List Int} {wr w' : World} (h : Fst N W x q k n i ρ X Y tv cv ov mv Cm Mn wr) (hN : N ≤ W.heap.size) (hm : Mv ρ wr ρ' w') (t : Two ρ' w' x q k n X' Y' tv' cv' ov' mv' Cm' Mn') (iv : Inv n X' Y' Cm' Mn' (i' + 1)) (ml : Mn'.length ≤ i') : Fst N W x q k n i' ρ' X' Y' tv' cv' ov' mv' Cm' Mn' w' := by
  obtain ⟨b, r⟩ := hm.low (Nat.le_trans hN h.b.size) h.r
  exact ⟨t, h.b.trans b, r, iv, ml⟩
theorem Fst.later {N : Nat} {W : World} {x : Nat} {q k : Bl} {n i : Nat} {ρ : Nat → Nat} {X Y : Rg} {tv cv ov mv : Value} {Cm Mn : List Int} {wr w' : World} (h : Fst N W x q k n i ρ X Y tv cv ov mv Cm Mn wr) (hN : N ≤ W.heap.size) (hb : Below wr.heap.size wr w') : Fst N W x q k n i ρ X Y tv cv ov mv Cm Mn w' :=
  h.mv hN (Mv.below h.t.lt hb) (h.t.later hb) h.i h.m

/-- the program's ring alone is polled -/
theorem Inv.pollX {n : Nat} {X Y : Rg} {Cm Mn : List Int} {m : Nat} (h : Inv n X Y Cm Mn m) : Inv n (X.poll n) Y Cm Mn m := by
  refine ⟨?_, h.y, h.rc, h.rm, poll_bdd h.bx h.m1 h.x.ok, h.by', h.m1, h.hy⟩
  obtain ⟨hl, g, hz, hc, h2⟩ := h.x
  exact ⟨_, 0, hz.poll.1, fun i hi => by have := hc i hi; omega, by omega⟩
theorem poll_full {n : Nat} {X : Rg} {hl : Nat → Nat} {g : Nat} (h : Hz n X hl g) : (X.poll n).c.ids.length = 15 ∨ gt n (X.poll n).B = none := by
  unfold Rg.poll; split
  · exact flF_full (x := ⟨bgD (X.D.rdD 6), frs n (frs n X.B X.s.ids) X.c.ids, sd0⟩) (Nat.zero_le _)
  · exact flF_full (x := X.ready n) (by show (X.c.ids.drop _).length ≤ 15; rw [List.length_drop]; have := h.cm; omega)
theorem lft_none {B : Nat → Buf} : ∀ {n : Nat}, (∀ j, j < n → (B j).refs ≠ 0) → lft B n = 0
  | 0, _ => rfl
  | n + 1, h => by
    unfold lft
    rw [lft_none (fun j hj => h j (by omega)), if_neg (h n (by omega))]

/-- See, into a variable -/
theorem sea1 {w5 w13 : World} (b13 : Below w5.drew.heap.size w5 w13) (rf : Int) (H D : Value) :
    Below w5.heap.size w5 (w13.alloc (.cells #[.int .i64 rf, H, D] 35)) ∧ (w13.alloc (.cells #[.int .i64 rf, H, D] 35)).cell? ⟨w13.heap.size, 0, none⟩ = some (.int .i64 rf) ∧ (w13.alloc (.cells #[.int .i64 rf, H, D] 35)).cell? ⟨w13.heap.size, 2, none⟩ = some D := by
  have cz : ∀ j v, (#[.int .i64 rf, H, D] : Array Value)[j]? = some v → (w13.alloc (.cells #[.int .i64 rf, H, D] 35)).cell? ⟨w13.heap.size, j, none⟩ = some v := fun j v hv => by
    rw [cell_of_row _ w13.heap.size j _ 35 (0, 0) (heap_alloc_new w13 _)]; exact hv
  exact ⟨b13.alloc b13.size _, cz 0 _ rfl, cz 2 _ rfl⟩
theorem sea3 {w5 w13 : World} {Z : Array Value} {t : TypeId} (b13 : Below (w5.alloc (.cells Z t)).drew.heap.size (w5.alloc (.cells Z t)) w13) (B0 : Below w5.heap.size w5 (w5.alloc (.cells Z t))) (t13 : PTri w13 w5.heap.size) (rf : Int) (H D : Value) :
    Below w5.heap.size w5 (((w13.setCell ⟨w5.heap.size, 0, none⟩ (.int .i64 rf)).setCell ⟨w5.heap.size, 1, none⟩ H).setCell ⟨w5.heap.size, 2, none⟩ D) ∧ (((w13.setCell ⟨w5.heap.size, 0, none⟩ (.int .i64 rf)).setCell ⟨w5.heap.size, 1, none⟩ H).setCell ⟨w5.heap.size, 2, none⟩ D).cell? ⟨w5.heap.size, 0, none⟩ = some (.int .i64 rf) ∧ (((w13.setCell ⟨w5.heap.size, 0, none⟩ (.int .i64 rf)).setCell ⟨w5.heap.size, 1, none⟩ H).setCell ⟨w5.heap.size, 2, none⟩ D).cell? ⟨w5.heap.size, 2, none⟩ = some D := by
  have b1 : Below w5.heap.size w5 w13 := B0.trans (b13.mono B0.size)
  refine ⟨((b1.setCell (p := ⟨w5.heap.size, 0, none⟩) (Nat.le_refl _) _).setCell (p := ⟨w5.heap.size, 1, none⟩) (Nat.le_refl _) _).setCell (p := ⟨w5.heap.size, 2, none⟩) (Nat.le_refl _) _, ?_, ?_⟩
  · rw [setCell_out (by omega), setCell_out (by omega)]
    exact World.cell?_setCell_same' _ _ _ (by rw [t13.c0]; rfl)
  · exact World.cell?_setCell_same' _ _ _ (by rw [setCell_out (by omega), setCell_out (by omega), t13.c2]; rfl)
end Go.Proofs.Ytjkfjijnjkpbbaa
