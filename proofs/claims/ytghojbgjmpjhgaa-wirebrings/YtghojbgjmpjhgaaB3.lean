
/-
  other: any other call of the program's wire.
-/
import Derived.Test.YtghojbgjmpjhgaaB2
namespace Go.Proofs.Ytghojbgjmpjhgaa
open Go.RowKit

/-- what 'other' leaves -/
def OtherEnd (P : Pl) (ρ : Nat → Nat) (w : World) (T F : Nat → Nat) (S : Nat → List (List Int)) (TT : Nat → List Int) (BS : List (List Int)) (PT LF : List Int) (m : Nat) (vp vb vl : Value) (e : Ending) (w' : World) : Prop :=
  e = .returned (.tuple #[]) ∧ ∃ ρ' ck' L' D' tk', Mem P ρ' w' ck' L' D' T F (m + 1) vp vb vl BS PT LF ∧ Brg ck' (ab L') D' F S TT tk' BS PT LF (m + 1) ∧ But (Mine ρ) w w'

set_option maxRecDepth 100000 in
set_option maxHeartbeats 4000000 in
theorem other_1 {P : Pl} {ρ : Nat → Nat} {w : World} {ck : Int} {L : Nat → List (Value × Frm)} {D : Nat → Dev} {T F : Nat → Nat} {S : Nat → List (List Int)} {TT : Nat → List Int} {tk : Nat → Nat} {BS : List (List Int)} {PT LF : List Int} {m : Nat} {vp vb vl : Value} (h : Mem P ρ w ck L D T F m vp vb vl BS PT LF) (hg : Brg ck (ab L) D F S TT tk BS PT LF m) (hm : m ≤ 2513169434843) (od ok ot : Int) (va : Option Addr) (vc n : Nat) :
    Calls Try.prog 18 #[.pointer (some ⟨P.x, 0, none⟩), .agg #[.int .i64 1, .int .i64 od, .int .i64 ok, .int .i64 ot, .slice va n vc]] w (OtherEnd P ρ w T F S TT BS PT LF m vp vb vl) := by
  have bx : Below w.heap.size w (w.alloc (.cells #[.int .i64 1, .int .i64 od, .int .i64 ok, .int .i64 ot, .slice va n vc] 29)) := (Below.refl _ _).alloc (Nat.le_refl _) _
  have BX := hide bx
  have H1 := hide (h.later bx)
  have HG := hide hg
  have F5 := Five.new w 1 od ok ot (.slice va n vc) 29
  have NS : Hid (ρ w.heap.size = 0) := h.fresh0
  have BND := hide (h.h.bounds hm)
  have ZM : Hid (m ≤ 2513169434843) := hm
  obtain ⟨s, hs⟩ : ∃ s, s = w.heap.size := ⟨_, rfl⟩
  rw [← hs] at F5 NS
  clear h bx hg hm
  go_enter Try.func18, Try.ntmps18
  have hs' := hs
  clear hs
  go_upto_region 1 with fail
  rw [← hs']
  clear hs'
  generalize w.alloc (.cells #[.int .i64 1, .int .i64 od, .int .i64 ok, .int .i64 ot, .slice va n vc] 29) = w1 at *
  have F5H := hide F5
  obtain ⟨c0, _, _, _, _⟩ := F5
  have IV := hide (H1.out.h.i.pull H1.out.h.n.ok od)
  have q2 : But (Mid ρ) w1 w1.drew := (But.refl _ _).drew
  have keepS : Hid (∀ W : World, But (Mid ρ) w1 W → (W.cell? ⟨P.x, 2, none⟩ = some (.pointer (some ⟨P.b, 0, none⟩)) ∧ W.cell? ⟨s, 1, none⟩ = some (.int .i64 od))) := fun W hb => by
    have kc := H1.out.h.c.but hb (fun e => by unfold Mid at e; rw [H1.out.h.rx] at e; omega)
    have k5 := F5H.out.but hb (fun e => by unfold Mid at e; rw [NS.out] at e; omega)
    exact ⟨kc.cw, k5.c1⟩
  go_upto_region 3 with fail
  clear c0
  go_region_held (fun W => W.cell? ⟨P.x, 2, none⟩ = some (.pointer (some ⟨P.b, 0, none⟩)) ∧ W.cell? ⟨s, 1, none⟩ = some (.int .i64 od)) (exact keepS.out _ (by assumption))
    (first
      | (go_at_call 22; refine (Pull_any H1.out.drew.h.n od ⟨BND.out.1.1, by have := BND.out.1.2; omega⟩ BND.out.2.1 BND.out.2.2.2).mono ?_; rintro e w3 ⟨rfl, L', hD, hA⟩; obtain ⟨ρ3, m3, e3, b3⟩ := H1.out.drew.did hD (by rw [hA]; exact IV.out); have M3 := hide m3; have HA := hide hA; have q3 : But (Mid ρ) w1 w3 := q2.trans b3; clear hD hA m3 e3 b3))
  have B3 := hide q3
  clear q2 q3 keepS
  go_wp2
  go_end0
  obtain ⟨tk', hB⟩ := HG.out.pull od
  exact ⟨rfl, _, _, L', _, _, M3.out, by rw [HA.out]; exact hB, (But.of_below BX.out).trans (mid_mine B3.out)⟩

set_option maxRecDepth 100000 in
set_option maxHeartbeats 4000000 in
theorem other_3 {P : Pl} {ρ : Nat → Nat} {w : World} {ck : Int} {L : Nat → List (Value × Frm)} {D : Nat → Dev} {T F : Nat → Nat} {S : Nat → List (List Int)} {TT : Nat → List Int} {tk : Nat → Nat} {BS : List (List Int)} {PT LF : List Int} {m : Nat} {vp vb vl : Value} (h : Mem P ρ w ck L D T F m vp vb vl BS PT LF) (hg : Brg ck (ab L) D F S TT tk BS PT LF m) (hm : m ≤ 2513169434843) (od ok ot : Int) (va : Option Addr) (vc n : Nat) :
    Calls Try.prog 18 #[.pointer (some ⟨P.x, 0, none⟩), .agg #[.int .i64 3, .int .i64 od, .int .i64 ok, .int .i64 ot, .slice va n vc]] w (OtherEnd P ρ w T F S TT BS PT LF m vp vb vl) := by
  have bx : Below w.heap.size w (w.alloc (.cells #[.int .i64 3, .int .i64 od, .int .i64 ok, .int .i64 ot, .slice va n vc] 29)) := (Below.refl _ _).alloc (Nat.le_refl _) _
  have BX := hide bx
  have H1 := hide (h.later bx)
  have HG := hide hg
  have F5 := Five.new w 3 od ok ot (.slice va n vc) 29
  have NS : Hid (ρ w.heap.size = 0) := h.fresh0
  have BND := hide (h.h.bounds hm)
  have ZM : Hid (m ≤ 2513169434843) := hm
  obtain ⟨s, hs⟩ : ∃ s, s = w.heap.size := ⟨_, rfl⟩
  rw [← hs] at F5 NS
  clear h bx hg hm
  go_enter Try.func18, Try.ntmps18
  have hs' := hs
  clear hs
  go_upto_region 1 with fail
  rw [← hs']
  clear hs'
  generalize w.alloc (.cells #[.int .i64 3, .int .i64 od, .int .i64 ok, .int .i64 ot, .slice va n vc] 29) = w1 at *
  have F5H := hide F5
  obtain ⟨c0, _, _, _, _⟩ := F5
  have IV := hide (H1.out.h.i.drop od ok)
  have q2 : But (Mid ρ) w1 w1.drew := (But.refl _ _).drew
  have keepS : Hid (∀ W : World, But (Mid ρ) w1 W → (W.cell? ⟨P.x, 2, none⟩ = some (.pointer (some ⟨P.b, 0, none⟩)) ∧ W.cell? ⟨s, 1, none⟩ = some (.int .i64 od) ∧ W.cell? ⟨s, 2, none⟩ = some (.int .i64 ok))) := fun W hb => by
    have kc := H1.out.h.c.but hb (fun e => by unfold Mid at e; rw [H1.out.h.rx] at e; omega)
    have k5 := F5H.out.but hb (fun e => by unfold Mid at e; rw [NS.out] at e; omega)
    exact ⟨kc.cw, k5.c1, k5.c2⟩
  go_upto_region 5 with fail
  clear c0
  go_region_held (fun W => W.cell? ⟨P.x, 2, none⟩ = some (.pointer (some ⟨P.b, 0, none⟩)) ∧ W.cell? ⟨s, 1, none⟩ = some (.int .i64 od) ∧ W.cell? ⟨s, 2, none⟩ = some (.int .i64 ok)) (exact keepS.out _ (by assumption))
    (first
      | (go_at_call 33; refine (pDrop H1.out.drew.h.n od ok).mono ?_; rintro e w3 ⟨rfl, L', hD, hA⟩; obtain ⟨ρ3, m3, e3, b3⟩ := H1.out.drew.did hD (by rw [hA]; exact IV.out); have M3 := hide m3; have HA := hide hA; have q3 : But (Mid ρ) w1 w3 := q2.trans b3; clear hD hA m3 e3 b3))
  have B3 := hide q3
  clear q2 q3 keepS
  go_wp2
  go_end0
  exact ⟨rfl, _, _, L', _, _, M3.out, by rw [HA.out]; exact HG.out.drop od ok, (But.of_below BX.out).trans (mid_mine B3.out)⟩

set_option maxRecDepth 100000 in
set_option maxHeartbeats 4000000 in
theorem other_5 {P : Pl} {ρ : Nat → Nat} {w : World} {ck : Int} {L : Nat → List (Value × Frm)} {D : Nat → Dev} {T F : Nat → Nat} {S : Nat → List (List Int)} {TT : Nat → List Int} {tk : Nat → Nat} {BS : List (List Int)} {PT LF : List Int} {m : Nat} {vp vb vl : Value} (h : Mem P ρ w ck L D T F m vp vb vl BS PT LF) (hg : Brg ck (ab L) D F S TT tk BS PT LF m) (hm : m ≤ 2513169434843) (od ok ot : Int) (va : Option Addr) (vc n : Nat) :
    Calls Try.prog 18 #[.pointer (some ⟨P.x, 0, none⟩), .agg #[.int .i64 5, .int .i64 od, .int .i64 ok, .int .i64 ot, .slice va n vc]] w (OtherEnd P ρ w T F S TT BS PT LF m vp vb vl) := by
  have bx : Below w.heap.size w (w.alloc (.cells #[.int .i64 5, .int .i64 od, .int .i64 ok, .int .i64 ot, .slice va n vc] 29)) := (Below.refl _ _).alloc (Nat.le_refl _) _
  have BX := hide bx
  have H1 := hide (h.later bx)
  have HG := hide hg
  have F5 := Five.new w 5 od ok ot (.slice va n vc) 29
  have NS : Hid (ρ w.heap.size = 0) := h.fresh0
  have BND := hide (h.h.bounds hm)
  have ZM : Hid (m ≤ 2513169434843) := hm
  obtain ⟨s, hs⟩ : ∃ s, s = w.heap.size := ⟨_, rfl⟩
  rw [← hs] at F5 NS
  clear h bx hg hm
  go_enter Try.func18, Try.ntmps18
  have hs' := hs
  clear hs
  go_upto_region 1 with fail
  rw [← hs']
  clear hs'
  generalize w.alloc (.cells #[.int .i64 5, .int .i64 od, .int .i64 ok, .int .i64 ot, .slice va n vc] 29) = w1 at *
  have F5H := hide F5
  obtain ⟨c0, _, _, _, _⟩ := F5
  have IV := hide (H1.out.h.i.move od ok ot)
  have q2 : But (Mid ρ) w1 w1.drew := (But.refl _ _).drew
  have keepS : Hid (∀ W : World, But (Mid ρ) w1 W → (W.cell? ⟨P.x, 2, none⟩ = some (.pointer (some ⟨P.b, 0, none⟩)) ∧ W.cell? ⟨s, 1, none⟩ = some (.int .i64 od) ∧ W.cell? ⟨s, 2, none⟩ = some (.int .i64 ok) ∧ W.cell? ⟨s, 3, none⟩ = some (.int .i64 ot))) := fun W hb => by
    have kc := H1.out.h.c.but hb (fun e => by unfold Mid at e; rw [H1.out.h.rx] at e; omega)
    have k5 := F5H.out.but hb (fun e => by unfold Mid at e; rw [NS.out] at e; omega)
    exact ⟨kc.cw, k5.c1, k5.c2, k5.c3⟩
  go_upto_region 7 with fail
  clear c0
  go_region_held (fun W => W.cell? ⟨P.x, 2, none⟩ = some (.pointer (some ⟨P.b, 0, none⟩)) ∧ W.cell? ⟨s, 1, none⟩ = some (.int .i64 od) ∧ W.cell? ⟨s, 2, none⟩ = some (.int .i64 ok) ∧ W.cell? ⟨s, 3, none⟩ = some (.int .i64 ot)) (exact keepS.out _ (by assumption))
    (first
      | (go_at_call 23; refine (Move_any H1.out.drew.h.n od ok ot).mono ?_; rintro e w3 ⟨rfl, L', hD, hA⟩; obtain ⟨ρ3, m3, e3, b3⟩ := H1.out.drew.did hD (by rw [hA]; exact IV.out); have M3 := hide m3; have HA := hide hA; have q3 : But (Mid ρ) w1 w3 := q2.trans b3; clear hD hA m3 e3 b3))
  have B3 := hide q3
  clear q2 q3 keepS
  go_wp2
  go_end0
  exact ⟨rfl, _, _, L', _, _, M3.out, by rw [HA.out]; exact HG.out.move od ok ot, (But.of_below BX.out).trans (mid_mine B3.out)⟩

set_option maxRecDepth 100000 in
set_option maxHeartbeats 4000000 in
theorem other_6 {P : Pl} {ρ : Nat → Nat} {w : World} {ck : Int} {L : Nat → List (Value × Frm)} {D : Nat → Dev} {T F : Nat → Nat} {S : Nat → List (List Int)} {TT : Nat → List Int} {tk : Nat → Nat} {BS : List (List Int)} {PT LF : List Int} {m : Nat} {vp vb vl : Value} (h : Mem P ρ w ck L D T F m vp vb vl BS PT LF) (hg : Brg ck (ab L) D F S TT tk BS PT LF m) (hm : m ≤ 2513169434843) (od ok ot : Int) (va : Option Addr) (vc n : Nat) :
    Calls Try.prog 18 #[.pointer (some ⟨P.x, 0, none⟩), .agg #[.int .i64 6, .int .i64 od, .int .i64 ok, .int .i64 ot, .slice va n vc]] w (OtherEnd P ρ w T F S TT BS PT LF m vp vb vl) := by
  have bx : Below w.heap.size w (w.alloc (.cells #[.int .i64 6, .int .i64 od, .int .i64 ok, .int .i64 ot, .slice va n vc] 29)) := (Below.refl _ _).alloc (Nat.le_refl _) _
  have BX := hide bx
  have H1 := hide (h.later bx)
  have HG := hide hg
  have F5 := Five.new w 6 od ok ot (.slice va n vc) 29
  have NS : Hid (ρ w.heap.size = 0) := h.fresh0
  have BND := hide (h.h.bounds hm)
  have ZM : Hid (m ≤ 2513169434843) := hm
  obtain ⟨s, hs⟩ : ∃ s, s = w.heap.size := ⟨_, rfl⟩
  rw [← hs] at F5 NS
  clear h bx hg hm
  go_enter Try.func18, Try.ntmps18
  have hs' := hs
  clear hs
  go_upto_region 1 with fail
  rw [← hs']
  clear hs'
  generalize w.alloc (.cells #[.int .i64 6, .int .i64 od, .int .i64 ok, .int .i64 ot, .slice va n vc] 29) = w1 at *
  have F5H := hide F5
  obtain ⟨c0, _, _, _, _⟩ := F5
  have IV := hide (H1.out.h.i.damage od ok ot)
  have q2 : But (Mid ρ) w1 w1.drew := (But.refl _ _).drew
  have keepS : Hid (∀ W : World, But (Mid ρ) w1 W → (W.cell? ⟨P.x, 2, none⟩ = some (.pointer (some ⟨P.b, 0, none⟩)) ∧ W.cell? ⟨s, 1, none⟩ = some (.int .i64 od) ∧ W.cell? ⟨s, 2, none⟩ = some (.int .i64 ok) ∧ W.cell? ⟨s, 3, none⟩ = some (.int .i64 ot))) := fun W hb => by
    have kc := H1.out.h.c.but hb (fun e => by unfold Mid at e; rw [H1.out.h.rx] at e; omega)
    have k5 := F5H.out.but hb (fun e => by unfold Mid at e; rw [NS.out] at e; omega)
    exact ⟨kc.cw, k5.c1, k5.c2, k5.c3⟩
  go_upto_region 9 with fail
  clear c0
  go_region_held (fun W => W.cell? ⟨P.x, 2, none⟩ = some (.pointer (some ⟨P.b, 0, none⟩)) ∧ W.cell? ⟨s, 1, none⟩ = some (.int .i64 od) ∧ W.cell? ⟨s, 2, none⟩ = some (.int .i64 ok) ∧ W.cell? ⟨s, 3, none⟩ = some (.int .i64 ot)) (exact keepS.out _ (by assumption))
    (first
      | (go_at_call 24; refine (Damage_any H1.out.drew.h.n od ok ot).mono ?_; rintro e w3 ⟨rfl, L', hD, hA⟩; obtain ⟨ρ3, m3, e3, b3⟩ := H1.out.drew.did hD (by rw [hA]; exact IV.out); have M3 := hide m3; have HA := hide hA; have q3 : But (Mid ρ) w1 w3 := q2.trans b3; clear hD hA m3 e3 b3))
  have B3 := hide q3
  clear q2 q3 keepS
  go_wp2
  go_end0
  exact ⟨rfl, _, _, L', _, _, M3.out, by rw [HA.out]; exact HG.out.damage od ok ot, (But.of_below BX.out).trans (mid_mine B3.out)⟩

set_option maxRecDepth 100000 in
set_option maxHeartbeats 4000000 in
theorem other_8 {P : Pl} {ρ : Nat → Nat} {w : World} {ck : Int} {L : Nat → List (Value × Frm)} {D : Nat → Dev} {T F : Nat → Nat} {S : Nat → List (List Int)} {TT : Nat → List Int} {tk : Nat → Nat} {BS : List (List Int)} {PT LF : List Int} {m : Nat} {vp vb vl : Value} (h : Mem P ρ w ck L D T F m vp vb vl BS PT LF) (hg : Brg ck (ab L) D F S TT tk BS PT LF m) (hm : m ≤ 2513169434843) (od ok ot : Int) (va : Option Addr) (vc n : Nat) :
    Calls Try.prog 18 #[.pointer (some ⟨P.x, 0, none⟩), .agg #[.int .i64 8, .int .i64 od, .int .i64 ok, .int .i64 ot, .slice va n vc]] w (OtherEnd P ρ w T F S TT BS PT LF m vp vb vl) := by
  have bx : Below w.heap.size w (w.alloc (.cells #[.int .i64 8, .int .i64 od, .int .i64 ok, .int .i64 ot, .slice va n vc] 29)) := (Below.refl _ _).alloc (Nat.le_refl _) _
  have BX := hide bx
  have H1 := hide (h.later bx)
  have HG := hide hg
  have F5 := Five.new w 8 od ok ot (.slice va n vc) 29
  have NS : Hid (ρ w.heap.size = 0) := h.fresh0
  have BND := hide (h.h.bounds hm)
  have ZM : Hid (m ≤ 2513169434843) := hm
  obtain ⟨s, hs⟩ : ∃ s, s = w.heap.size := ⟨_, rfl⟩
  rw [← hs] at F5 NS
  clear h bx hg hm
  go_enter Try.func18, Try.ntmps18
  have hs' := hs
  clear hs
  go_upto_region 1 with fail
  rw [← hs']
  clear hs'
  generalize w.alloc (.cells #[.int .i64 8, .int .i64 od, .int .i64 ok, .int .i64 ot, .slice va n vc] 29) = w1 at *
  have F5H := hide F5
  obtain ⟨c0, _, _, _, _⟩ := F5
  have IV := hide (H1.out.h.i.tick (by have := ZM.out; omega))
  have cx := H1.out.h.c.cw
  have X := hide (wTick_any H1.out.h.n ⟨BND.out.1.1, by have := BND.out.1.2; omega⟩ BND.out.2.1 BND.out.2.2.1 BND.out.2.2.2)
  go_wp2_with fail
  refine X.out.mono ?_
  rintro e w3 ⟨rfl, L', hD, hA⟩
  obtain ⟨ρ3, m3, e3, b3⟩ := H1.out.did hD (by rw [hA]; exact IV.out)
  have M3 := hide m3
  have HA := hide hA
  have B3 := hide b3
  clear hD hA m3 e3 b3 X cx c0
  go_wp2
  go_end0
  obtain ⟨tk', hB⟩ := HG.out.tick
  exact ⟨rfl, _, _, L', _, _, M3.out, by rw [HA.out]; exact hB, (But.of_below BX.out).trans (mid_mine B3.out)⟩

set_option maxRecDepth 100000 in
set_option maxHeartbeats 4000000 in
theorem other_x {P : Pl} {ρ : Nat → Nat} {w : World} {ck : Int} {L : Nat → List (Value × Frm)} {D : Nat → Dev} {T F : Nat → Nat} {S : Nat → List (List Int)} {TT : Nat → List Int} {tk : Nat → Nat} {BS : List (List Int)} {PT LF : List Int} {m : Nat} {vp vb vl : Value} (h : Mem P ρ w ck L D T F m vp vb vl BS PT LF) (hg : Brg ck (ab L) D F S TT tk BS PT LF m) (kd : Int) (k1 : ¬ kd = 1) (k3 : ¬ kd = 3) (k5 : ¬ kd = 5) (k6 : ¬ kd = 6) (k8 : ¬ kd = 8) (od ok ot : Int) (va : Option Addr) (vc n : Nat) :
    Calls Try.prog 18 #[.pointer (some ⟨P.x, 0, none⟩), .agg #[.int .i64 kd, .int .i64 od, .int .i64 ok, .int .i64 ot, .slice va n vc]] w (OtherEnd P ρ w T F S TT BS PT LF m vp vb vl) := by
  have y1 : (kd == 1) = false := by simp [k1]
  have y3 : (kd == 3) = false := by simp [k3]
  have y5 : (kd == 5) = false := by simp [k5]
  have y6 : (kd == 6) = false := by simp [k6]
  have y8 : (kd == 8) = false := by simp [k8]
  have bx : Below w.heap.size w (w.alloc (.cells #[.int .i64 kd, .int .i64 od, .int .i64 ok, .int .i64 ot, .slice va n vc] 29)) := (Below.refl _ _).alloc (Nat.le_refl _) _
  have BX := hide bx
  have H1 := hide (h.later bx)
  have HG := hide hg
  have F5 := Five.new w kd od ok ot (.slice va n vc) 29
  obtain ⟨s, hs⟩ : ∃ s, s = w.heap.size := ⟨_, rfl⟩
  rw [← hs] at F5
  clear h bx hg
  go_enter Try.func18, Try.ntmps18
  have hs' := hs
  clear hs
  go_upto_region 1 with fail
  rw [← hs']
  clear hs'
  generalize w.alloc (.cells #[.int .i64 kd, .int .i64 od, .int .i64 ok, .int .i64 ot, .slice va n vc] 29) = w1 at *
  obtain ⟨c0, _, _, _, _⟩ := F5
  go_wp2
  go_end0
  exact ⟨rfl, _, _, L, _, _, H1.out.more, HG.out.more, But.of_below BX.out⟩

theorem other_any {P : Pl} {ρ : Nat → Nat} {w : World} {ck : Int} {L : Nat → List (Value × Frm)} {D : Nat → Dev} {T F : Nat → Nat} {S : Nat → List (List Int)} {TT : Nat → List Int} {tk : Nat → Nat} {BS : List (List Int)} {PT LF : List Int} {m : Nat} {vp vb vl : Value} (h : Mem P ρ w ck L D T F m vp vb vl BS PT LF) (hg : Brg ck (ab L) D F S TT tk BS PT LF m) (hm : m ≤ 2513169434843) (kd od ok ot : Int) (va : Option Addr) (vc n : Nat) :
    Calls Try.prog 18 #[.pointer (some ⟨P.x, 0, none⟩), .agg #[.int .i64 kd, .int .i64 od, .int .i64 ok, .int .i64 ot, .slice va n vc]] w (OtherEnd P ρ w T F S TT BS PT LF m vp vb vl) := by
  by_cases k1 : kd = 1
  · subst k1; exact other_1 h hg hm od ok ot va vc n
  by_cases k3 : kd = 3
  · subst k3; exact other_3 h hg hm od ok ot va vc n
  by_cases k5 : kd = 5
  · subst k5; exact other_5 h hg hm od ok ot va vc n
  by_cases k6 : kd = 6
  · subst k6; exact other_6 h hg hm od ok ot va vc n
  by_cases k8 : kd = 8
  · subst k8; exact other_8 h hg hm od ok ot va vc n
  exact other_x h hg kd k1 k3 k5 k6 k8 od ok ot va vc n
end Go.Proofs.Ytghojbgjmpjhgaa
