
/-
  does: a call of both wires, kind by kind.
-/
import Derived.Test.YtghojbgjmpjhgaaX3
namespace Go.Proofs.Ytghojbgjmpjhgaa
open Go.RowKit


set_option maxRecDepth 100000 in
set_option maxHeartbeats 4000000 in
theorem does_1 {P : Pl} {ρ : Nat → Nat} {w : World} {ck : Int} {L R : Nat → List (Value × Frm)} {D : Nat → Dev} {T F : Nat → Nat} {m : Nat} (h : Rig P ρ w ck L R D T F m) (hm : m ≤ 2513169434843) (od ok ot : Int) (va : Option Addr) (vc n : Nat) :
    Calls Try.prog 9 #[.pointer (some ⟨P.x, 0, none⟩), .agg #[.int .i64 1, .int .i64 od, .int .i64 ok, .int .i64 ot, .slice va n vc]] w (DoesEnd P ρ w D 1 m) := by
  have bx : Below w.heap.size w (w.alloc (.cells #[.int .i64 1, .int .i64 od, .int .i64 ok, .int .i64 ot, .slice va n vc] 29)) := (Below.refl _ _).alloc (Nat.le_refl _) _
  have BX := hide bx
  have H1 := hide (h.later bx)
  have F5 := Five.new w 1 od ok ot (.slice va n vc) 29
  have NS : Hid (ρ w.heap.size = 0) := h.fresh0
  have BND := hide (h.toHalf.bounds hm)
  have RBN := hide (h.rbounds hm)
  have EQ := hide h.e
  obtain ⟨s, hs⟩ : ∃ s, s = w.heap.size := ⟨_, rfl⟩
  rw [← hs] at F5 NS
  clear h bx
  go_enter Try.func9, Try.ntmps9
  have hs' := hs
  clear hs
  go_upto_region 1 with fail
  rw [← hs']
  clear hs'
  generalize w.alloc (.cells #[.int .i64 1, .int .i64 od, .int .i64 ok, .int .i64 ot, .slice va n vc] 29) = w1 at *
  have F5H := hide F5
  obtain ⟨c0, _, _, _, _⟩ := F5

  have RQ : Hid (∀ (ρ3 : Nat → Nat) (w3 : World), RNet ρ3 w3 P.rb P.rdv ck R D → Calls Try.prog 31 #[.pointer (some ⟨P.rb, 0, none⟩), .int .i64 od] w3 (fun e w' => e = .returned (.int .i64 (plE D od)) ∧ ∃ R', RDid ρ3 w3 w' P.rb P.rdv ck R' (plD D od) ∧ ab R' = plA (ab L) D ck od)) := fun ρ3 w3 r3 => by
    have q := rPull_any r3 od ⟨BND.out.1.1, by have := BND.out.1.2; omega⟩ BND.out.2.1 RBN.out
    rw [← EQ.out] at q
    exact q
  have IV := hide (H1.out.i.pull H1.out.n.ok od)
  have q2 : But (Mid ρ) w1 w1.drew := (But.refl _ _).drew
  have keepS : Hid (∀ W : World, But (Mid ρ) w1 W → (W.cell? ⟨P.x, 2, none⟩ = some (.pointer (some ⟨P.b, 0, none⟩)) ∧ W.cell? ⟨P.x, 5, none⟩ = some (.pointer (some ⟨P.rb, 0, none⟩)) ∧ W.cell? ⟨s, 1, none⟩ = some (.int .i64 od))) := fun W hb => by
    have kc := H1.out.cells hb
    have k5 := F5H.out.but hb (fun e => by unfold Mid at e; rw [NS.out] at e; omega)
    exact ⟨kc.cw, kc.cv, k5.c1⟩
  go_upto_region 3 with fail
  clear c0
  go_region_held (fun W => W.cell? ⟨P.x, 2, none⟩ = some (.pointer (some ⟨P.b, 0, none⟩)) ∧ W.cell? ⟨P.x, 5, none⟩ = some (.pointer (some ⟨P.rb, 0, none⟩)) ∧ W.cell? ⟨s, 1, none⟩ = some (.int .i64 od)) (exact keepS.out _ (by assumption))
    (first
      | (go_at_call 22; refine (Pull_any H1.out.n.drew od ⟨BND.out.1.1, by have := BND.out.1.2; omega⟩ BND.out.2.1 BND.out.2.2.2).mono ?_; rintro e w3 ⟨rfl, L', hD, hA⟩; obtain ⟨ρ3, n3, r3, e3, b3⟩ := H1.out.drew.first hD; have N3 := hide n3; have R3 := hide r3; have E3 := hide e3; have HA := hide hA; have q3 : But (Mid ρ) w1 w3 := q2.trans b3; clear hD hA n3 r3 e3 b3)
      | (go_at_call 31; refine (RQ.out _ _ R3.out).mono ?_; rintro e w4 ⟨rfl, R', hRD, hRA⟩; have G4 := hide (H1.out.second N3.out E3.out q3 hRD (HA.out.trans hRA.symm) (by rw [HA.out]; exact IV.out)); obtain ⟨_, _, _, b4⟩ := hRD; have q4 : But (Mid ρ) w1 w4 := mid_trans q3 E3.out (rro_mid b4); clear hRA b4))
  clear q2 q3 q4 keepS
  go_wp2
  go_ret
  exact ⟨rfl, _, _, _, _, _, _, goes_after BX.out G4.out, fun _ _ => same01_pl D od⟩

set_option maxRecDepth 100000 in
set_option maxHeartbeats 4000000 in
theorem does_3 {P : Pl} {ρ : Nat → Nat} {w : World} {ck : Int} {L R : Nat → List (Value × Frm)} {D : Nat → Dev} {T F : Nat → Nat} {m : Nat} (h : Rig P ρ w ck L R D T F m) (hm : m ≤ 2513169434843) (od ok ot : Int) (va : Option Addr) (vc n : Nat) :
    Calls Try.prog 9 #[.pointer (some ⟨P.x, 0, none⟩), .agg #[.int .i64 3, .int .i64 od, .int .i64 ok, .int .i64 ot, .slice va n vc]] w (DoesEnd P ρ w D 3 m) := by
  have bx : Below w.heap.size w (w.alloc (.cells #[.int .i64 3, .int .i64 od, .int .i64 ok, .int .i64 ot, .slice va n vc] 29)) := (Below.refl _ _).alloc (Nat.le_refl _) _
  have BX := hide bx
  have H1 := hide (h.later bx)
  have F5 := Five.new w 3 od ok ot (.slice va n vc) 29
  have NS : Hid (ρ w.heap.size = 0) := h.fresh0
  have BND := hide (h.toHalf.bounds hm)
  have RBN := hide (h.rbounds hm)
  have EQ := hide h.e
  obtain ⟨s, hs⟩ : ∃ s, s = w.heap.size := ⟨_, rfl⟩
  rw [← hs] at F5 NS
  clear h bx
  go_enter Try.func9, Try.ntmps9
  have hs' := hs
  clear hs
  go_upto_region 1 with fail
  rw [← hs']
  clear hs'
  generalize w.alloc (.cells #[.int .i64 3, .int .i64 od, .int .i64 ok, .int .i64 ot, .slice va n vc] 29) = w1 at *
  have F5H := hide F5
  obtain ⟨c0, _, _, _, _⟩ := F5

  have RQ : Hid (∀ (ρ3 : Nat → Nat) (w3 : World), RNet ρ3 w3 P.rb P.rdv ck R D → Calls Try.prog 34 #[.pointer (some ⟨P.rb, 0, none⟩), .int .i64 od, .int .i64 ok] w3 (fun e w' => e = .returned (.int .i64 (thE (fun i => (ab L i).length) od ok)) ∧ ∃ R', RDid ρ3 w3 w' P.rb P.rdv ck R' (D) ∧ ab R' = drA (ab L) od ok)) := fun ρ3 w3 r3 => by
    have q := qDrop r3 RBN.out od ok
    rw [← EQ.out] at q
    exact q
  have IV := hide (H1.out.i.drop od ok)
  have q2 : But (Mid ρ) w1 w1.drew := (But.refl _ _).drew
  have keepS : Hid (∀ W : World, But (Mid ρ) w1 W → (W.cell? ⟨P.x, 2, none⟩ = some (.pointer (some ⟨P.b, 0, none⟩)) ∧ W.cell? ⟨P.x, 5, none⟩ = some (.pointer (some ⟨P.rb, 0, none⟩)) ∧ W.cell? ⟨s, 1, none⟩ = some (.int .i64 od) ∧ W.cell? ⟨s, 2, none⟩ = some (.int .i64 ok))) := fun W hb => by
    have kc := H1.out.cells hb
    have k5 := F5H.out.but hb (fun e => by unfold Mid at e; rw [NS.out] at e; omega)
    exact ⟨kc.cw, kc.cv, k5.c1, k5.c2⟩
  go_upto_region 7 with fail
  clear c0
  go_region_held (fun W => W.cell? ⟨P.x, 2, none⟩ = some (.pointer (some ⟨P.b, 0, none⟩)) ∧ W.cell? ⟨P.x, 5, none⟩ = some (.pointer (some ⟨P.rb, 0, none⟩)) ∧ W.cell? ⟨s, 1, none⟩ = some (.int .i64 od) ∧ W.cell? ⟨s, 2, none⟩ = some (.int .i64 ok)) (exact keepS.out _ (by assumption))
    (first
      | (go_at_call 33; refine (pDrop H1.out.n.drew od ok).mono ?_; rintro e w3 ⟨rfl, L', hD, hA⟩; obtain ⟨ρ3, n3, r3, e3, b3⟩ := H1.out.drew.first hD; have N3 := hide n3; have R3 := hide r3; have E3 := hide e3; have HA := hide hA; have q3 : But (Mid ρ) w1 w3 := q2.trans b3; clear hD hA n3 r3 e3 b3)
      | (go_at_call 34; refine (RQ.out _ _ R3.out).mono ?_; rintro e w4 ⟨rfl, R', hRD, hRA⟩; have G4 := hide (H1.out.second N3.out E3.out q3 hRD (HA.out.trans hRA.symm) (by rw [HA.out]; exact IV.out)); obtain ⟨_, _, _, b4⟩ := hRD; have q4 : But (Mid ρ) w1 w4 := mid_trans q3 E3.out (rro_mid b4); clear hRA b4))
  clear q2 q3 q4 keepS
  go_wp2
  go_ret
  exact ⟨rfl, _, _, _, _, _, _, goes_after BX.out G4.out, fun _ _ => same01_refl D⟩

set_option maxRecDepth 100000 in
set_option maxHeartbeats 4000000 in
theorem does_4 {P : Pl} {ρ : Nat → Nat} {w : World} {ck : Int} {L R : Nat → List (Value × Frm)} {D : Nat → Dev} {T F : Nat → Nat} {m : Nat} (h : Rig P ρ w ck L R D T F m) (hm : m ≤ 2513169434843) (od ok ot : Int) (va : Option Addr) (vc n : Nat) :
    Calls Try.prog 9 #[.pointer (some ⟨P.x, 0, none⟩), .agg #[.int .i64 4, .int .i64 od, .int .i64 ok, .int .i64 ot, .slice va n vc]] w (DoesEnd P ρ w D 4 m) := by
  have bx : Below w.heap.size w (w.alloc (.cells #[.int .i64 4, .int .i64 od, .int .i64 ok, .int .i64 ot, .slice va n vc] 29)) := (Below.refl _ _).alloc (Nat.le_refl _) _
  have BX := hide bx
  have H1 := hide (h.later bx)
  have F5 := Five.new w 4 od ok ot (.slice va n vc) 29
  have NS : Hid (ρ w.heap.size = 0) := h.fresh0
  have BND := hide (h.toHalf.bounds hm)
  have RBN := hide (h.rbounds hm)
  have EQ := hide h.e
  obtain ⟨s, hs⟩ : ∃ s, s = w.heap.size := ⟨_, rfl⟩
  rw [← hs] at F5 NS
  clear h bx
  go_enter Try.func9, Try.ntmps9
  have hs' := hs
  clear hs
  go_upto_region 1 with fail
  rw [← hs']
  clear hs'
  generalize w.alloc (.cells #[.int .i64 4, .int .i64 od, .int .i64 ok, .int .i64 ot, .slice va n vc] 29) = w1 at *
  have F5H := hide F5
  obtain ⟨c0, _, _, _, _⟩ := F5

  have RQ : Hid (∀ (ρ3 : Nat → Nat) (w3 : World), RNet ρ3 w3 P.rb P.rdv ck R D → Calls Try.prog 35 #[.pointer (some ⟨P.rb, 0, none⟩), .int .i64 od, .int .i64 ok] w3 (fun e w' => e = .returned (.int .i64 (thE (fun i => (ab L i).length) od ok)) ∧ ∃ R', RDid ρ3 w3 w' P.rb P.rdv ck R' (D) ∧ ab R' = dbA (ab L) od ok)) := fun ρ3 w3 r3 => by
    have q := qDouble r3 RBN.out od ok
    rw [← EQ.out] at q
    exact q
  have IV := hide (H1.out.i.double od ok)
  have q2 : But (Mid ρ) w1 w1.drew := (But.refl _ _).drew
  have keepS : Hid (∀ W : World, But (Mid ρ) w1 W → (W.cell? ⟨P.x, 2, none⟩ = some (.pointer (some ⟨P.b, 0, none⟩)) ∧ W.cell? ⟨P.x, 5, none⟩ = some (.pointer (some ⟨P.rb, 0, none⟩)) ∧ W.cell? ⟨s, 1, none⟩ = some (.int .i64 od) ∧ W.cell? ⟨s, 2, none⟩ = some (.int .i64 ok))) := fun W hb => by
    have kc := H1.out.cells hb
    have k5 := F5H.out.but hb (fun e => by unfold Mid at e; rw [NS.out] at e; omega)
    exact ⟨kc.cw, kc.cv, k5.c1, k5.c2⟩
  go_upto_region 9 with fail
  clear c0
  go_region_held (fun W => W.cell? ⟨P.x, 2, none⟩ = some (.pointer (some ⟨P.b, 0, none⟩)) ∧ W.cell? ⟨P.x, 5, none⟩ = some (.pointer (some ⟨P.rb, 0, none⟩)) ∧ W.cell? ⟨s, 1, none⟩ = some (.int .i64 od) ∧ W.cell? ⟨s, 2, none⟩ = some (.int .i64 ok)) (exact keepS.out _ (by assumption))
    (first
      | (go_at_call 16; refine (pDouble H1.out.n.drew BND.out.2.2.2 od ok).mono ?_; rintro e w3 ⟨rfl, L', hD, hA⟩; obtain ⟨ρ3, n3, r3, e3, b3⟩ := H1.out.drew.first hD; have N3 := hide n3; have R3 := hide r3; have E3 := hide e3; have HA := hide hA; have q3 : But (Mid ρ) w1 w3 := q2.trans b3; clear hD hA n3 r3 e3 b3)
      | (go_at_call 35; refine (RQ.out _ _ R3.out).mono ?_; rintro e w4 ⟨rfl, R', hRD, hRA⟩; have G4 := hide (H1.out.second N3.out E3.out q3 hRD (HA.out.trans hRA.symm) (by rw [HA.out]; exact IV.out)); obtain ⟨_, _, _, b4⟩ := hRD; have q4 : But (Mid ρ) w1 w4 := mid_trans q3 E3.out (rro_mid b4); clear hRA b4))
  clear q2 q3 q4 keepS
  go_wp2
  go_ret
  exact ⟨rfl, _, _, _, _, _, _, goes_after BX.out G4.out, fun _ _ => same01_refl D⟩

set_option maxRecDepth 100000 in
set_option maxHeartbeats 4000000 in
theorem does_5 {P : Pl} {ρ : Nat → Nat} {w : World} {ck : Int} {L R : Nat → List (Value × Frm)} {D : Nat → Dev} {T F : Nat → Nat} {m : Nat} (h : Rig P ρ w ck L R D T F m) (hm : m ≤ 2513169434843) (od ok ot : Int) (va : Option Addr) (vc n : Nat) :
    Calls Try.prog 9 #[.pointer (some ⟨P.x, 0, none⟩), .agg #[.int .i64 5, .int .i64 od, .int .i64 ok, .int .i64 ot, .slice va n vc]] w (DoesEnd P ρ w D 5 m) := by
  have bx : Below w.heap.size w (w.alloc (.cells #[.int .i64 5, .int .i64 od, .int .i64 ok, .int .i64 ot, .slice va n vc] 29)) := (Below.refl _ _).alloc (Nat.le_refl _) _
  have BX := hide bx
  have H1 := hide (h.later bx)
  have F5 := Five.new w 5 od ok ot (.slice va n vc) 29
  have NS : Hid (ρ w.heap.size = 0) := h.fresh0
  have BND := hide (h.toHalf.bounds hm)
  have RBN := hide (h.rbounds hm)
  have EQ := hide h.e
  obtain ⟨s, hs⟩ : ∃ s, s = w.heap.size := ⟨_, rfl⟩
  rw [← hs] at F5 NS
  clear h bx
  go_enter Try.func9, Try.ntmps9
  have hs' := hs
  clear hs
  go_upto_region 1 with fail
  rw [← hs']
  clear hs'
  generalize w.alloc (.cells #[.int .i64 5, .int .i64 od, .int .i64 ok, .int .i64 ot, .slice va n vc] 29) = w1 at *
  have F5H := hide F5
  obtain ⟨c0, _, _, _, _⟩ := F5

  have RQ : Hid (∀ (ρ3 : Nat → Nat) (w3 : World), RNet ρ3 w3 P.rb P.rdv ck R D → Calls Try.prog 36 #[.pointer (some ⟨P.rb, 0, none⟩), .int .i64 od, .int .i64 ok, .int .i64 ot] w3 (fun e w' => e = .returned (.int .i64 (mvE (ab L) od ok ot)) ∧ ∃ R', RDid ρ3 w3 w' P.rb P.rdv ck R' (D) ∧ ab R' = mvA (ab L) od ok ot)) := fun ρ3 w3 r3 => by
    have q := rMove_any r3 RBN.out od ok ot
    rw [← EQ.out] at q
    exact q
  have IV := hide (H1.out.i.move od ok ot)
  have q2 : But (Mid ρ) w1 w1.drew := (But.refl _ _).drew
  have keepS : Hid (∀ W : World, But (Mid ρ) w1 W → (W.cell? ⟨P.x, 2, none⟩ = some (.pointer (some ⟨P.b, 0, none⟩)) ∧ W.cell? ⟨P.x, 5, none⟩ = some (.pointer (some ⟨P.rb, 0, none⟩)) ∧ W.cell? ⟨s, 1, none⟩ = some (.int .i64 od) ∧ W.cell? ⟨s, 2, none⟩ = some (.int .i64 ok) ∧ W.cell? ⟨s, 3, none⟩ = some (.int .i64 ot))) := fun W hb => by
    have kc := H1.out.cells hb
    have k5 := F5H.out.but hb (fun e => by unfold Mid at e; rw [NS.out] at e; omega)
    exact ⟨kc.cw, kc.cv, k5.c1, k5.c2, k5.c3⟩
  go_upto_region 11 with fail
  clear c0
  go_region_held (fun W => W.cell? ⟨P.x, 2, none⟩ = some (.pointer (some ⟨P.b, 0, none⟩)) ∧ W.cell? ⟨P.x, 5, none⟩ = some (.pointer (some ⟨P.rb, 0, none⟩)) ∧ W.cell? ⟨s, 1, none⟩ = some (.int .i64 od) ∧ W.cell? ⟨s, 2, none⟩ = some (.int .i64 ok) ∧ W.cell? ⟨s, 3, none⟩ = some (.int .i64 ot)) (exact keepS.out _ (by assumption))
    (first
      | (go_at_call 23; refine (Move_any H1.out.n.drew od ok ot).mono ?_; rintro e w3 ⟨rfl, L', hD, hA⟩; obtain ⟨ρ3, n3, r3, e3, b3⟩ := H1.out.drew.first hD; have N3 := hide n3; have R3 := hide r3; have E3 := hide e3; have HA := hide hA; have q3 : But (Mid ρ) w1 w3 := q2.trans b3; clear hD hA n3 r3 e3 b3)
      | (go_at_call 36; refine (RQ.out _ _ R3.out).mono ?_; rintro e w4 ⟨rfl, R', hRD, hRA⟩; have G4 := hide (H1.out.second N3.out E3.out q3 hRD (HA.out.trans hRA.symm) (by rw [HA.out]; exact IV.out)); obtain ⟨_, _, _, b4⟩ := hRD; have q4 : But (Mid ρ) w1 w4 := mid_trans q3 E3.out (rro_mid b4); clear hRA b4))
  clear q2 q3 q4 keepS
  go_wp2
  go_ret
  exact ⟨rfl, _, _, _, _, _, _, goes_after BX.out G4.out, fun _ _ => same01_refl D⟩

set_option maxRecDepth 100000 in
set_option maxHeartbeats 4000000 in
theorem does_6 {P : Pl} {ρ : Nat → Nat} {w : World} {ck : Int} {L R : Nat → List (Value × Frm)} {D : Nat → Dev} {T F : Nat → Nat} {m : Nat} (h : Rig P ρ w ck L R D T F m) (hm : m ≤ 2513169434843) (od ok ot : Int) (va : Option Addr) (vc n : Nat) :
    Calls Try.prog 9 #[.pointer (some ⟨P.x, 0, none⟩), .agg #[.int .i64 6, .int .i64 od, .int .i64 ok, .int .i64 ot, .slice va n vc]] w (DoesEnd P ρ w D 6 m) := by
  have bx : Below w.heap.size w (w.alloc (.cells #[.int .i64 6, .int .i64 od, .int .i64 ok, .int .i64 ot, .slice va n vc] 29)) := (Below.refl _ _).alloc (Nat.le_refl _) _
  have BX := hide bx
  have H1 := hide (h.later bx)
  have F5 := Five.new w 6 od ok ot (.slice va n vc) 29
  have NS : Hid (ρ w.heap.size = 0) := h.fresh0
  have BND := hide (h.toHalf.bounds hm)
  have RBN := hide (h.rbounds hm)
  have EQ := hide h.e
  obtain ⟨s, hs⟩ : ∃ s, s = w.heap.size := ⟨_, rfl⟩
  rw [← hs] at F5 NS
  clear h bx
  go_enter Try.func9, Try.ntmps9
  have hs' := hs
  clear hs
  go_upto_region 1 with fail
  rw [← hs']
  clear hs'
  generalize w.alloc (.cells #[.int .i64 6, .int .i64 od, .int .i64 ok, .int .i64 ot, .slice va n vc] 29) = w1 at *
  have F5H := hide F5
  obtain ⟨c0, _, _, _, _⟩ := F5

  have RQ : Hid (∀ (ρ3 : Nat → Nat) (w3 : World), RNet ρ3 w3 P.rb P.rdv ck R D → Calls Try.prog 37 #[.pointer (some ⟨P.rb, 0, none⟩), .int .i64 od, .int .i64 ok, .int .i64 ot] w3 (fun e w' => e = .returned (.int .i64 (dmE (ab L) od ok ot)) ∧ ∃ R', RDid ρ3 w3 w' P.rb P.rdv ck R' (D) ∧ ab R' = dmA (ab L) od ok ot)) := fun ρ3 w3 r3 => by
    have q := rDamage_any r3 od ok ot
    rw [← EQ.out] at q
    exact q
  have IV := hide (H1.out.i.damage od ok ot)
  have q2 : But (Mid ρ) w1 w1.drew := (But.refl _ _).drew
  have keepS : Hid (∀ W : World, But (Mid ρ) w1 W → (W.cell? ⟨P.x, 2, none⟩ = some (.pointer (some ⟨P.b, 0, none⟩)) ∧ W.cell? ⟨P.x, 5, none⟩ = some (.pointer (some ⟨P.rb, 0, none⟩)) ∧ W.cell? ⟨s, 1, none⟩ = some (.int .i64 od) ∧ W.cell? ⟨s, 2, none⟩ = some (.int .i64 ok) ∧ W.cell? ⟨s, 3, none⟩ = some (.int .i64 ot))) := fun W hb => by
    have kc := H1.out.cells hb
    have k5 := F5H.out.but hb (fun e => by unfold Mid at e; rw [NS.out] at e; omega)
    exact ⟨kc.cw, kc.cv, k5.c1, k5.c2, k5.c3⟩
  go_upto_region 13 with fail
  clear c0
  go_region_held (fun W => W.cell? ⟨P.x, 2, none⟩ = some (.pointer (some ⟨P.b, 0, none⟩)) ∧ W.cell? ⟨P.x, 5, none⟩ = some (.pointer (some ⟨P.rb, 0, none⟩)) ∧ W.cell? ⟨s, 1, none⟩ = some (.int .i64 od) ∧ W.cell? ⟨s, 2, none⟩ = some (.int .i64 ok) ∧ W.cell? ⟨s, 3, none⟩ = some (.int .i64 ot)) (exact keepS.out _ (by assumption))
    (first
      | (go_at_call 24; refine (Damage_any H1.out.n.drew od ok ot).mono ?_; rintro e w3 ⟨rfl, L', hD, hA⟩; obtain ⟨ρ3, n3, r3, e3, b3⟩ := H1.out.drew.first hD; have N3 := hide n3; have R3 := hide r3; have E3 := hide e3; have HA := hide hA; have q3 : But (Mid ρ) w1 w3 := q2.trans b3; clear hD hA n3 r3 e3 b3)
      | (go_at_call 37; refine (RQ.out _ _ R3.out).mono ?_; rintro e w4 ⟨rfl, R', hRD, hRA⟩; have G4 := hide (H1.out.second N3.out E3.out q3 hRD (HA.out.trans hRA.symm) (by rw [HA.out]; exact IV.out)); obtain ⟨_, _, _, b4⟩ := hRD; have q4 : But (Mid ρ) w1 w4 := mid_trans q3 E3.out (rro_mid b4); clear hRA b4))
  clear q2 q3 q4 keepS
  go_wp2
  go_ret
  exact ⟨rfl, _, _, _, _, _, _, goes_after BX.out G4.out, fun _ _ => same01_refl D⟩

set_option maxRecDepth 100000 in
set_option maxHeartbeats 4000000 in
theorem does_7 {P : Pl} {ρ : Nat → Nat} {w : World} {ck : Int} {L R : Nat → List (Value × Frm)} {D : Nat → Dev} {T F : Nat → Nat} {m : Nat} (h : Rig P ρ w ck L R D T F m) (hm : m ≤ 2513169434843) (od ok ot : Int) (va : Option Addr) (vc n : Nat) :
    Calls Try.prog 9 #[.pointer (some ⟨P.x, 0, none⟩), .agg #[.int .i64 7, .int .i64 od, .int .i64 ok, .int .i64 ot, .slice va n vc]] w (DoesEnd P ρ w D 7 m) := by
  have bx : Below w.heap.size w (w.alloc (.cells #[.int .i64 7, .int .i64 od, .int .i64 ok, .int .i64 ot, .slice va n vc] 29)) := (Below.refl _ _).alloc (Nat.le_refl _) _
  have BX := hide bx
  have H1 := hide (h.later bx)
  have F5 := Five.new w 7 od ok ot (.slice va n vc) 29
  have NS : Hid (ρ w.heap.size = 0) := h.fresh0
  have BND := hide (h.toHalf.bounds hm)
  have RBN := hide (h.rbounds hm)
  have EQ := hide h.e
  obtain ⟨s, hs⟩ : ∃ s, s = w.heap.size := ⟨_, rfl⟩
  rw [← hs] at F5 NS
  clear h bx
  go_enter Try.func9, Try.ntmps9
  have hs' := hs
  clear hs
  go_upto_region 1 with fail
  rw [← hs']
  clear hs'
  generalize w.alloc (.cells #[.int .i64 7, .int .i64 od, .int .i64 ok, .int .i64 ot, .slice va n vc] 29) = w1 at *
  have F5H := hide F5
  obtain ⟨c0, _, _, _, _⟩ := F5

  have RQ : Hid (∀ (ρ3 : Nat → Nat) (w3 : World), RNet ρ3 w3 P.rb P.rdv ck R D → Calls Try.prog 39 #[.pointer (some ⟨P.rb, 0, none⟩), .int .i64 od, .int .i64 ok] w3 (fun e w' => e = .returned (.int .i64 (dlEA (ab L) D od ok)) ∧ ∃ R', RDid ρ3 w3 w' P.rb P.rdv ck R' (dlDA (ab L) D od ok) ∧ ab R' = drA (ab L) od ok)) := fun ρ3 w3 r3 => by
    have q := qDeliver r3 RBN.out od ok
    rw [← EQ.out] at q
    exact q
  have IV := hide (H1.out.i.deliver od ok)
  have q2 : But (Mid ρ) w1 w1.drew := (But.refl _ _).drew
  have keepS : Hid (∀ W : World, But (Mid ρ) w1 W → (W.cell? ⟨P.x, 2, none⟩ = some (.pointer (some ⟨P.b, 0, none⟩)) ∧ W.cell? ⟨P.x, 5, none⟩ = some (.pointer (some ⟨P.rb, 0, none⟩)) ∧ W.cell? ⟨s, 1, none⟩ = some (.int .i64 od) ∧ W.cell? ⟨s, 2, none⟩ = some (.int .i64 ok))) := fun W hb => by
    have kc := H1.out.cells hb
    have k5 := F5H.out.but hb (fun e => by unfold Mid at e; rw [NS.out] at e; omega)
    exact ⟨kc.cw, kc.cv, k5.c1, k5.c2⟩
  go_upto_region 15 with fail
  clear c0
  go_region_held (fun W => W.cell? ⟨P.x, 2, none⟩ = some (.pointer (some ⟨P.b, 0, none⟩)) ∧ W.cell? ⟨P.x, 5, none⟩ = some (.pointer (some ⟨P.rb, 0, none⟩)) ∧ W.cell? ⟨s, 1, none⟩ = some (.int .i64 od) ∧ W.cell? ⟨s, 2, none⟩ = some (.int .i64 ok)) (exact keepS.out _ (by assumption))
    (first
      | (go_at_call 38; refine (pDeliver H1.out.n.drew od ok).mono ?_; rintro e w3 ⟨rfl, L', hD, hA⟩; obtain ⟨ρ3, n3, r3, e3, b3⟩ := H1.out.drew.first hD; have N3 := hide n3; have R3 := hide r3; have E3 := hide e3; have HA := hide hA; have q3 : But (Mid ρ) w1 w3 := q2.trans b3; clear hD hA n3 r3 e3 b3)
      | (go_at_call 39; refine (RQ.out _ _ R3.out).mono ?_; rintro e w4 ⟨rfl, R', hRD, hRA⟩; have G4 := hide (H1.out.second N3.out E3.out q3 hRD (HA.out.trans hRA.symm) (by rw [HA.out]; exact IV.out)); obtain ⟨_, _, _, b4⟩ := hRD; have q4 : But (Mid ρ) w1 w4 := mid_trans q3 E3.out (rro_mid b4); clear hRA b4))
  clear q2 q3 q4 keepS
  go_wp2
  go_ret
  exact ⟨rfl, _, _, _, _, _, _, goes_after BX.out G4.out, fun _ _ => same01_dl (ab L) D od ok⟩

set_option maxRecDepth 100000 in
set_option maxHeartbeats 4000000 in
theorem does_8 {P : Pl} {ρ : Nat → Nat} {w : World} {ck : Int} {L R : Nat → List (Value × Frm)} {D : Nat → Dev} {T F : Nat → Nat} {m : Nat} (h : Rig P ρ w ck L R D T F m) (hm : m ≤ 2513169434843) (od ok ot : Int) (va : Option Addr) (vc n : Nat) :
    Calls Try.prog 9 #[.pointer (some ⟨P.x, 0, none⟩), .agg #[.int .i64 8, .int .i64 od, .int .i64 ok, .int .i64 ot, .slice va n vc]] w (DoesEnd P ρ w D 8 m) := by
  have bx : Below w.heap.size w (w.alloc (.cells #[.int .i64 8, .int .i64 od, .int .i64 ok, .int .i64 ot, .slice va n vc] 29)) := (Below.refl _ _).alloc (Nat.le_refl _) _
  have BX := hide bx
  have H1 := hide (h.later bx)
  have F5 := Five.new w 8 od ok ot (.slice va n vc) 29
  have NS : Hid (ρ w.heap.size = 0) := h.fresh0
  have BND := hide (h.toHalf.bounds hm)
  have RBN := hide (h.rbounds hm)
  have EQ := hide h.e
  obtain ⟨s, hs⟩ : ∃ s, s = w.heap.size := ⟨_, rfl⟩
  rw [← hs] at F5 NS
  clear h bx
  go_enter Try.func9, Try.ntmps9
  have hs' := hs
  clear hs
  go_upto_region 1 with fail
  rw [← hs']
  clear hs'
  generalize w.alloc (.cells #[.int .i64 8, .int .i64 od, .int .i64 ok, .int .i64 ot, .slice va n vc] 29) = w1 at *
  have F5H := hide F5
  obtain ⟨c0, _, _, _, _⟩ := F5

  have cx := H1.out.c.cw
  have W8 := hide (wTick_any H1.out.n ⟨BND.out.1.1, by have := BND.out.1.2; omega⟩ BND.out.2.1 BND.out.2.2.1 BND.out.2.2.2)
  have RQ : Hid (∀ (ρ3 : Nat → Nat) (w3 : World), RNet ρ3 w3 P.rb P.rdv ck R D → Calls Try.prog 40 #[.pointer (some ⟨P.rb, 0, none⟩)] w3 (fun e w' => e = .returned (.tuple #[]) ∧ ∃ R', RDid ρ3 w3 w' P.rb P.rdv (ck + 1) R' (tiD D (ck + 1)) ∧ ab R' = tiA (ab L) (ck + 1))) := fun ρ3 w3 r3 => by
    have q := rTick_any r3 ⟨BND.out.1.1, by have := BND.out.1.2; omega⟩ RBN.out
    rw [← EQ.out] at q
    exact q
  have IV := hide (H1.out.i.tick (by omega))
  go_wp2_with fail
  refine W8.out.mono ?_
  rintro e w3 ⟨rfl, L', hD, hA⟩
  obtain ⟨ρ3, n3, r3, e3, b3⟩ := H1.out.first hD
  have cv := (H1.out.cells b3).cv
  have N3 := hide n3
  have R3 := hide r3
  have E3 := hide e3
  have HA := hide hA
  have B3 := hide b3
  clear hD hA n3 r3 e3 b3 W8 cx c0
  go_wp2_with fail
  refine (RQ.out _ _ R3.out).mono ?_
  rintro e w4 ⟨rfl, R', hRD, hRA⟩
  have G4 := hide (H1.out.second N3.out E3.out B3.out hRD (HA.out.trans hRA.symm) (by rw [HA.out]; exact IV.out))
  clear hRD hRA RQ cv
  go_wp2
  go_ret
  exact ⟨rfl, _, _, _, _, _, _, goes_after BX.out G4.out, fun _ _ => same01_ti D (ck + 1)⟩

end Go.Proofs.Ytghojbgjmpjhgaa
