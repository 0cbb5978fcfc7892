
/-
  device, does: whatever is asked.
-/
import Derived.Test.YtghojbgjmpjhgaaX4
import Derived.Test.YtghojbgjmpjhgaaX5
import Derived.Test.YtghojbgjmpjhgaaX6
namespace Go.Proofs.Ytghojbgjmpjhgaa
open Go.RowKit

/-- what 'device' leaves -/
def DevEnd (P : Pl) (ρ : Nat → Nat) (w : World) (ck : Int) (L R : Nat → List (Value × Frm)) (D : Nat → Dev) (kd : Int) (m : Nat) (e : Ending) (w' : World) : Prop :=
  e = .returned (.bool true) ∧ ∃ D' T' F', Goes P ρ w w' ck L R D' T' F' m ∧ (kd ≠ 9 → kd ≠ 10 → Same01 D D')

set_option maxRecDepth 100000 in
set_option maxHeartbeats 4000000 in
theorem device_0 {P : Pl} {ρ : Nat → Nat} {w : World} {ck : Int} {L R : Nat → List (Value × Frm)} {D : Nat → Dev} {T F : Nat → Nat} {m : Nat} (h : Rig P ρ w ck L R D T F m) (od ok ot : Int) (va : Option Addr) (vc : Nat) (bs : List Int) (hv : IsF (fun x => P.n₀ ≤ x) w (.slice va bs.length vc) bs) (hl : bs.length ≤ 140737488351232) (hy : Hid (Byt bs)) :
    Calls Try.prog 41 #[.pointer (some ⟨P.x, 0, none⟩), .agg #[.int .i64 0, .int .i64 od, .int .i64 ok, .int .i64 ot, .slice va bs.length vc]] w (DevEnd P ρ w ck L R D 0 m) := by
  have bx : Below w.heap.size w (w.alloc (.cells #[.int .i64 0, .int .i64 od, .int .i64 ok, .int .i64 ot, .slice va bs.length vc] 29)) := (Below.refl _ _).alloc (Nat.le_refl _) _
  have BX := hide bx
  have H1 := hide (h.later bx)
  have F5 := Five.new w 0 od ok ot (.slice va bs.length vc) 29
  have NS : Hid (ρ w.heap.size = 0) := h.fresh0
  have HV := hide (hv.alloc (.cells #[.int .i64 0, .int .i64 od, .int .i64 ok, .int .i64 ot, .slice va bs.length vc] 29))
  obtain ⟨s, hs⟩ : ∃ s, s = w.heap.size := ⟨_, rfl⟩
  rw [← hs] at F5 NS
  clear h bx hv
  go_enter Try.func41, Try.ntmps41
  have hs' := hs
  clear hs
  go_upto_region 1 with fail
  rw [← hs']
  clear hs'
  generalize w.alloc (.cells #[.int .i64 0, .int .i64 od, .int .i64 ok, .int .i64 ot, .slice va bs.length vc] 29) = w1 at *
  have F5H := hide F5
  obtain ⟨c0, c1, c2, c3, c4⟩ := F5
  go_wp2_with fail
  refine (side_any od w1).mono ?_
  rintro e w' ⟨rfl, rfl⟩
  have hi := sd_lt od
  generalize sd od = i at *
  have hi2 : (i : Int) < 2 := by omega
  have hi0 : (0 : Int) ≤ (i : Int) := by omega

  go_wp2_with fail
  refine (rig_post_any H1.out i hi va vc bs (HV.out.avoid (fun g _ e => H1.out.low g e)) hl hy).mono ?_
  rintro e w3 ⟨rfl, D', T', F', hG, hS, _⟩
  have G := hide hG
  have SS := hide hS
  clear hG hS c0 c1 c2 c3 c4
  go_wp2
  go_ret
  exact ⟨rfl, _, _, _, goes_after BX.out G.out, fun _ _ => SS.out⟩

set_option maxRecDepth 100000 in
set_option maxHeartbeats 4000000 in
theorem device_11 {P : Pl} {ρ : Nat → Nat} {w : World} {ck : Int} {L R : Nat → List (Value × Frm)} {D : Nat → Dev} {T F : Nat → Nat} {m : Nat} (h : Rig P ρ w ck L R D T F m) (od ok ot : Int) (va : Option Addr) (vc : Nat) (bs : List Int) (hv : IsF (fun x => P.n₀ ≤ x) w (.slice va bs.length vc) bs) (_ : bs.length ≤ 140737488351232) (_ : Hid (Byt bs)) :
    Calls Try.prog 41 #[.pointer (some ⟨P.x, 0, none⟩), .agg #[.int .i64 11, .int .i64 od, .int .i64 ok, .int .i64 ot, .slice va bs.length vc]] w (DevEnd P ρ w ck L R D 11 m) := by
  have bx : Below w.heap.size w (w.alloc (.cells #[.int .i64 11, .int .i64 od, .int .i64 ok, .int .i64 ot, .slice va bs.length vc] 29)) := (Below.refl _ _).alloc (Nat.le_refl _) _
  have BX := hide bx
  have H1 := hide (h.later bx)
  have F5 := Five.new w 11 od ok ot (.slice va bs.length vc) 29
  have NS : Hid (ρ w.heap.size = 0) := h.fresh0
  have HV := hide (hv.alloc (.cells #[.int .i64 11, .int .i64 od, .int .i64 ok, .int .i64 ot, .slice va bs.length vc] 29))
  obtain ⟨s, hs⟩ : ∃ s, s = w.heap.size := ⟨_, rfl⟩
  rw [← hs] at F5 NS
  clear h bx hv
  go_enter Try.func41, Try.ntmps41
  have hs' := hs
  clear hs
  go_upto_region 1 with fail
  rw [← hs']
  clear hs'
  generalize w.alloc (.cells #[.int .i64 11, .int .i64 od, .int .i64 ok, .int .i64 ot, .slice va bs.length vc] 29) = w1 at *
  have F5H := hide F5
  obtain ⟨c0, c1, c2, c3, c4⟩ := F5
  go_wp2_with fail
  refine (side_any od w1).mono ?_
  rintro e w' ⟨rfl, rfl⟩
  have hi := sd_lt od
  generalize sd od = i at *
  have hi2 : (i : Int) < 2 := by omega
  have hi0 : (0 : Int) ≤ (i : Int) := by omega

  go_wp2_with fail
  refine (rig_room_any H1.out i hi ot).mono ?_
  rintro e w3 ⟨rfl, D', T', F', hG, hS⟩
  have G := hide hG
  have SS := hide hS
  clear hG hS c0 c1 c2 c3 c4
  go_wp2
  go_ret
  exact ⟨rfl, _, _, _, goes_after BX.out G.out, fun _ _ => SS.out⟩

set_option maxRecDepth 100000 in
set_option maxHeartbeats 4000000 in
theorem device_9 {P : Pl} {ρ : Nat → Nat} {w : World} {ck : Int} {L R : Nat → List (Value × Frm)} {D : Nat → Dev} {T F : Nat → Nat} {m : Nat} (h : Rig P ρ w ck L R D T F m) (od ok ot : Int) (va : Option Addr) (vc : Nat) (bs : List Int) (hv : IsF (fun x => P.n₀ ≤ x) w (.slice va bs.length vc) bs) (_ : bs.length ≤ 140737488351232) (_ : Hid (Byt bs)) :
    Calls Try.prog 41 #[.pointer (some ⟨P.x, 0, none⟩), .agg #[.int .i64 9, .int .i64 od, .int .i64 ok, .int .i64 ot, .slice va bs.length vc]] w (DevEnd P ρ w ck L R D 9 m) := by
  have bx : Below w.heap.size w (w.alloc (.cells #[.int .i64 9, .int .i64 od, .int .i64 ok, .int .i64 ot, .slice va bs.length vc] 29)) := (Below.refl _ _).alloc (Nat.le_refl _) _
  have BX := hide bx
  have H1 := hide (h.later bx)
  have F5 := Five.new w 9 od ok ot (.slice va bs.length vc) 29
  have NS : Hid (ρ w.heap.size = 0) := h.fresh0
  have HV := hide (hv.alloc (.cells #[.int .i64 9, .int .i64 od, .int .i64 ok, .int .i64 ot, .slice va bs.length vc] 29))
  obtain ⟨s, hs⟩ : ∃ s, s = w.heap.size := ⟨_, rfl⟩
  rw [← hs] at F5 NS
  clear h bx hv
  go_enter Try.func41, Try.ntmps41
  have hs' := hs
  clear hs
  go_upto_region 1 with fail
  rw [← hs']
  clear hs'
  generalize w.alloc (.cells #[.int .i64 9, .int .i64 od, .int .i64 ok, .int .i64 ot, .slice va bs.length vc] 29) = w1 at *
  have F5H := hide F5
  obtain ⟨c0, c1, c2, c3, c4⟩ := F5
  go_wp2_with fail
  refine (side_any od w1).mono ?_
  rintro e w' ⟨rfl, rfl⟩
  have hi := sd_lt od
  generalize sd od = i at *
  have hi2 : (i : Int) < 2 := by omega
  have hi0 : (0 : Int) ≤ (i : Int) := by omega

  have K1 : Hid (∀ W : World, But (Mid ρ) w' W → (W.cell? ⟨P.x, i, none⟩ = some (.pointer (some ⟨P.dv i, 0, none⟩)) ∧ W.cell? ⟨P.x, 3 + i, none⟩ = some (.pointer (some ⟨P.rdv i, 0, none⟩)) ∧ W.cell? ⟨s, 2, none⟩ = some (.int .i64 ok))) := fun W hb => by
    have c := H1.out.cells hb
    have k5 := F5H.out.but hb (fun e => by unfold Mid at e; rw [NS.out] at e; omega)
    exact ⟨c.cd i hi, c.cr i hi, k5.c2⟩
  obtain ⟨z, hz⟩ : ∃ z, Int.tmod ok 2 = z := ⟨_, rfl⟩
  by_cases z0 : z = 0
  · subst z0

    have X1 := hide (Link_any (H1.out.n.drew.dev i hi) (H1.out.n.ok i hi) true)
    have X2 := hide (fun (w3 : World) (r3 : RNet ρ w3 P.rb P.rdv ck R D) => rLink_any (r3.drew.dev i hi) (r3.ok i hi) true)
    have OK1 := hide ((H1.out.n.ok i hi).lk true)
    have IV := hide (H1.out.i.acts i ((H1.out.i.dv i hi).lk true))
    have q2 : But (Mid ρ) w' w'.drew := (But.refl _ _).drew
    go_upto_region 6 with fail
    go_region_held (fun W => W.cell? ⟨P.x, i, none⟩ = some (.pointer (some ⟨P.dv i, 0, none⟩)) ∧ W.cell? ⟨P.x, 3 + i, none⟩ = some (.pointer (some ⟨P.rdv i, 0, none⟩)) ∧ W.cell? ⟨s, 2, none⟩ = some (.int .i64 ok)) (exact K1.out _ (by assumption))
      (first
        | (go_at_call 66; refine X1.out.mono ?_; rintro e w3 ⟨rfl, hd3, hb3⟩; obtain ⟨n3, r3, b3⟩ := H1.out.drew.dev1 i hi hd3 OK1.out hb3; have N3 := hide n3.drew; have R3 := hide r3; have q3 : But (Mid ρ) w' w3 := q2.trans b3; clear hd3 hb3 n3 r3 b3))
    have q4 : But (Mid ρ) w' w3.drew := q3.drew
    clear q2 q3 X1
    go_upto_region 7 with fail
    go_region_held (fun W => W.cell? ⟨P.x, i, none⟩ = some (.pointer (some ⟨P.dv i, 0, none⟩)) ∧ W.cell? ⟨P.x, 3 + i, none⟩ = some (.pointer (some ⟨P.rdv i, 0, none⟩)) ∧ W.cell? ⟨s, 2, none⟩ = some (.int .i64 ok)) (exact K1.out _ (by assumption))
      (first
        | (go_at_call 67; refine (X2.out _ R3.out).mono ?_; rintro e w5 ⟨rfl, hd5, hb5⟩; obtain ⟨rig5, b5⟩ := H1.out.dev2 i hi N3.out R3.out.drew q4 hd5 OK1.out hb5 IV.out; have G5 := hide rig5; have q5 : But (Mid ρ) w' w5 := b5; clear hd5 hb5 rig5 b5))
    have B5 := hide q5
    clear q4 q5 X2 N3 R3
    go_wp2
    go_ret
    exact ⟨rfl, _, _, _, goes_after BX.out ⟨ρ, G5.out, fun _ _ => rfl, mid_mine B5.out⟩, fun e => absurd rfl e⟩

  · have qz : (z == 0) = false := by simp [z0]
    clear z0

    have X1 := hide (Link_any (H1.out.n.drew.dev i hi) (H1.out.n.ok i hi) false)
    have X2 := hide (fun (w3 : World) (r3 : RNet ρ w3 P.rb P.rdv ck R D) => rLink_any (r3.drew.dev i hi) (r3.ok i hi) false)
    have OK1 := hide ((H1.out.n.ok i hi).lk false)
    have IV := hide (H1.out.i.acts i ((H1.out.i.dv i hi).lk false))
    have q2 : But (Mid ρ) w' w'.drew := (But.refl _ _).drew
    go_upto_region 6 with fail
    go_region_held (fun W => W.cell? ⟨P.x, i, none⟩ = some (.pointer (some ⟨P.dv i, 0, none⟩)) ∧ W.cell? ⟨P.x, 3 + i, none⟩ = some (.pointer (some ⟨P.rdv i, 0, none⟩)) ∧ W.cell? ⟨s, 2, none⟩ = some (.int .i64 ok)) (exact K1.out _ (by assumption))
      (first
        | (go_at_call 66; refine X1.out.mono ?_; rintro e w3 ⟨rfl, hd3, hb3⟩; obtain ⟨n3, r3, b3⟩ := H1.out.drew.dev1 i hi hd3 OK1.out hb3; have N3 := hide n3.drew; have R3 := hide r3; have q3 : But (Mid ρ) w' w3 := q2.trans b3; clear hd3 hb3 n3 r3 b3))
    have q4 : But (Mid ρ) w' w3.drew := q3.drew
    clear q2 q3 X1
    go_upto_region 7 with fail
    go_region_held (fun W => W.cell? ⟨P.x, i, none⟩ = some (.pointer (some ⟨P.dv i, 0, none⟩)) ∧ W.cell? ⟨P.x, 3 + i, none⟩ = some (.pointer (some ⟨P.rdv i, 0, none⟩)) ∧ W.cell? ⟨s, 2, none⟩ = some (.int .i64 ok)) (exact K1.out _ (by assumption))
      (first
        | (go_at_call 67; refine (X2.out _ R3.out).mono ?_; rintro e w5 ⟨rfl, hd5, hb5⟩; obtain ⟨rig5, b5⟩ := H1.out.dev2 i hi N3.out R3.out.drew q4 hd5 OK1.out hb5 IV.out; have G5 := hide rig5; have q5 : But (Mid ρ) w' w5 := b5; clear hd5 hb5 rig5 b5))
    have B5 := hide q5
    clear q4 q5 X2 N3 R3
    go_wp2
    go_ret
    exact ⟨rfl, _, _, _, goes_after BX.out ⟨ρ, G5.out, fun _ _ => rfl, mid_mine B5.out⟩, fun e => absurd rfl e⟩


set_option maxRecDepth 100000 in
set_option maxHeartbeats 4000000 in
theorem device_10 {P : Pl} {ρ : Nat → Nat} {w : World} {ck : Int} {L R : Nat → List (Value × Frm)} {D : Nat → Dev} {T F : Nat → Nat} {m : Nat} (h : Rig P ρ w ck L R D T F m) (od ok ot : Int) (va : Option Addr) (vc : Nat) (bs : List Int) (hv : IsF (fun x => P.n₀ ≤ x) w (.slice va bs.length vc) bs) (_ : bs.length ≤ 140737488351232) (_ : Hid (Byt bs)) :
    Calls Try.prog 41 #[.pointer (some ⟨P.x, 0, none⟩), .agg #[.int .i64 10, .int .i64 od, .int .i64 ok, .int .i64 ot, .slice va bs.length vc]] w (DevEnd P ρ w ck L R D 10 m) := by
  have bx : Below w.heap.size w (w.alloc (.cells #[.int .i64 10, .int .i64 od, .int .i64 ok, .int .i64 ot, .slice va bs.length vc] 29)) := (Below.refl _ _).alloc (Nat.le_refl _) _
  have BX := hide bx
  have H1 := hide (h.later bx)
  have F5 := Five.new w 10 od ok ot (.slice va bs.length vc) 29
  have NS : Hid (ρ w.heap.size = 0) := h.fresh0
  have HV := hide (hv.alloc (.cells #[.int .i64 10, .int .i64 od, .int .i64 ok, .int .i64 ot, .slice va bs.length vc] 29))
  obtain ⟨s, hs⟩ : ∃ s, s = w.heap.size := ⟨_, rfl⟩
  rw [← hs] at F5 NS
  clear h bx hv
  go_enter Try.func41, Try.ntmps41
  have hs' := hs
  clear hs
  go_upto_region 1 with fail
  rw [← hs']
  clear hs'
  generalize w.alloc (.cells #[.int .i64 10, .int .i64 od, .int .i64 ok, .int .i64 ot, .slice va bs.length vc] 29) = w1 at *
  have F5H := hide F5
  obtain ⟨c0, c1, c2, c3, c4⟩ := F5
  go_wp2_with fail
  refine (side_any od w1).mono ?_
  rintro e w' ⟨rfl, rfl⟩
  have hi := sd_lt od
  generalize sd od = i at *
  have hi2 : (i : Int) < 2 := by omega
  have hi0 : (0 : Int) ≤ (i : Int) := by omega

  by_cases k2 : ok = 2
  · subst k2
    have ct := H1.out.c.ct i hi
    have cf := H1.out.c.cf i hi
    have fz := H1.out.c.fz
    have f6 := fz (6 + i)
    have f8 := fz (8 + i)
    have hx := H1.out.c.lt
    have G2 : Hid (Rig P ρ ((w'.setCell ⟨P.x, 6 + i, none⟩ (.int .i64 0)).setCell ⟨P.x, 8 + i, none⟩ (.int .i64 0)) ck L R D (upd T i 0) (upd F i 0) m) := (H1.out.setT i hi 0 (by omega)).setF i hi 0 (by omega)
    have B2 : Hid (But (Only P.x) w' ((w'.setCell ⟨P.x, 6 + i, none⟩ (.int .i64 0)).setCell ⟨P.x, 8 + i, none⟩ (.int .i64 0))) := ((But.refl (Only P.x) w').setCell (p := ⟨P.x, 6 + i, none⟩) (.inr rfl) _).setCell (p := ⟨P.x, 8 + i, none⟩) (.inr rfl) _
    have NX : Hid (s ≠ P.x) := fun e => by have h1 := H1.out.rx; rw [← e, NS.out] at h1; omega
    have F6 := hide (F5H.out.but B2.out (fun e => NX.out e))
    clear fz
    go_upto_region 12 with fail
    clear ct cf f6 f8 hx c0 c1 c2 c3 c4
    generalize hw2 : (w'.setCell ⟨P.x, 6 + i, none⟩ (.int .i64 0)).setCell ⟨P.x, 8 + i, none⟩ (.int .i64 0) = w2 at *
    clear hw2
    have X1 := hide (Write_any (G2.out.n.drew.dev i hi) (G2.out.n.ok i hi) 0 2)
    have X2 := hide (fun (w3 : World) (r3 : RNet ρ w3 P.rb P.rdv ck R D) => rWrite_any (r3.dev i hi) (r3.ok i hi) 0 2)
    have OK1 := hide ((G2.out.n.ok i hi).wr 0 2)
    have IV := hide (G2.out.i.acts i ((G2.out.i.dv i hi).wr G2.out.i.ck0.1 0 2))
    have K1 : Hid (∀ W : World, But (Mid ρ) w2 W → (W.cell? ⟨P.x, i, none⟩ = some (.pointer (some ⟨P.dv i, 0, none⟩)) ∧ W.cell? ⟨P.x, 3 + i, none⟩ = some (.pointer (some ⟨P.rdv i, 0, none⟩)) ∧ W.cell? ⟨s, 2, none⟩ = some (.int .i64 2))) := fun W hb => by
      have c := G2.out.cells hb
      have k5 := F6.out.but hb (fun e => by unfold Mid at e; rw [NS.out] at e; omega)
      exact ⟨c.cd i hi, c.cr i hi, k5.c2⟩
    have q2 : But (Mid ρ) w2 (w2).drew := (But.refl _ _).drew
    generalize wrE 0 2 = we at *
    go_region_held (fun W => W.cell? ⟨P.x, i, none⟩ = some (.pointer (some ⟨P.dv i, 0, none⟩)) ∧ W.cell? ⟨P.x, 3 + i, none⟩ = some (.pointer (some ⟨P.rdv i, 0, none⟩)) ∧ W.cell? ⟨s, 2, none⟩ = some (.int .i64 2)) (exact K1.out _ (by assumption))
      (first
        | (go_at_call 13; refine X1.out.mono ?_; rintro e w3 ⟨rfl, hd3, hb3⟩; obtain ⟨n3, r3, b3⟩ := G2.out.drew.dev1 i hi hd3 OK1.out hb3; have N3 := hide n3; have R3 := hide r3; have q3 : But (Mid ρ) w2 w3 := q2.trans b3; clear hd3 hb3 n3 r3 b3)
        | (go_at_call 28; refine (X2.out _ R3.out).mono ?_; rintro e w5 ⟨rfl, hd5, hb5⟩; obtain ⟨rig5, b5⟩ := G2.out.dev2 i hi N3.out R3.out q3 hd5 OK1.out hb5 IV.out; have G5 := hide rig5; have q5 : But (Mid ρ) w2 w5 := b5; clear hd5 hb5 rig5 b5))
    have B5 := hide q5
    clear q2 q3 q5
    go_wp2
    go_ret
    exact ⟨rfl, _, _, _, goes_after BX.out ⟨ρ, G5.out, fun _ _ => rfl, (B2.out.mono (fun g e => by have e : g = P.x := e; unfold Mine; rw [e, H1.out.rx]; omega)).trans (mid_mine B5.out)⟩, fun _ e => absurd rfl e⟩

  · have qk : (ok == 2) = false := beq_no k2
    clear k2
    have X1 := hide (Write_any (H1.out.n.drew.dev i hi) (H1.out.n.ok i hi) 0 ok)
    have X2 := hide (fun (w3 : World) (r3 : RNet ρ w3 P.rb P.rdv ck R D) => rWrite_any (r3.dev i hi) (r3.ok i hi) 0 ok)
    have OK1 := hide ((H1.out.n.ok i hi).wr 0 ok)
    have IV := hide (H1.out.i.acts i ((H1.out.i.dv i hi).wr H1.out.i.ck0.1 0 ok))
    have K1 : Hid (∀ W : World, But (Mid ρ) w' W → (W.cell? ⟨P.x, i, none⟩ = some (.pointer (some ⟨P.dv i, 0, none⟩)) ∧ W.cell? ⟨P.x, 3 + i, none⟩ = some (.pointer (some ⟨P.rdv i, 0, none⟩)) ∧ W.cell? ⟨s, 2, none⟩ = some (.int .i64 ok))) := fun W hb => by
      have c := H1.out.cells hb
      have k5 := F5H.out.but hb (fun e => by unfold Mid at e; rw [NS.out] at e; omega)
      exact ⟨c.cd i hi, c.cr i hi, k5.c2⟩
    have q2 : But (Mid ρ) w' (w').drew := (But.refl _ _).drew
    generalize wrE 0 ok = we at *
    go_upto_region 12 with fail
    go_region_held (fun W => W.cell? ⟨P.x, i, none⟩ = some (.pointer (some ⟨P.dv i, 0, none⟩)) ∧ W.cell? ⟨P.x, 3 + i, none⟩ = some (.pointer (some ⟨P.rdv i, 0, none⟩)) ∧ W.cell? ⟨s, 2, none⟩ = some (.int .i64 ok)) (exact K1.out _ (by assumption))
      (first
        | (go_at_call 13; refine X1.out.mono ?_; rintro e w3 ⟨rfl, hd3, hb3⟩; obtain ⟨n3, r3, b3⟩ := H1.out.drew.dev1 i hi hd3 OK1.out hb3; have N3 := hide n3; have R3 := hide r3; have q3 : But (Mid ρ) w' w3 := q2.trans b3; clear hd3 hb3 n3 r3 b3)
        | (go_at_call 28; refine (X2.out _ R3.out).mono ?_; rintro e w5 ⟨rfl, hd5, hb5⟩; obtain ⟨rig5, b5⟩ := H1.out.dev2 i hi N3.out R3.out q3 hd5 OK1.out hb5 IV.out; have G5 := hide rig5; have q5 : But (Mid ρ) w' w5 := b5; clear hd5 hb5 rig5 b5))
    have B5 := hide q5
    clear q2 q3 q5
    go_wp2
    go_ret
    exact ⟨rfl, _, _, _, goes_after BX.out ⟨ρ, G5.out, fun _ _ => rfl, mid_mine B5.out⟩, fun _ e => absurd rfl e⟩

set_option maxRecDepth 100000 in
set_option maxHeartbeats 4000000 in
theorem device_x {P : Pl} {ρ : Nat → Nat} {w : World} {ck : Int} {L R : Nat → List (Value × Frm)} {D : Nat → Dev} {T F : Nat → Nat} {m : Nat} (h : Rig P ρ w ck L R D T F m) (kd : Int) (k0 : kd ≠ 0) (k9 : kd ≠ 9) (k10 : kd ≠ 10) (k11 : kd ≠ 11) (od ok ot : Int) (va : Option Addr) (vc : Nat) (bs : List Int) (hv : IsF (fun x => P.n₀ ≤ x) w (.slice va bs.length vc) bs) (_ : bs.length ≤ 140737488351232) (_ : Hid (Byt bs)) :
    Calls Try.prog 41 #[.pointer (some ⟨P.x, 0, none⟩), .agg #[.int .i64 kd, .int .i64 od, .int .i64 ok, .int .i64 ot, .slice va bs.length vc]] w (DevEnd P ρ w ck L R D kd m) := by
  have y0 : (kd == 0) = false := beq_no k0
  have y9 : (kd == 9) = false := beq_no k9
  have y10 : (kd == 10) = false := beq_no k10
  have y11 : (kd == 11) = false := beq_no k11
  clear k0 k9 k10 k11
  have bx : Below w.heap.size w (w.alloc (.cells #[.int .i64 kd, .int .i64 od, .int .i64 ok, .int .i64 ot, .slice va bs.length vc] 29)) := (Below.refl _ _).alloc (Nat.le_refl _) _
  have BX := hide bx
  have H1 := hide (h.later bx)
  have F5 := Five.new w kd od ok ot (.slice va bs.length vc) 29
  have NS : Hid (ρ w.heap.size = 0) := h.fresh0
  have HV := hide (hv.alloc (.cells #[.int .i64 kd, .int .i64 od, .int .i64 ok, .int .i64 ot, .slice va bs.length vc] 29))
  obtain ⟨s, hs⟩ : ∃ s, s = w.heap.size := ⟨_, rfl⟩
  rw [← hs] at F5 NS
  clear h bx hv
  go_enter Try.func41, Try.ntmps41
  have hs' := hs
  clear hs
  go_upto_region 1 with fail
  rw [← hs']
  clear hs'
  generalize w.alloc (.cells #[.int .i64 kd, .int .i64 od, .int .i64 ok, .int .i64 ot, .slice va bs.length vc] 29) = w1 at *
  have F5H := hide F5
  obtain ⟨c0, c1, c2, c3, c4⟩ := F5
  go_wp2_with fail
  refine (side_any od w1).mono ?_
  rintro e w' ⟨rfl, rfl⟩
  have hi := sd_lt od
  generalize sd od = i at *
  have hi2 : (i : Int) < 2 := by omega
  have hi0 : (0 : Int) ≤ (i : Int) := by omega

  go_wp2
  go_ret
  exact ⟨rfl, _, _, _, goes_after BX.out H1.out.goes, fun _ _ => same01_refl D⟩

theorem device_any {P : Pl} {ρ : Nat → Nat} {w : World} {ck : Int} {L R : Nat → List (Value × Frm)} {D : Nat → Dev} {T F : Nat → Nat} {m : Nat} (h : Rig P ρ w ck L R D T F m) (kd od ok ot : Int) (va : Option Addr) (vc : Nat) (bs : List Int) (hv : IsF (fun x => P.n₀ ≤ x) w (.slice va bs.length vc) bs) (hl : bs.length ≤ 140737488351232) (hy : Hid (Byt bs)) :
    Calls Try.prog 41 #[.pointer (some ⟨P.x, 0, none⟩), .agg #[.int .i64 kd, .int .i64 od, .int .i64 ok, .int .i64 ot, .slice va bs.length vc]] w (DevEnd P ρ w ck L R D kd m) := by
  by_cases k0 : kd = 0
  · subst k0; exact device_0 h od ok ot va vc bs hv hl hy
  by_cases k9 : kd = 9
  · subst k9; exact device_9 h od ok ot va vc bs hv hl hy
  by_cases k10 : kd = 10
  · subst k10; exact device_10 h od ok ot va vc bs hv hl hy
  by_cases k11 : kd = 11
  · subst k11; exact device_11 h od ok ot va vc bs hv hl hy
  exact device_x h kd k0 k9 k10 k11 od ok ot va vc bs hv hl hy

set_option maxRecDepth 100000 in
set_option maxHeartbeats 4000000 in
theorem does_2 {P : Pl} {ρ : Nat → Nat} {w : World} {ck : Int} {L R : Nat → List (Value × Frm)} {D : Nat → Dev} {T F : Nat → Nat} {m : Nat} (h : Rig P ρ w ck L R D T F m) (od ok ot : Int) (va : Option Addr) (vc : Nat) (bs : List Int) (hv : IsF (fun x => P.n₀ ≤ x) w (.slice va bs.length vc) bs) (_ : bs.length ≤ 140737488351232) (_ : Hid (Byt bs)) :
    Calls Try.prog 9 #[.pointer (some ⟨P.x, 0, none⟩), .agg #[.int .i64 2, .int .i64 od, .int .i64 ok, .int .i64 ot, .slice va bs.length vc]] w (DoesEnd P ρ w D 2 m) := by
  have bx : Below w.heap.size w (w.alloc (.cells #[.int .i64 2, .int .i64 od, .int .i64 ok, .int .i64 ot, .slice va bs.length vc] 29)) := (Below.refl _ _).alloc (Nat.le_refl _) _
  have BX := hide bx
  have H1 := hide (h.later bx)
  have F5 := Five.new w 2 od ok ot (.slice va bs.length vc) 29
  have HV := hide (hv.alloc (.cells #[.int .i64 2, .int .i64 od, .int .i64 ok, .int .i64 ot, .slice va bs.length vc] 29))
  obtain ⟨s, hs⟩ : ∃ s, s = w.heap.size := ⟨_, rfl⟩
  rw [← hs] at F5
  clear h bx hv
  go_enter Try.func9, Try.ntmps9
  have hs' := hs
  clear hs
  go_upto_region 1 with fail
  rw [← hs']
  clear hs'
  generalize w.alloc (.cells #[.int .i64 2, .int .i64 od, .int .i64 ok, .int .i64 ot, .slice va bs.length vc] 29) = w1 at *
  obtain ⟨c0, c1, c2, c3, c4⟩ := F5

  have X := hide (sees_any H1.out od ok)
  clear HV
  go_wp2_with fail
  refine X.out.mono ?_
  rintro e w3 ⟨rfl, hB⟩
  have G := hide (H1.out.more.later hB).goes
  have B := hide hB
  clear hB X c0 c1 c2 c3 c4
  go_wp2
  go_ret
  exact ⟨rfl, _, _, _, _, _, _, goes_after BX.out (goes_after B.out G.out), fun _ _ => same01_refl D⟩

set_option maxRecDepth 100000 in
set_option maxHeartbeats 4000000 in
theorem does_x {P : Pl} {ρ : Nat → Nat} {w : World} {ck : Int} {L R : Nat → List (Value × Frm)} {D : Nat → Dev} {T F : Nat → Nat} {m : Nat} (h : Rig P ρ w ck L R D T F m) (kd : Int) (k1 : kd ≠ 1) (k2 : kd ≠ 2) (k3 : kd ≠ 3) (k4 : kd ≠ 4) (k5 : kd ≠ 5) (k6 : kd ≠ 6) (k7 : kd ≠ 7) (k8 : kd ≠ 8) (od ok ot : Int) (va : Option Addr) (vc : Nat) (bs : List Int) (hv : IsF (fun x => P.n₀ ≤ x) w (.slice va bs.length vc) bs) (hl : bs.length ≤ 140737488351232) (hy : Hid (Byt bs)) :
    Calls Try.prog 9 #[.pointer (some ⟨P.x, 0, none⟩), .agg #[.int .i64 kd, .int .i64 od, .int .i64 ok, .int .i64 ot, .slice va bs.length vc]] w (DoesEnd P ρ w D kd m) := by
  have y1 : (kd == 1) = false := beq_no k1
  have y2 : (kd == 2) = false := beq_no k2
  have y3 : (kd == 3) = false := beq_no k3
  have y4 : (kd == 4) = false := beq_no k4
  have y5 : (kd == 5) = false := beq_no k5
  have y6 : (kd == 6) = false := beq_no k6
  have y7 : (kd == 7) = false := beq_no k7
  have y8 : (kd == 8) = false := beq_no k8
  clear k1 k2 k3 k4 k5 k6 k7 k8
  have bx : Below w.heap.size w (w.alloc (.cells #[.int .i64 kd, .int .i64 od, .int .i64 ok, .int .i64 ot, .slice va bs.length vc] 29)) := (Below.refl _ _).alloc (Nat.le_refl _) _
  have BX := hide bx
  have H1 := hide (h.later bx)
  have F5 := Five.new w kd od ok ot (.slice va bs.length vc) 29
  have HV := hide (hv.alloc (.cells #[.int .i64 kd, .int .i64 od, .int .i64 ok, .int .i64 ot, .slice va bs.length vc] 29))
  obtain ⟨s, hs⟩ : ∃ s, s = w.heap.size := ⟨_, rfl⟩
  rw [← hs] at F5
  clear h bx hv
  go_enter Try.func9, Try.ntmps9
  have hs' := hs
  clear hs
  go_upto_region 1 with fail
  rw [← hs']
  clear hs'
  generalize w.alloc (.cells #[.int .i64 kd, .int .i64 od, .int .i64 ok, .int .i64 ot, .slice va bs.length vc] 29) = w1 at *
  obtain ⟨c0, c1, c2, c3, c4⟩ := F5

  have X := hide (device_any H1.out kd od ok ot va vc bs HV.out hl hy)
  clear hl HV
  go_wp2_with fail
  refine X.out.mono ?_
  rintro e w3 ⟨rfl, D', T', F', ⟨ρ', hR, he, hb⟩, hS⟩
  have G : Hid (Goes P ρ w1 w3 ck L R D' T' F' (m + 1)) := ⟨ρ', hR.more, he, hb⟩
  have SS := hide hS
  clear hR he hb hS X c0 c1 c2 c3 c4
  go_wp2
  go_ret
  exact ⟨rfl, _, _, _, _, _, _, goes_after BX.out G.out, SS.out⟩

theorem does_any {P : Pl} {ρ : Nat → Nat} {w : World} {ck : Int} {L R : Nat → List (Value × Frm)} {D : Nat → Dev} {T F : Nat → Nat} {m : Nat} (h : Rig P ρ w ck L R D T F m) (hm : m ≤ 2513169434843) (kd od ok ot : Int) (va : Option Addr) (vc : Nat) (bs : List Int) (hv : IsF (fun x => P.n₀ ≤ x) w (.slice va bs.length vc) bs) (hl : bs.length ≤ 140737488351232) (hy : Hid (Byt bs)) :
    Calls Try.prog 9 #[.pointer (some ⟨P.x, 0, none⟩), .agg #[.int .i64 kd, .int .i64 od, .int .i64 ok, .int .i64 ot, .slice va bs.length vc]] w (DoesEnd P ρ w D kd m) := by
  by_cases k1 : kd = 1
  · subst k1; exact does_1 h hm od ok ot va vc bs.length
  by_cases k2 : kd = 2
  · subst k2; exact does_2 h od ok ot va vc bs hv hl hy
  by_cases k3 : kd = 3
  · subst k3; exact does_3 h hm od ok ot va vc bs.length
  by_cases k4 : kd = 4
  · subst k4; exact does_4 h hm od ok ot va vc bs.length
  by_cases k5 : kd = 5
  · subst k5; exact does_5 h hm od ok ot va vc bs.length
  by_cases k6 : kd = 6
  · subst k6; exact does_6 h hm od ok ot va vc bs.length
  by_cases k7 : kd = 7
  · subst k7; exact does_7 h hm od ok ot va vc bs.length
  by_cases k8 : kd = 8
  · subst k8; exact does_8 h hm od ok ot va vc bs.length
  exact does_x h kd k1 k2 k3 k4 k5 k6 k7 k8 od ok ot va vc bs hv hl hy

end Go.Proofs.Ytghojbgjmpjhgaa
