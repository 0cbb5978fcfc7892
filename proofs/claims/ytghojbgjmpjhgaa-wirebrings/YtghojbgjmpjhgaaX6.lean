
/-
  post, room: a device of both is given a frame, a buffer.
-/
import Derived.Test.YtghojbgjmpjhgaaX3
namespace Go.Proofs.Ytghojbgjmpjhgaa
open Go.RowKit

theorem Cells.x_lt {P : Pl} {w : World} {T F : Nat → Nat} (h : Cells P w T F) : P.x < w.heap.size := h.lt

set_option maxRecDepth 100000 in
set_option maxHeartbeats 4000000 in
theorem rig_post_any {P : Pl} {ρ : Nat → Nat} {w : World} {ck : Int} {L R : Nat → List (Value × Frm)} {D : Nat → Dev} {T F : Nat → Nat} {m : Nat} (h : Rig P ρ w ck L R D T F m) (i : Nat) (hi : i < 2) (va : Option Addr) (vc : Nat) (bs : List Int) (hv : IsF (Mine ρ) w (.slice va bs.length vc) bs) (hl : bs.length ≤ 140737488351232) (hy : Hid (Byt bs)) :
    Calls Try.prog 25 #[.pointer (some ⟨P.x, 0, none⟩), .int .i64 (i : Int), .slice va bs.length vc] w fun e w' => e = .returned (.bool true) ∧ ∃ D' T' F', Goes P ρ w w' ck L R D' T' F' m ∧ Same01 D D' ∧ ((D i).stE (T i : Int) bs = 0 → D' i = ((D i).stD (T i : Int) bs).wrD 5 (((T i + 1) % 16 : Nat) : Int)) := by
  have hi2 : (i : Int) < 2 := by omega
  have hi0 : (0 : Int) ≤ (i : Int) := by omega
  have htb := (h.c.tb i hi).1
  obtain ⟨t, ht⟩ : ∃ t, t = T i := ⟨_, rfl⟩
  have HT := hide ht
  rw [← ht] at htb
  have CT : Hid (∀ W, Cells P W T F → W.cell? ⟨P.x, 6 + i, none⟩ = some (.int .i64 (t : Int))) := fun W c => by rw [ht]; exact c.ct i hi
  have H := hide h
  have HV := hide hv
  have X1 := hide (SetTx_any (h.n.drew.dev i hi) (h.n.ok i hi) (fun g e => h.n.lt g e) (t : Int) _ bs hv.drew (by omega))
  have X2 := hide (fun (w3 : World) (r3 : RNet ρ w3 P.rb P.rdv ck R D) (hv3 : IsF (Mine ρ) w3.drew (.slice va bs.length vc) bs) => rSetTx_any (r3.drew.dev i hi) (r3.ok i hi) (fun g e => r3.lt g e) (t : Int) _ bs hv3 (by omega))
  obtain ⟨er, her⟩ : ∃ er, er = (D i).stE (t : Int) bs := ⟨_, rfl⟩
  obtain ⟨D1, hD1⟩ : ∃ D1, D1 = (D i).stD (t : Int) bs := ⟨_, rfl⟩
  rw [← her, ← hD1] at X1 X2
  have HE : Hid (er = (D i).stE (T i : Int) bs) := by rw [← ht]; exact her
  have HD1 : Hid (D1 = (D i).stD (T i : Int) bs) := by rw [← ht]; exact hD1
  have OK1 : Hid D1.Ok := by rw [hD1]; exact (H.out.n.ok i hi).st _ _
  have DI1 : Hid (DI ck D1) := by rw [hD1]; exact (H.out.i.dv i hi).st _ _ hy.out
  have R01 : Hid (D1.r 0 = (D i).r 0 ∧ D1.r 1 = (D i).r 1) := by rw [hD1]; exact r01_st _ _ _
  have IV := hide (H.out.i.acts i DI1.out)
  have K1 : Hid (∀ W, But (Mid ρ) w W → W.cell? ⟨P.x, i, none⟩ = some (.pointer (some ⟨P.dv i, 0, none⟩)) ∧ W.cell? ⟨P.x, 3 + i, none⟩ = some (.pointer (some ⟨P.rdv i, 0, none⟩)) ∧ W.cell? ⟨P.x, 6 + i, none⟩ = some (.int .i64 (t : Int))) := fun W hb => by
    have c := H.out.cells hb
    exact ⟨c.cd i hi, c.cr i hi, CT.out W c⟩
  clear h ht her hD1 hl hv hy
  have q2 : But (Mid ρ) w w.drew := (But.refl _ _).drew
  go_enter Try.func25, Try.ntmps25
  go_upto_region 1 with fail
  go_region_held (fun W => W.cell? ⟨P.x, i, none⟩ = some (.pointer (some ⟨P.dv i, 0, none⟩)) ∧ W.cell? ⟨P.x, 3 + i, none⟩ = some (.pointer (some ⟨P.rdv i, 0, none⟩)) ∧ W.cell? ⟨P.x, 6 + i, none⟩ = some (.int .i64 (t : Int))) (exact K1.out _ (by assumption))
    (first
      | (go_at_call 12; refine X1.out.mono ?_; rintro e w3 ⟨rfl, hd3, hb3⟩; obtain ⟨n3, r3, b3⟩ := H.out.drew.dev1 i hi hd3 OK1.out hb3; have N3 := hide n3.drew; have R3 := hide r3; have q3 : But (Mid ρ) w w3 := q2.trans b3; clear hd3 hb3 n3 r3 b3))
  have q4 : But (Mid ρ) w w3.drew := q3.drew
  have V3 := hide (HV.out.but q4 (fun g e => by unfold Mid at e; unfold Mine; omega))
  clear q2 q3 X1
  go_upto_region 2 with fail
  go_region_held (fun W => W.cell? ⟨P.x, i, none⟩ = some (.pointer (some ⟨P.dv i, 0, none⟩)) ∧ W.cell? ⟨P.x, 3 + i, none⟩ = some (.pointer (some ⟨P.rdv i, 0, none⟩)) ∧ W.cell? ⟨P.x, 6 + i, none⟩ = some (.int .i64 (t : Int))) (exact K1.out _ (by assumption))
    (first
      | (go_at_call 59; refine (X2.out _ R3.out V3.out).mono ?_; rintro e w5 ⟨rfl, hd5, hb5⟩; obtain ⟨rig5, b5⟩ := H.out.dev2 i hi N3.out R3.out.drew q4 hd5 OK1.out hb5 IV.out; have G5 := hide rig5; have q5 : But (Mid ρ) w w5 := b5; clear hd5 hb5 rig5 b5))
  have B5 := hide q5
  clear q4 q5 X2 N3 R3
  by_cases e0 : er = 0
  · subst e0
    have ct := CT.out _ G5.out.c
    have fx := G5.out.c.fz (6 + i)
    have hx := G5.out.c.lt
    have zt : (t : Int) < 16 := by omega
    have zt0 : (0 : Int) ≤ (t : Int) := by omega
    have ET : ((t : Int) + 1) % 16 = (((t + 1) % 16 : Nat) : Int) := by omega
    have HET := hide ET
    have G6 := hide (G5.out.setT i hi ((t + 1) % 16) (by omega)).drew
    have B6 : Hid (But (Mine ρ) w (w5.setCell ⟨P.x, 6 + i, none⟩ (.int .i64 (((t + 1) % 16 : Nat) : Int))).drew) := ((mid_mine B5.out).trans (G5.out.setB _ _)).drew
    clear ET
    go_upto_region 7 with fail
    go_region
    rw [HET.out]
    clear ct fx hx
    have htn : (t + 1) % 16 < 16 := by omega
    have HTN : Hid ((t + 1) % 16 = (T i + 1) % 16) := by show _ = _; rw [HT.out]
    generalize (t + 1) % 16 = tn at *
    generalize (w5.setCell ⟨P.x, 6 + i, none⟩ (.int .i64 (tn : Int))).drew = w6 at *
    have hdA := G6.out.n.drew.dev i hi
    rw [upd_same] at hdA
    have X8 := hide (Write_any hdA OK1.out 5 (tn : Int))
    have Y8 : Hid (∀ w7, RNet ρ w7 P.rb P.rdv ck R (upd D i D1) → Calls Try.prog 28 #[.pointer (some ⟨P.rdv i, 0, none⟩), .int .i64 5, .int .i64 (tn : Int)] w7 fun e w' => e = .returned (.int .i64 (wrE 5 (tn : Int))) ∧ DevAt LR (Mine ρ) w' (P.rdv i) (D1.wrD 5 (tn : Int)) ∧ But (Only (P.rdv i)) w7 w') := fun w7 r7 => by
      have hdB := r7.dev i hi
      rw [upd_same] at hdB
      exact rWrite_any hdB OK1.out 5 (tn : Int)
    have OK2 := hide (OK1.out.wr 5 (tn : Int))
    have IV2 := hide (G6.out.i.acts i (DI1.out.wr H.out.i.ck0.1 5 (tn : Int)))
    have K6 : Hid (∀ W, But (Mid ρ) w6 W → W.cell? ⟨P.x, i, none⟩ = some (.pointer (some ⟨P.dv i, 0, none⟩)) ∧ W.cell? ⟨P.x, 3 + i, none⟩ = some (.pointer (some ⟨P.rdv i, 0, none⟩)) ∧ W.cell? ⟨P.x, 6 + i, none⟩ = some (.int .i64 (tn : Int))) := fun W hb => by
      have c := G6.out.cells hb
      have c6 := c.ct i hi
      rw [upd_same] at c6
      exact ⟨c.cd i hi, c.cr i hi, c6⟩
    have q6 : But (Mid ρ) w6 w6.drew := (But.refl _ _).drew
    clear hdA
    generalize wrE 5 (tn : Int) = we at *
    go_upto_region 8 with fail
    go_region_held (fun W => W.cell? ⟨P.x, i, none⟩ = some (.pointer (some ⟨P.dv i, 0, none⟩)) ∧ W.cell? ⟨P.x, 3 + i, none⟩ = some (.pointer (some ⟨P.rdv i, 0, none⟩)) ∧ W.cell? ⟨P.x, 6 + i, none⟩ = some (.int .i64 (tn : Int))) (exact K6.out _ (by assumption))
      (first
        | (go_at_call 13; refine X8.out.mono ?_; rintro e w7 ⟨rfl, hd7, hb7⟩; obtain ⟨n7, r7, b7⟩ := G6.out.drew.dev1 i hi hd7 OK2.out hb7; have N7 := hide n7; have R7 := hide r7; have q7 : But (Mid ρ) w6 w7 := q6.trans b7; clear hd7 hb7 n7 r7 b7)
        | (go_at_call 28; refine (Y8.out _ R7.out).mono ?_; rintro e w8 ⟨rfl, hd8, hb8⟩; obtain ⟨rig8, b8⟩ := G6.out.dev2 i hi N7.out R7.out q7 hd8 OK2.out hb8 IV2.out; have G8 := hide rig8; have q8 : But (Mid ρ) w6 w8 := b8; clear hd8 hb8 rig8 b8))
    have B8 := hide q8
    clear q6 q7 q8
    go_wp2
    go_ret
    have S8 : Hid (Same01 D (upd (upd D i D1) i (D1.wrD 5 (tn : Int)))) := (same01_upd R01.out).trans (same01_upd (by rw [upd_same]; exact r01_wr _ _ _ (by omega)))
    exact ⟨rfl, _, _, _, ⟨ρ, G8.out, fun _ _ => rfl, B6.out.trans (mid_mine B8.out)⟩, S8.out, fun _ => by rw [upd_same, HD1.out, HTN.out]⟩
  · have qe : (er != 0) = true := by simp [e0]
    have NE0 := hide e0
    clear e0
    go_wp2
    go_ret
    exact ⟨rfl, _, _, _, ⟨ρ, G5.out, fun _ _ => rfl, mid_mine B5.out⟩, same01_upd R01.out, fun e => absurd (HE.out.trans e) NE0.out⟩

set_option maxRecDepth 100000 in
set_option maxHeartbeats 4000000 in
theorem rig_room_any {P : Pl} {ρ : Nat → Nat} {w : World} {ck : Int} {L R : Nat → List (Value × Frm)} {D : Nat → Dev} {T F : Nat → Nat} {m : Nat} (h : Rig P ρ w ck L R D T F m) (i : Nat) (hi : i < 2) (ro : Int) :
    Calls Try.prog 68 #[.pointer (some ⟨P.x, 0, none⟩), .int .i64 (i : Int), .int .i64 ro] w fun e w' => e = .returned (.bool true) ∧ ∃ D' T' F', Goes P ρ w w' ck L R D' T' F' m ∧ Same01 D D' := by
  have hi2 : (i : Int) < 2 := by omega
  have hi0 : (0 : Int) ≤ (i : Int) := by omega
  have htb := (h.c.tb i hi).2
  obtain ⟨t, ht⟩ : ∃ t, t = F i := ⟨_, rfl⟩
  rw [← ht] at htb
  have CT : Hid (∀ W, Cells P W T F → W.cell? ⟨P.x, 8 + i, none⟩ = some (.int .i64 (t : Int))) := fun W c => by rw [ht]; exact c.cf i hi
  have H := hide h
  have X1 := hide (SetRx_any (h.n.drew.dev i hi) (h.n.ok i hi) (t : Int) ro)
  have X2 := hide (fun (w3 : World) (r3 : RNet ρ w3 P.rb P.rdv ck R D) => rSetRx_any (r3.drew.dev i hi) (r3.ok i hi) (t : Int) ro)
  obtain ⟨er, her⟩ : ∃ er, er = (D i).srE (t : Int) ro := ⟨_, rfl⟩
  obtain ⟨D1, hD1⟩ : ∃ D1, D1 = (D i).srD (t : Int) ro := ⟨_, rfl⟩
  rw [← her, ← hD1] at X1 X2
  have OK1 : Hid D1.Ok := by rw [hD1]; exact (H.out.n.ok i hi).sr _ _
  have DI1 : Hid (DI ck D1) := by rw [hD1]; exact (H.out.i.dv i hi).sr _ _
  have R01 : Hid (D1.r 0 = (D i).r 0 ∧ D1.r 1 = (D i).r 1) := by rw [hD1]; exact r01_sr _ _ _
  have IV := hide (H.out.i.acts i DI1.out)
  have K1 : Hid (∀ W, But (Mid ρ) w W → W.cell? ⟨P.x, i, none⟩ = some (.pointer (some ⟨P.dv i, 0, none⟩)) ∧ W.cell? ⟨P.x, 3 + i, none⟩ = some (.pointer (some ⟨P.rdv i, 0, none⟩)) ∧ W.cell? ⟨P.x, 8 + i, none⟩ = some (.int .i64 (t : Int))) := fun W hb => by
    have c := H.out.cells hb
    exact ⟨c.cd i hi, c.cr i hi, CT.out W c⟩
  clear h ht her hD1
  have q2 : But (Mid ρ) w w.drew := (But.refl _ _).drew
  go_enter Try.func68, Try.ntmps68
  go_upto_region 1 with fail
  go_region_held (fun W => W.cell? ⟨P.x, i, none⟩ = some (.pointer (some ⟨P.dv i, 0, none⟩)) ∧ W.cell? ⟨P.x, 3 + i, none⟩ = some (.pointer (some ⟨P.rdv i, 0, none⟩)) ∧ W.cell? ⟨P.x, 8 + i, none⟩ = some (.int .i64 (t : Int))) (exact K1.out _ (by assumption))
    (first
      | (go_at_call 51; refine X1.out.mono ?_; rintro e w3 ⟨rfl, hd3, hb3⟩; obtain ⟨n3, r3, b3⟩ := H.out.drew.dev1 i hi hd3 OK1.out hb3; have N3 := hide n3.drew; have R3 := hide r3; have q3 : But (Mid ρ) w w3 := q2.trans b3; clear hd3 hb3 n3 r3 b3))
  have q4 : But (Mid ρ) w w3.drew := q3.drew
  skip
  clear q2 q3 X1
  go_upto_region 2 with fail
  go_region_held (fun W => W.cell? ⟨P.x, i, none⟩ = some (.pointer (some ⟨P.dv i, 0, none⟩)) ∧ W.cell? ⟨P.x, 3 + i, none⟩ = some (.pointer (some ⟨P.rdv i, 0, none⟩)) ∧ W.cell? ⟨P.x, 8 + i, none⟩ = some (.int .i64 (t : Int))) (exact K1.out _ (by assumption))
    (first
      | (go_at_call 80; refine (X2.out _ R3.out).mono ?_; rintro e w5 ⟨rfl, hd5, hb5⟩; obtain ⟨rig5, b5⟩ := H.out.dev2 i hi N3.out R3.out.drew q4 hd5 OK1.out hb5 IV.out; have G5 := hide rig5; have q5 : But (Mid ρ) w w5 := b5; clear hd5 hb5 rig5 b5))
  have B5 := hide q5
  clear q4 q5 X2 N3 R3
  by_cases e0 : er = 0
  · subst e0
    have ct := CT.out _ G5.out.c
    have fx := G5.out.c.fz (8 + i)
    have hx := G5.out.c.lt
    have zt : (t : Int) < 16 := by omega
    have zt0 : (0 : Int) ≤ (t : Int) := by omega
    have ET : ((t : Int) + 1) % 16 = (((t + 1) % 16 : Nat) : Int) := by omega
    have HET := hide ET
    have G6 := hide (G5.out.setF i hi ((t + 1) % 16) (by omega)).drew
    have B6 : Hid (But (Mine ρ) w (w5.setCell ⟨P.x, 8 + i, none⟩ (.int .i64 (((t + 1) % 16 : Nat) : Int))).drew) := ((mid_mine B5.out).trans (G5.out.setB _ _)).drew
    clear ET
    go_upto_region 7 with fail
    go_region
    rw [HET.out]
    clear ct fx hx
    have htn : (t + 1) % 16 < 16 := by omega
    skip
    generalize (t + 1) % 16 = tn at *
    generalize (w5.setCell ⟨P.x, 8 + i, none⟩ (.int .i64 (tn : Int))).drew = w6 at *
    have hdA := G6.out.n.drew.dev i hi
    rw [upd_same] at hdA
    have X8 := hide (Write_any hdA OK1.out 3 (tn : Int))
    have Y8 : Hid (∀ w7, RNet ρ w7 P.rb P.rdv ck R (upd D i D1) → Calls Try.prog 28 #[.pointer (some ⟨P.rdv i, 0, none⟩), .int .i64 3, .int .i64 (tn : Int)] w7 fun e w' => e = .returned (.int .i64 (wrE 3 (tn : Int))) ∧ DevAt LR (Mine ρ) w' (P.rdv i) (D1.wrD 3 (tn : Int)) ∧ But (Only (P.rdv i)) w7 w') := fun w7 r7 => by
      have hdB := r7.dev i hi
      rw [upd_same] at hdB
      exact rWrite_any hdB OK1.out 3 (tn : Int)
    have OK2 := hide (OK1.out.wr 3 (tn : Int))
    have IV2 := hide (G6.out.i.acts i (DI1.out.wr H.out.i.ck0.1 3 (tn : Int)))
    have K6 : Hid (∀ W, But (Mid ρ) w6 W → W.cell? ⟨P.x, i, none⟩ = some (.pointer (some ⟨P.dv i, 0, none⟩)) ∧ W.cell? ⟨P.x, 3 + i, none⟩ = some (.pointer (some ⟨P.rdv i, 0, none⟩)) ∧ W.cell? ⟨P.x, 8 + i, none⟩ = some (.int .i64 (tn : Int))) := fun W hb => by
      have c := G6.out.cells hb
      have c6 := c.cf i hi
      rw [upd_same] at c6
      exact ⟨c.cd i hi, c.cr i hi, c6⟩
    have q6 : But (Mid ρ) w6 w6.drew := (But.refl _ _).drew
    clear hdA
    generalize wrE 3 (tn : Int) = we at *
    go_upto_region 8 with fail
    go_region_held (fun W => W.cell? ⟨P.x, i, none⟩ = some (.pointer (some ⟨P.dv i, 0, none⟩)) ∧ W.cell? ⟨P.x, 3 + i, none⟩ = some (.pointer (some ⟨P.rdv i, 0, none⟩)) ∧ W.cell? ⟨P.x, 8 + i, none⟩ = some (.int .i64 (tn : Int))) (exact K6.out _ (by assumption))
      (first
        | (go_at_call 13; refine X8.out.mono ?_; rintro e w7 ⟨rfl, hd7, hb7⟩; obtain ⟨n7, r7, b7⟩ := G6.out.drew.dev1 i hi hd7 OK2.out hb7; have N7 := hide n7; have R7 := hide r7; have q7 : But (Mid ρ) w6 w7 := q6.trans b7; clear hd7 hb7 n7 r7 b7)
        | (go_at_call 28; refine (Y8.out _ R7.out).mono ?_; rintro e w8 ⟨rfl, hd8, hb8⟩; obtain ⟨rig8, b8⟩ := G6.out.dev2 i hi N7.out R7.out q7 hd8 OK2.out hb8 IV2.out; have G8 := hide rig8; have q8 : But (Mid ρ) w6 w8 := b8; clear hd8 hb8 rig8 b8))
    have B8 := hide q8
    clear q6 q7 q8
    go_wp2
    go_ret
    have S8 : Hid (Same01 D (upd (upd D i D1) i (D1.wrD 3 (tn : Int)))) := (same01_upd R01.out).trans (same01_upd (by rw [upd_same]; exact r01_wr _ _ _ (by omega)))
    exact ⟨rfl, _, _, _, ⟨ρ, G8.out, fun _ _ => rfl, B6.out.trans (mid_mine B8.out)⟩, S8.out⟩
  · have qe : (er != 0) = true := by simp [e0]
    have NE0 := hide e0
    clear e0
    go_wp2
    go_ret
    exact ⟨rfl, _, _, _, ⟨ρ, G5.out, fun _ _ => rfl, mid_mine B5.out⟩, same01_upd R01.out⟩

end Go.Proofs.Ytghojbgjmpjhgaa
