
/-
  begun.
-/
import Derived.Test.YtghojbgjmpjhgaaX8
namespace Go.Proofs.Ytghojbgjmpjhgaa
open Go.RowKit

set_option maxRecDepth 100000 in
set_option maxHeartbeats 4000000 in
theorem begun_any (w : World) : Calls Try.prog 8 #[] w fun e w' => e = .returned (.pointer (some ⟨w.heap.size, 0, none⟩)) ∧ (∃ b rb dv rdv, Rig ⟨w.heap.size, b, rb, dv, rdv, w.heap.size⟩ (rho0 w.heap.size b rb dv rdv) w' 0 (fun _ => []) (fun _ => []) (fun _ => Dn) (fun _ => 0) (fun _ => 0) 0) ∧ Below w.heap.size w w' := by
  obtain ⟨x, hx⟩ : ∃ x, x = w.heap.size := ⟨_, rfl⟩
  have B0 : Hid (Beg w x 0 (fun _ => 0) (fun _ => 0) (w.alloc (.cells #[.pointer none, .pointer none, .pointer none, .pointer none, .pointer none, .pointer none, .int .i64 0, .int .i64 0, .int .i64 0, .int .i64 0] 43))) := by
    have hc : ∀ i v, (#[Value.pointer none, .pointer none, .pointer none, .pointer none, .pointer none, .pointer none, .int .i64 0, .int .i64 0, .int .i64 0, .int .i64 0] : Array Value)[i]? = some v → (w.alloc (.cells #[.pointer none, .pointer none, .pointer none, .pointer none, .pointer none, .pointer none, .int .i64 0, .int .i64 0, .int .i64 0, .int .i64 0] 43)).cell? ⟨x, i, none⟩ = some v := fun i v h => by
      rw [hx, cell_of_row _ w.heap.size i _ 43 (0, 0) (heap_alloc_new w _)]; exact h
    refine ⟨fun j hj => ?_, fun j hj => ?_, hc 2 _ rfl, hc 5 _ rfl, fun j hj => ?_, fun j => ?_, hx, fun j hj => absurd hj (Nat.not_lt_zero _), fun j hj => absurd hj (Nat.not_lt_zero _), fun j hj => absurd hj (Nat.not_lt_zero _), fun h => by omega, (Below.refl _ _).alloc (Nat.le_refl _) _⟩
    · have : j = 0 ∨ j = 1 := by omega
      rcases this with rfl | rfl
      · exact hc 0 _ rfl
      · exact hc 1 _ rfl
    · have : j = 0 ∨ j = 1 := by omega
      rcases this with rfl | rfl
      · exact hc 3 _ rfl
      · exact hc 4 _ rfl
    · have : j = 0 ∨ j = 1 ∨ j = 2 ∨ j = 3 := by omega
      rcases this with rfl | rfl | rfl | rfl
      · exact hc 6 _ rfl
      · exact hc 7 _ rfl
      · exact hc 8 _ rfl
      · exact hc 9 _ rfl
    · rw [hx]; unfold World.frozen?
      rw [heap_alloc_new w]; simp
  rw [← hx]
  have HX := hide hx
  have hx' := hx
  clear hx
  go_enter Try.func8, Try.ntmps8
  go_upto_region 2 with fail
  rw [← hx']
  clear hx'
  generalize w.alloc (.cells #[.pointer none, .pointer none, .pointer none, .pointer none, .pointer none, .pointer none, .int .i64 0, .int .i64 0, .int .i64 0, .int .i64 0] 43) = w0 at *
  go_wp2
  go_loopw [2] (fun v wr => ∃ (i : Nat) (dv rdv : Nat → Nat), v = .int .i64 (i : Int) ∧ i ≤ 2 ∧ Hid (Beg w x i dv rdv wr)) (fun v _ => 2 - (intOf v).toNat)
  case atStart => exact ⟨0, _, _, rfl, by omega, B0.out⟩
  case round =>
    obtain ⟨i, dv, rdv, rfl, hi, hB⟩ := hrel
    clear B0
    by_cases hi2 : i < 2
    · have zi : (i : Int) < 2 := by omega
      have zi0 : (0 : Int) ≤ (i : Int) := by omega
      have N1 := hide (New_any wr.drew)
      have F1 : Hid (∀ w1, Below wr.drew.heap.size wr.drew w1 → w1.cell? ⟨x, i, none⟩ = some (.pointer none) ∧ w1.frozen? ⟨x, i, none⟩ = false ∧ Below wr.heap.size wr w1) := fun w1 hb => by
        have hb : Below wr.heap.size wr w1 := ⟨hb.os, hb.tape, hb.output, hb.size, hb.block⟩
        have h1 := (hb.cell (p := ⟨x, i, none⟩) hB.out.lt).trans (hB.out.cd i hi2)
        rw [if_neg (by omega)] at h1
        exact ⟨h1, ((But.of_below (K := fun _ => False) hb).frozen (p := ⟨x, i, none⟩) hB.out.lt id).trans (hB.out.fz i), hb⟩
      have SZ : Hid (wr.drew.heap.size = wr.heap.size) := rfl
      go_upto_region 5 with fail
      go_region_law (first
        | (refine step_call rfl 26 #[] (by simp [go_sem]) N1.out (fun e w' h => by obtain ⟨rfl, _⟩ := h; exact ⟨_, rfl⟩) ?_; rintro _ w1 ⟨hre, hd1, hb1, hz1⟩; cases hre; obtain ⟨k0, k1, hb1'⟩ := F1.out w1 hb1; have D1 := hide (hd1 (fun _ => True) trivial); have B1 := hide hb1'; have Z1 := hide hz1; clear hd1 hb1 hb1' hz1))
      go_wp2_with fail
      obtain ⟨d, hd⟩ : ∃ d, d = wr.heap.size := ⟨_, rfl⟩
      rw [← hd]
      have D1' : Hid (DevAt LN (fun _ => True) w1 d Dev.new) := by rw [hd]; exact D1.out
      have ND : Hid (x < d) := by rw [hd]; exact hB.out.lt
      have XL1 : Hid (x < w1.heap.size) := Nat.lt_of_lt_of_le hB.out.lt B1.out.size
      have CW1 : Hid ((w1.setCell ⟨x, i, none⟩ (.pointer (some ⟨d, 0, none⟩))).cell? ⟨x, i, none⟩ = some (.pointer (some ⟨d, 0, none⟩))) := World.cell?_setCell_same' _ _ _ (by rw [k0]; rfl)
      have SW : Hid ((w1.setCell ⟨x, i, none⟩ (.pointer (some ⟨d, 0, none⟩))).heap.size = w1.heap.size) := by unfold Hid; simp [World.setCell]
      have BW : Hid (But (Only x) w1 (w1.setCell ⟨x, i, none⟩ (.pointer (some ⟨d, 0, none⟩)))) := But.setCell (K := Only x) (But.refl _ w1) (p := ⟨x, i, none⟩) (.inr rfl) _
      have CR1 : Hid ((w1.setCell ⟨x, i, none⟩ (.pointer (some ⟨d, 0, none⟩))).cell? ⟨x, 3 + i, none⟩ = some (.pointer none)) := by
        have h1 := (B1.out.cell (p := ⟨x, 3 + i, none⟩) hB.out.lt).trans (hB.out.cr i hi2)
        rw [if_neg (by omega)] at h1
        show _ = _
        rw [cell_off (by omega)]; exact h1
      have FR1 : Hid ((w1.setCell ⟨x, i, none⟩ (.pointer (some ⟨d, 0, none⟩))).frozen? ⟨x, 3 + i, none⟩ = false) := by
        show _ = _
        rw [World.frozen?_setCell, (But.of_below (K := fun _ => False) B1.out).frozen (p := ⟨x, 3 + i, none⟩) hB.out.lt id]; exact hB.out.fz _
      have HD := hide hd
      clear hd k0 k1 F1 N1 D1 SZ
      obtain ⟨W1, hW1⟩ : ∃ W1, W1 = w1.setCell ⟨x, i, none⟩ (.pointer (some ⟨d, 0, none⟩)) := ⟨_, rfl⟩
      have HW1 := hide hW1
      rw [← hW1] at CW1 SW BW CR1 FR1 ⊢
      clear hW1
      have N2 := hide (rNew_any W1.drew)
      have F2 : Hid (∀ w2, Below W1.drew.heap.size W1.drew w2 → w2.cell? ⟨x, 3 + i, none⟩ = some (.pointer none) ∧ w2.frozen? ⟨x, 3 + i, none⟩ = false ∧ Below W1.heap.size W1 w2) := fun w2 hb => by
        have hb : Below W1.heap.size W1 w2 := ⟨hb.os, hb.tape, hb.output, hb.size, hb.block⟩
        have hl : x < W1.heap.size := by rw [SW.out]; exact XL1.out
        exact ⟨(hb.cell (p := ⟨x, 3 + i, none⟩) hl).trans CR1.out, ((But.of_below (K := fun _ => False) hb).frozen (p := ⟨x, 3 + i, none⟩) hl id).trans FR1.out, hb⟩
      go_region_law (first
        | (refine step_call rfl 27 #[] (by simp [go_sem]) N2.out (fun e w' h => by obtain ⟨rfl, _⟩ := h; exact ⟨_, rfl⟩) ?_; rintro _ w2 ⟨hre, hd2, hb2, hz2⟩; cases hre; obtain ⟨k0, k1, hb2'⟩ := F2.out w2 hb2; have D2 := hide (hd2 (fun _ => True) trivial); have B2 := hide hb2'; clear hd2 hb2 hb2' hz2))
      go_upto_region 7 with fail
      obtain ⟨r, hr⟩ : ∃ r, r = W1.heap.size := ⟨_, rfl⟩
      rw [← hr]
      have D2' : Hid (DevAt LR (fun _ => True) w2 r Dev.new) := by rw [hr]; exact D2.out
      have XL2 : Hid (x < w2.heap.size) := by have h1 := XL1.out; have h2 := B2.out.size; rw [SW.out] at h2; show _ < _; omega
      have NR : Hid (d < r) := by rw [hr, SW.out]; exact D1'.out.lt
      have cr2 : (w2.setCell ⟨x, 3 + i, none⟩ (.pointer (some ⟨r, 0, none⟩))).cell? ⟨x, 3 + i, none⟩ = some (.pointer (some ⟨r, 0, none⟩)) := World.cell?_setCell_same' _ _ _ (by rw [k0]; rfl)
      have cd2 : (w2.setCell ⟨x, 3 + i, none⟩ (.pointer (some ⟨r, 0, none⟩))).cell? ⟨x, i, none⟩ = some (.pointer (some ⟨d, 0, none⟩)) := by
        rw [cell_off (by omega), B2.out.cell (p := ⟨x, i, none⟩) (show x < _ by rw [SW.out]; exact XL1.out)]; exact CW1.out
      have BV : Hid (But (Only x) w2 (w2.setCell ⟨x, 3 + i, none⟩ (.pointer (some ⟨r, 0, none⟩)))) := But.setCell (K := Only x) (But.refl _ w2) (p := ⟨x, 3 + i, none⟩) (.inr rfl) _
      have XL3 : Hid (x < (w2.setCell ⟨x, 3 + i, none⟩ (.pointer (some ⟨r, 0, none⟩))).heap.size) := Nat.lt_of_lt_of_le XL2.out BV.out.size
      have dW : DevAt LN (fun _ => True) (w2.setCell ⟨x, 3 + i, none⟩ (.pointer (some ⟨r, 0, none⟩))) d Dev.new :=
        ((D1'.out.but BW.out (fun _ _ => trivial) (fun e => by have e : d = x := e; have := ND.out; omega)).but (But.of_below (K := fun _ => False) B2.out) (fun _ e => e.elim) id).but BV.out (fun _ _ => trivial) (fun e => by have e : d = x := e; have := ND.out; omega)
      have dR : DevAt LR (fun _ => True) (w2.setCell ⟨x, 3 + i, none⟩ (.pointer (some ⟨r, 0, none⟩))) r Dev.new := D2'.out.but BV.out (fun _ _ => trivial) (fun e => by have e : r = x := e; have h1 := ND.out; have h2 := NR.out; omega)
      have HR := hide hr
      obtain ⟨W2, hW2⟩ : ∃ W2, W2 = w2.setCell ⟨x, 3 + i, none⟩ (.pointer (some ⟨r, 0, none⟩)) := ⟨_, rfl⟩
      have HW2 := hide hW2
      rw [← hW2] at cr2 cd2 dW dR XL3 ⊢
      clear hr hW2 k0 k1 F2 N2 D2 CW1 CR1 FR1
      have X3 := hide (Write_any dW Dev.Ok.new 0 1)
      have DR := hide dR
      rw [show wrE 0 1 = 0 from by decide] at X3
      clear dW dR
      go_wp2_with fail
      refine X3.out.mono ?_
      rintro e w3 ⟨rfl, d3, b3⟩
      have cr3 := (b3.cell (p := ⟨x, 3 + i, none⟩) XL3.out (fun e => by have e : x = d := e; have := ND.out; omega)).trans cr2
      have dR3 := DR.out.but b3 (fun _ _ => trivial) (fun e => by have e : r = d := e; have := NR.out; omega)
      have X4 := hide (rWrite_any dR3 Dev.Ok.new 0 1)
      rw [show wrE 0 1 = 0 from by decide] at X4
      have D3 := hide d3
      have B3 := hide b3
      clear d3 b3 cr2 cd2 dR3 X3
      go_wp2_with fail
      refine X4.out.mono ?_
      rintro e w4 ⟨rfl, d4, b4⟩
      have BG := hide (hB.out.step hi2 HD.out B1.out D1'.out (by rw [HR.out, SW.out]) (by rw [← HW1.out, ← SW.out]; exact B2.out) D2'.out (by rw [← HW2.out]; exact B3.out) D3.out b4 d4)
      clear d4 b4 cr3 X4
      go_wp2
      go_roundw
      case rel => exact ⟨i + 1, _, _, by go_num, by omega, BG.out⟩
      case measure => simp [intOf]; omega
    · obtain rfl : i = 2 := by omega
      have cd0 := hB.out.cd 0 (by omega)
      have cd1 := hB.out.cd 1 (by omega)
      rw [if_pos (by omega)] at cd0 cd1
      obtain ⟨d0, hd0⟩ : ∃ d0, d0 = dv 0 := ⟨_, rfl⟩
      obtain ⟨d1, hd1⟩ : ∃ d1, d1 = dv 1 := ⟨_, rfl⟩
      rw [← hd0] at cd0
      rw [← hd1] at cd1
      have HD0 := hide hd0
      have HD1 := hide hd1
      have hxl := hB.out.lt
      clear hd0 hd1
      have N1 := hide (wNew_any d0 d1 wr.drew)
      go_upto_region 13 with fail
      have F1 : Hid (∀ w1, w1 = wr.drew.alloc (.cells #[.int .i64 0, .pointer (some ⟨d0, 0, none⟩), .pointer (some ⟨d1, 0, none⟩), .slice none 0 0, .slice none 0 0] 84) → w1.cell? ⟨x, 2, none⟩ = some (.pointer none) ∧ w1.frozen? ⟨x, 2, none⟩ = false) := fun w1 e => by
        rw [e]
        exact ⟨(((But.refl (fun _ => False) wr).drew.alloc _).cell (p := ⟨x, 2, none⟩) hxl id).trans hB.out.c2, (((But.refl (fun _ => False) wr).drew.alloc _).frozen (p := ⟨x, 2, none⟩) hxl id).trans (hB.out.fz 2)⟩
      go_region_law (first
        | (refine step_call rfl 29 #[.pointer (some ⟨d0, 0, none⟩), .pointer (some ⟨d1, 0, none⟩)] (by simp [Act.eval, go_sem]) N1.out (fun e w' h => by obtain ⟨rfl, _⟩ := h; exact ⟨_, rfl⟩) ?_; rintro _ w1 ⟨hre, hw1⟩; cases hre; obtain ⟨k2, f2⟩ := F1.out w1 hw1; have HW := hide hw1; clear hw1))
      all_goals
        go_upto_region 14 with fail
        obtain ⟨b, hb⟩ : ∃ b, b = wr.heap.size := ⟨_, rfl⟩
        rw [← hb]
        have HB := hide hb
        have bB : But (Only x) wr (w1.setCell ⟨x, 2, none⟩ (.pointer (some ⟨b, 0, none⟩))) := But.setCell (K := Only x) (by rw [HW.out]; exact (But.refl _ wr).drew.alloc _) (p := ⟨x, 2, none⟩) (.inr rfl) _
        have SZ : Hid ((w1.setCell ⟨x, 2, none⟩ (.pointer (some ⟨b, 0, none⟩))).heap.size = wr.heap.size + 1) := by
          have e : w1.heap.size = wr.heap.size + 1 := by rw [HW.out, World.size_alloc]; rfl
          show _ = _
          rw [← e]; simp [World.setCell]
        have cc : ∀ j, j ≠ 2 → (w1.setCell ⟨x, 2, none⟩ (.pointer (some ⟨b, 0, none⟩))).cell? ⟨x, j, none⟩ = wr.cell? ⟨x, j, none⟩ := fun j hj => by
          rw [cell_off hj, HW.out]; exact ((But.refl (fun _ => False) wr).drew.alloc _).cell (p := ⟨x, j, none⟩) hxl id
        have ff : ∀ j, (w1.setCell ⟨x, 2, none⟩ (.pointer (some ⟨b, 0, none⟩))).frozen? ⟨x, j, none⟩ = wr.frozen? ⟨x, j, none⟩ := fun j => by
          rw [World.frozen?_setCell, HW.out]; exact ((But.refl (fun _ => False) wr).drew.alloc _).frozen (p := ⟨x, j, none⟩) hxl id
        have c2 : (w1.setCell ⟨x, 2, none⟩ (.pointer (some ⟨b, 0, none⟩))).cell? ⟨x, 2, none⟩ = some (.pointer (some ⟨b, 0, none⟩)) := World.cell?_setCell_same' _ _ _ (by rw [k2]; rfl)
        have cr0 := hB.out.cr 0 (by omega)
        have cr1 := hB.out.cr 1 (by omega)
        rw [if_pos (by omega)] at cr0 cr1
        obtain ⟨r0, hr0⟩ : ∃ r0, r0 = rdv 0 := ⟨_, rfl⟩
        obtain ⟨r1, hr1⟩ : ∃ r1, r1 = rdv 1 := ⟨_, rfl⟩
        rw [← hr0] at cr0
        rw [← hr1] at cr1
        have HR0 := hide hr0
        have HR1 := hide hr1
        have e0 := (cc 3 (by omega)).trans cr0
        have e1 := (cc 4 (by omega)).trans cr1
        have e5 := (cc 5 (by omega)).trans hB.out.c5
        have g5 := (ff 5).trans (hB.out.fz 5)
        have hxl2 := Nat.lt_of_lt_of_le hxl bB.size
        obtain ⟨W1, hW1⟩ : ∃ W1, W1 = w1.setCell ⟨x, 2, none⟩ (.pointer (some ⟨b, 0, none⟩)) := ⟨_, rfl⟩
        rw [← hW1] at SZ c2 e0 e1 e5 g5 hxl2 ⊢
        have HW1 := hide hW1
        clear hW1 cc ff bB k2 f2 hb cd0 cd1 cr0 cr1 hr0 hr1 N1
        have N2 := hide (rwNew_any r0 r1 W1.drew)
        have F2 : Hid (∀ w2, w2 = W1.drew.alloc (.cells #[.pointer (some ⟨r0, 0, none⟩), .pointer (some ⟨r1, 0, none⟩), .slice none 0 0, .slice none 0 0, .int .i64 0] 67) → w2.cell? ⟨x, 5, none⟩ = some (.pointer none) ∧ w2.frozen? ⟨x, 5, none⟩ = false ∧ w2.cell? ⟨x, 2, none⟩ = some (.pointer (some ⟨b, 0, none⟩))) := fun w2 e => by
          rw [e]
          exact ⟨(((But.refl (fun _ => False) W1).drew.alloc _).cell (p := ⟨x, 5, none⟩) hxl2 id).trans e5, (((But.refl (fun _ => False) W1).drew.alloc _).frozen (p := ⟨x, 5, none⟩) hxl2 id).trans g5, (((But.refl (fun _ => False) W1).drew.alloc _).cell (p := ⟨x, 2, none⟩) hxl2 id).trans c2⟩
        go_region_law (first
          | (refine step_call rfl 30 #[.pointer (some ⟨r0, 0, none⟩), .pointer (some ⟨r1, 0, none⟩)] (by simp [Act.eval, go_sem]) N2.out (fun e w' h => by obtain ⟨rfl, _⟩ := h; exact ⟨_, rfl⟩) ?_; rintro _ w2 ⟨hre, hw2⟩; cases hre; obtain ⟨k5, f5, k2b⟩ := F2.out w2 hw2; have HW2 := hide hw2; clear hw2))
        all_goals
          go_upto_region 15 with fail
          obtain ⟨rb, hrb⟩ : ∃ rb, rb = W1.heap.size := ⟨_, rfl⟩
          rw [← hrb]
          have k6 : (w2.setCell ⟨x, 5, none⟩ (.pointer (some ⟨rb, 0, none⟩))).cell? ⟨x, 2, none⟩ = some (.pointer (some ⟨b, 0, none⟩)) := by
            rw [cell_off (by omega)]; exact k2b
          have RG := hide (hB.out.rig (b := b) (rb := rb) HB.out (by rw [hrb, SZ.out]) (w2 := w2.setCell ⟨x, 5, none⟩ (.pointer (some ⟨rb, 0, none⟩))) (by rw [HW2.out, HW1.out, HW.out, HD0.out, HD1.out, HR0.out, HR1.out]))
          clear hrb k5 f5 e0 e1 e5 g5 c2 N2
          generalize w2.setCell ⟨x, 5, none⟩ (.pointer (some ⟨rb, 0, none⟩)) = W2 at *
          go_wp2
          go_ret
          refine ⟨rfl, ⟨b, rb, dv, rdv, ?_⟩, by rw [HX.out]; exact RG.out.2⟩
          have := RG.out.1
          rw [← HX.out] at this
          exact this
end Go.Proofs.Ytghojbgjmpjhgaa
