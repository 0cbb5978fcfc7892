
/-
  EtherBack, walked.
-/
import Derived.Test.YtipebfaappangaaE15
import Derived.Test.YtipebfaappangaaE11
namespace Go.Proofs.Ytipebfaappangaa
open Go.RowKit

set_option maxRecDepth 100000 in
set_option maxHeartbeats 4000000 in
theorem back_walk (f : Fr) (v : Value) (bs : List Int) (rv : Value) (raw : List Int) (w : World) (hf : f.Ok) (hv : IsF (fun _ => False) w v bs) (hB : Bytes bs) (hl : bs.length ≤ 140737488351232)
    (hr : IsF (fun _ => False) w rv raw) (hR : Bytes raw) (hlr : raw.length ≤ 140737488351232) :
    Calls Try.prog 5 #[f.val, v, rv] w fun e w' => e = .returned (.bool true) ∧ Below w.heap.size w w' := by
  obtain ⟨a, cap, rfl, hcap, -⟩ := hv.shape
  obtain ⟨ra, rcap, rfl, hrcap, -⟩ := hr.shape
  have B2 := hide (later_alloc w (.cells f.cells 25))
  have F2 := hide (FrAt.new w f 25)
  have HV := hide hv
  have HR := hide hr
  have HF := hide hf
  have HB := hide hB
  have HRB := hide hR
  obtain ⟨n, hn⟩ : ∃ n, n = bs.length := ⟨_, rfl⟩
  obtain ⟨rn, hrn⟩ : ∃ n, n = raw.length := ⟨_, rfl⟩
  rw [← hn] at HV hl ⊢
  rw [← hrn] at HR hlr ⊢
  have HN := hide hn
  have HRN := hide hrn
  have n47 : (n : Int) ≤ 140737488351232 := by omega
  have r47 : (rn : Int) ≤ 140737488351232 := by omega
  simp only [Fr.val]
  clear hv hr hf hB hR hcap hrcap hn hrn hl hlr
  go_enter Try.func5, Try.ntmps5
  go_wp2_with fail
  refine (awake_any _).mono ?_
  rintro e w3 ⟨rfl, b3⟩
  have F3 := hide (F2.out.later b3)
  have B3 := hide (later B2.out b3)
  have CE := hide (Encode_any (f := f) (HV.out.later B3.out))
  clear F2 B2 b3
  go_wp2_with (refine wpList_load_fr rfl _ rfl w.heap.size rfl f F3.out ?_)
  refine CE.out.mono ?_
  rintro e w4 ⟨a4, c4, rfl, g4, b4⟩
  have F4 := hide (F3.out.later b4)
  have B4 := hide (later B3.out b4)
  have X4 := hide (g4.isF (A := fun _ => False) (fun _ _ => id))
  have V4 := hide (HV.out.later B4.out)
  have R4 := hide (HR.out.later B4.out)
  clear CE F3 B3 b4 g4
  obtain ⟨e0, he0⟩ : ∃ e0, enE f bs.length = e0 := ⟨_, rfl⟩
  rw [he0]
  have HE := hide he0
  clear he0
  obtain ⟨X, eX⟩ : ∃ X, enB f bs = X := ⟨_, rfl⟩
  rw [eX] at X4 ⊢
  have EX := hide eX
  clear eX
  go_upto_if 27 with fail
  go_cut [7] (fun v7 wc => v7 = .bool true ∧ Hid (Below w4.heap.size w4 wc))
  case first =>
    by_cases hz : e0 = 0
    · subst hz
      obtain ⟨hX, hm, h256⟩ : enB f bs = pad (enH f ++ bs) ∧ mbB f = true ∧ bs.length ≤ 256 := by
        rcases enE_cases f bs.length with h | ⟨h, h1, h2⟩
        · exact absurd HE.out h
        · exact ⟨enB_yes h, h1, h2⟩
      obtain ⟨k1, k2, k3, k4⟩ := back_frame HF.out HB.out hm h256
      rw [← hX, EX.out] at k1 k2 k3 k4
      have lX : (X.length : Int) ≤ 140737488355328 := by
        rw [← EX.out, hX, pad_len, List.length_append, enH_len]
        have : hsz f.tag ≤ 18 := by unfold hsz; split <;> omega
        omega
      have CD := hide (Decode_any X4.out k1 lX)
      have m300 : Hid (bs.length ≤ 256) := h256
      have K2 := hide k2
      have K3 := hide k3
      have K4 := hide k4
      clear k1 k2 k3 k4 lX hX hm h256
      go_wp2_with fail
      refine CD.out.mono ?_
      rintro e w5 ⟨a5, c5, rfl, g5, b5⟩
      rw [K3.out, K2.out]
      have P5 := hide (FrAt.new w5 zFr 25)
      simp only [zFr, Fr.cells] at P5
      obtain ⟨Y, hY⟩ : ∃ Y, deB X = Y := ⟨_, rfl⟩
      rw [hY] at g5 K4 ⊢
      have Y5 := hide (g5.isF (A := fun _ => False) (fun _ _ => id))
      have b5' := hide b5
      clear hY g5 b5 CD
      go_upto_region 5 with (refine wpList_store_fr rfl _ _ rfl w5.heap.size rfl f zFr rfl P5.out ?_)
      intro W6 P6 q6
      replace q6 := newFr q6
      have B6 := hide (later b5'.out q6)
      have F6 := hide (F4.out.later B6.out)
      have V6 := hide (V4.out.later B6.out)
      have Y6 := hide (Y5.out.later q6)
      replace P6 := hide P6
      clear q6 P5 Y5 b5'
      obtain ⟨q, hq⟩ : ∃ q, w5.heap.size = q := ⟨_, rfl⟩
      rw [hq] at P6 ⊢
      clear hq
      obtain ⟨m, hm⟩ : ∃ m, m = Y.length := ⟨_, rfl⟩
      have hmn : n ≤ m := by rw [hm, K4.out, List.length_append]; have := HN.out; omega
      rw [← hm] at Y6 ⊢
      have hmc : m ≤ c5 := by
        obtain ⟨_, _, e, h, _⟩ := Y6.out
        simp only [Value.slice.injEq] at e
        omega
      have YT := (Y6.out.take n (by rw [← hm]; exact hmn))
      have eT : Y.take n = bs := by rw [K4.out, HN.out, List.take_left]
      rw [eT] at YT
      have HM := hide hm
      have cx : ∀ k, (convert 26 9 (.slice a5 n c5)).run Try.prog (W6.drewN k) = .ok (.string (strB bs)) (W6.drewN k) := fun k => conv_str (YT.later (later_drewN _ k))
      have cv : ∀ k, (convert 26 9 (.slice a n cap)).run Try.prog (W6.drewN k) = .ok (.string (strB bs)) (W6.drewN k) := fun k => conv_str (V6.out.later (later_drewN _ k))
      generalize strB bs = sb at cx cv
      have r1 : decide (m < n) = false := decide_eq_false (by omega)
      have r2 : (n : Int) ≤ (c5 : Int) := by omega
      have r3 : (n : Int) ≤ (m : Int) := by omega
      have r4 : (m : Int) ≤ 1000 := by rw [HM.out, K4.out, List.length_append, List.length_replicate]; have := m300.out; omega
      clear hm YT eT hmc
      go_upto_region 5 with fail
      refine wp_region_quiet_lit (by kernel_rfl) (by kernel_rfl) ?_
      go_big_quiet_want
      refine quiet_load_fr _ rfl q rfl f (fun W hW => by obtain ⟨k, rfl⟩ := hW; exact P6.out.later (later_drewN _ _)) ?_
      go_big_quiet_on
      simp only [Act.put, List.setIfInBounds_toArray, List.set_cons_succ, List.set_cons_zero]
      go_big_quiet_want
      refine quiet_load_fr _ rfl w.heap.size rfl f (fun W hW => by obtain ⟨k, rfl⟩ := hW; exact F6.out.later (later_drewN _ _)) ?_
      go_big_quiet_on
      simp only [Act.put, List.setIfInBounds_toArray, List.set_cons_succ, List.set_cons_zero]
      go_big_quiet_want
      refine quiet_pure (.bool false) (fun _ _ => by simp [Act.eval, go_sem, eq_guard, eq_neq, eqF_self]) ?_
      go_big_quiet_on
      simp only [Act.put, List.setIfInBounds_toArray, List.set_cons_succ, List.set_cons_zero]
      repeat go_big_quiet_step (fail)
      refine wpQuiet_nil ?_
      intro _ hw
      obtain ⟨nq, hw⟩ := hw
      subst hw
      obtain ⟨b, off, ea, hc⟩ : ∃ b off, (0 < m → a5 = some ⟨b, off, none⟩) ∧ Hid (∀ j, j < m → (W6.drewN nq).cell? ⟨b, off + j, none⟩ = some (.int .u8 (Y[j]?.getD 0))) := by
        obtain ⟨a', c', e, h1, _, h2⟩ := Y6.out.later (later_drewN W6 nq)
        simp only [Value.slice.injEq] at e
        obtain ⟨rfl, e1, _⟩ := e
        by_cases h0 : 0 < m
        · obtain ⟨b, off, rfl, _, _, hcs⟩ := h2 (by omega)
          exact ⟨b, off, fun _ => rfl, fun j hj => hcs j (by omega)⟩
        · exact ⟨0, 0, fun h => absurd h h0, fun j hj => absurd hj (by omega)⟩
      have zY : Hid (∀ j, n ≤ j → Y[j]?.getD 0 = 0) := fun j hj => by
        rw [K4.out, List.getElem?_append_right (by have := HN.out; omega)]
        cases e : (List.replicate (60 - (enH f ++ bs).length) (0 : Int))[j - bs.length]? with
        | none => rfl
        | some x =>
          have := List.mem_of_getElem? e
          rw [List.mem_replicate] at this
          simp [this.2]
      have BQ := hide (later B6.out (later_drewN W6 nq))
      clear cx cv P6 F6 V6 Y6 B6 F4 X4 V4
      generalize W6.drewN nq = WQ at *
      go_wp2
      go_loop [13] (fun v13 => ∃ i : Nat, v13 = .int .i64 (i : Int) ∧ n ≤ i ∧ i ≤ m) (fun v13 => m - (intOf v13).toNat)
      case atStart => exact ⟨n, rfl, Nat.le_refl _, hmn⟩
      case round =>
        obtain ⟨i, rfl, hi1, hi2⟩ := hrel
        by_cases hlt : i < m
        · have c := hc.out i hlt
          rw [zY.out i hi1] at c
          obtain rfl := ea (by omega)
          have hi3 : (i : Int) < (m : Int) := by omega
          clear hi2 ea
          go_wp2
          go_round
          case rel => exact ⟨i + 1, by go_num, by omega, by omega⟩
          case measure => simp [intOf]; omega
        · obtain rfl : i = m := by omega
          clear ea
          go_wp2
          go_meet
          case rel => exact ⟨rfl, BQ.out⟩
    · have hz2 : (e0 == 0) = false := by rw [beq_dec]; exact decide_eq_false hz
      go_wp2
      go_meet
      case rel => exact ⟨rfl, Below.refl _ _⟩
  case rest =>
    obtain ⟨rfl, b5⟩ := hcut
    have R5 := hide (R4.out.later b5.out)
    have B5 := hide (later B4.out b5.out)
    have CD := hide (Decode_any R5.out HRB.out (by rw [← HRN.out]; omega))
    clear R4 B4 F4 X4 V4 b5
    go_wp2_with fail
    refine CD.out.mono ?_
    rintro e w6 ⟨a6, c6, rfl, g6, b6⟩
    have BR := hide (back_raw HRB.out)
    obtain ⟨Y, hY⟩ : ∃ Y, deB raw = Y := ⟨_, rfl⟩
    obtain ⟨g, hg⟩ : ∃ g, deF raw = g := ⟨_, rfl⟩
    obtain ⟨e1, he1⟩ : ∃ e1, deE raw = e1 := ⟨_, rfl⟩
    rw [hY, hg, he1] at BR
    rw [hY] at g6
    rw [hY, hg, he1]
    have P6 := hide (FrAt.new w6 zFr 25)
    simp only [zFr, Fr.cells] at P6
    have Y6 := hide (g6.isF (A := fun _ => False) (fun _ _ => id))
    have R6 := hide (R5.out.later b6)
    have B6 := hide (later B5.out b6)
    clear hY hg he1 g6 b6 CD R5 B5
    go_upto_region 13 with (refine wpList_store_fr rfl _ _ rfl w6.heap.size rfl g zFr rfl P6.out ?_)
    intro W7 P7 q7
    replace q7 := newFr q7
    have Y7 := hide (Y6.out.later q7)
    have R7 := hide (R6.out.later q7)
    have B7 := hide (later B6.out q7)
    replace P7 := hide P7
    clear q7 P6 Y6 R6 B6
    obtain ⟨q, hq⟩ : ∃ q, w6.heap.size = q := ⟨_, rfl⟩
    rw [hq] at P7 ⊢
    clear hq
    by_cases hz : e1 = 0
    · subst hz
      obtain ⟨k1, k2⟩ := BR.out rfl
      have CE := Encode_any (f := g) Y7.out
      have CE2 := hide CE
      have K1 := hide k1
      have K2 := hide k2
      clear CE k1 k2 BR
      go_wp2_with (refine wpList_load_fr rfl _ rfl q rfl g P7.out ?_)
      refine CE2.out.mono ?_
      rintro e w8 ⟨a8, c8, rfl, g8, b8⟩
      rw [K1.out, K2.out]
      rw [K2.out] at g8
      have cx := conv_str (g8.isF (A := fun _ => False) (fun _ _ => id))
      have cy := conv_str (R7.out.later b8)
      generalize strB raw = sr at cx cy
      have B8 := hide (later B7.out b8)
      rw [← HRN.out] at cx ⊢
      clear g8 b8 CE2
      go_wp2
      go_ret
      exact ⟨rfl, B8.out⟩
    · have hz2 : (e1 == 0) = false := by rw [beq_dec]; exact decide_eq_false hz
      go_wp2
      go_ret
      exact ⟨rfl, B7.out⟩

end Go.Proofs.Ytipebfaappangaa
