
/-
  The document's may.
-/
import Derived.Test.YtlfacppkgamkgaaM26
namespace Go.Proofs.Ytlfacppkgamkgaa
open Go.RowKit Go.Shelf

theorem may_false {x : Wy} (h : x.bits < 0 ∨ 32 < x.bits ∨ (x.via = false ∧ x.gate ≠ zI)) : mayW x = false := by
  refine decide_eq_false (fun e => ?_)
  obtain ⟨e1, e2, e3, e4⟩ := e
  rcases h with h | h | h
  · omega
  · omega
  · rcases e4 with e4 | e4
    · rw [h.1] at e4; cases e4
    · exact h.2 e4
set_option maxRecDepth 100000 in
set_option maxHeartbeats 4000000 in
theorem may_any (x : Wy) (hx : x.Ok) (w : World) : Calls Try.prog 18 #[x.val] w fun e w' => e = .returned (.bool (mayW x)) ∧ Below w.heap.size w w' := by
  obtain ⟨s, hs⟩ : ∃ s, s = w.heap.size := ⟨_, rfl⟩
  obtain ⟨X, hX⟩ : ∃ X, X = x.cells := ⟨_, rfl⟩
  obtain ⟨w1, hw1⟩ : ∃ w1, w1 = w.alloc (.cells X.toArray 33) := ⟨_, rfl⟩
  have b1 : Hid (Below w.heap.size w w1) := by rw [hw1]; exact (Below.refl _ w).alloc (Nat.le_refl _) _
  have c1 : CellsAt w1 s 0 x.cells := by rw [hw1, hs, ← hX]; exact CellsAt.new w X 33
  have sl : s < w1.heap.size := c1.lt (by simp [Wy.cells, I4.vals])
  have EX : Hid (x.val = .agg X.toArray) := by rw [hX]; exact rfl
  rw [EX.out]
  have P1 := Wy.parts c1
  simp only [Nat.zero_add] at P1
  obtain ⟨p1, p2, p3, p4⟩ := P1
  have PN := hide p1
  have g0 := p3 0 _ rfl
  have g1 := p3 1 _ rfl
  have g2 := p3 2 _ rfl
  have g3 := p3 3 _ rfl
  simp only [Nat.add_zero, Nat.reduceAdd] at g0 g1 g2 g3
  have EI := eq_ip
  have HX := hide hx
  obtain ⟨k, hk⟩ : ∃ k, k = x.bits := ⟨_, rfl⟩
  obtain ⟨v, hv⟩ : ∃ v, v = x.via := ⟨_, rfl⟩
  obtain ⟨G, hG⟩ : ∃ G, G = eqI x.gate zI := ⟨_, rfl⟩
  have EG : eqI ⟨x.gate.a, x.gate.b, x.gate.c, x.gate.d⟩ ⟨0, 0, 0, 0⟩ = G := by rw [hG]; rfl
  rw [← hk] at p2
  rw [← hv] at p4
  have HK := hide hk
  have HV := hide hv
  have HG := hide hG
  have b1s : Hid (Below s w w1) := by unfold Hid; rw [hs]; exact b1.out
  have hw1' := hw1.symm
  have hs' := hs.symm
  clear hw1 hs hX c1 p1 p3 hk hv hG hx
  go_enter Try.func18, Try.ntmps18
  by_cases h0 : k < 0
  · have em : Hid (mayW x = false) := may_false (.inl (by rw [← HK.out]; exact h0))
    go_wp2
    go_ret
    exact ⟨by rw [em.out]; rfl, by first | exact b1.out | exact b1s.out⟩
  by_cases h1 : 32 < k
  · have em : Hid (mayW x = false) := may_false (.inr (.inl (by rw [← HK.out]; exact h1)))
    go_wp2
    go_ret
    exact ⟨by rw [em.out]; rfl, by first | exact b1.out | exact b1s.out⟩
  by_cases h2 : v = false ∧ G = false
  · obtain ⟨rfl, rfl⟩ := h2
    have em : Hid (mayW x = false) := may_false (.inr (.inr ⟨HV.out.symm, fun e => by have := HG.out; rw [e, eqI_self] at this; cases this⟩))
    go_wp2
    go_ret
    exact ⟨by rw [em.out]; rfl, by first | exact b1.out | exact b1s.out⟩
  obtain ⟨m, hm⟩ : ∃ m : Nat, k = (m : Int) := ⟨k.toNat, by omega⟩
  have EM : Hid (mayW x = decide (beg x.net m = x.net)) := by
    unfold Hid mayW
    have e3 : x.bits.toNat = m := by rw [← HK.out, hm]; simp
    have e4 : x.via = true ∨ x.gate = zI := by
      rw [← HV.out]
      cases v with
      | true => exact .inl rfl
      | false =>
        refine .inr ?_
        cases hGG : G with
        | false => exact absurd ⟨rfl, hGG⟩ h2
        | true => have := HG.out; rw [hGG] at this; exact of_decide_eq_true this.symm
    rw [e3]
    by_cases e : beg x.net m = x.net
    · rw [decide_eq_true e, decide_eq_true ⟨by rw [← HK.out]; omega, by rw [← HK.out]; omega, e, e4⟩]
    · rw [decide_eq_false e, decide_eq_false (fun q => e q.2.2.1)]
  subst hm
  have m32 : m ≤ 32 := by omega
  have OWN := hide (own_bits HX.out.net (32 - m) (by omega))
  rw [show 32 - (32 - m) = m by omega] at OWN
  go_upto_region 1 with fail
  clear hw1' hs'
  have k0 : ¬ (m : Int) < 0 := by omega
  have k1 : ¬ (32 : Int) < (m : Int) := by omega
  go_cut [22] (fun c wc => c = .bool false ∧ w1 = wc)
  case first =>
    cases v with
    | true =>
      go_wp2
      go_meet
      case rel => exact ⟨by first | rfl | (rw [decide_eq_false k1]), rfl⟩
    | false =>
      have eg : G = true := by cases hGG : G with | true => rfl | false => exact absurd ⟨rfl, hGG⟩ h2
      subst eg
      go_wp2
      go_meet
      case rel => exact ⟨by first | rfl | (rw [decide_eq_false k1]), rfl⟩
  case rest =>
    obtain ⟨rfl, hwc⟩ := hcut
    subst hwc
    clear EI EG h2 g0 g1 g2 g3 p4
    go_wp2
    clear p2
    go_loopw [3] (fun vi wr => ∃ i : Nat, vi = .int .i64 (i : Int) ∧ m ≤ i ∧ i ≤ 32 ∧ Hid (∀ j, m ≤ j → j < i → bt x.net j = 0) ∧ Hid (Below w1.heap.size w1 wr)) (fun vi _ => 32 - (intOf vi).toNat)
    case atStart => exact ⟨m, rfl, Nat.le_refl _, m32, (fun j h1 h2 => by omega), Below.refl _ _⟩
    case round =>
      obtain ⟨i, rfl, hi1, hi2, HI, BI⟩ := hrel
      by_cases hlt : i < 32
      · have iz : (i : Int) < 32 := by omega
        have CN := hide (PN.out.later sl BI.out)
        have BT := hide (bit_any x.net i HX.out.net hlt wr)
        obtain ⟨NV, hNV⟩ : ∃ NV, NV = x.net.vals := ⟨_, rfl⟩
        have LN : Hid (NV.length = 4) := by rw [hNV]; exact (rfl : x.net.vals.length = 4)
        have EN : Hid (x.net.val = .agg NV.toArray) := by rw [hNV]; exact rfl
        rw [EN.out] at BT
        rw [← hNV] at CN
        clear hNV
        obtain ⟨bb, hbb⟩ := bt_bd x.net i
        obtain ⟨z, hz⟩ : ∃ z, z = bt x.net i := ⟨_, rfl⟩
        rw [← hz] at BT bb hbb
        have HZ := hide hz
        clear hz
        go_wp2_with (refine wpList_loadA rfl 31 4 aggI sizI _ rfl s 0 rfl NV LN.out CN.out ?_)
        refine BT.out.mono ?_
        rintro _ w5 ⟨rfl, b5⟩
        have B5 := hide (later BI.out b5)
        clear b5 BT CN
        by_cases e : z = 1
        · have FE : Hid (mayW x = false) := by
            unfold Hid
            rw [EM.out]
            exact decide_eq_false (fun h => by have := OWN.out.1 h i hi1 hlt; rw [← HZ.out] at this; omega)
          subst e
          go_wp2
          go_ret
          exact ⟨by rw [FE.out]; rfl, later b1.out B5.out⟩
        · have e1 : (z == 1) = false := by simpa using e
          have HI2 : Hid (∀ j, m ≤ j → j < i + 1 → bt x.net j = 0) := fun j h1 h2 => by
            by_cases ej : j = i
            · rw [ej, ← HZ.out]; omega
            · exact HI.out j h1 (by omega)
          clear e
          go_wp2
          go_roundw
          case rel => exact ⟨i + 1, by go_num, by omega, by omega, HI2.out, B5.out⟩
          case measure => simp [intOf]; omega
      · have ei : i = 32 := by omega
        subst ei
        have FE : Hid (mayW x = true) := by unfold Hid; rw [EM.out]; exact decide_eq_true (OWN.out.2 HI.out)
        go_wp2
        go_ret
        exact ⟨by rw [FE.out]; rfl, later b1.out BI.out⟩
end Go.Proofs.Ytlfacppkgamkgaa
