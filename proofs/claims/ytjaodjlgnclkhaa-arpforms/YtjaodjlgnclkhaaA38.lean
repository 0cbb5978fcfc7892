
/-
  The document's Encode.
-/
import Derived.Test.YtjaodjlgnclkhaaA37
namespace Go.Proofs.Ytjaodjlgnclkhaa
open Go.RowKit Go.Shelf

theorem lit_F (w : World) (bs : List Int) (A : Nat → Prop) (hA : ¬ A w.heap.size) (fz : Nat × Nat) : IsF A (w.alloc (.cells (bs.map (Value.int .u8)).toArray 5 fz)) (.slice (some ⟨w.heap.size, 0, none⟩) bs.length bs.length) bs :=
  ⟨_, _, rfl, Nat.le_refl _, (fun h => by cases h), fun _ => ⟨w.heap.size, 0, rfl, by simp, hA, fun j hj => by
    rw [Nat.zero_add, cell_of_row _ w.heap.size j (bs.map (Value.int .u8)).toArray 5 fz (heap_alloc_new w _)]
    simp [hj]⟩⟩
theorem lit_gro (w : World) (bs : List Int) (hl : bs.length ≤ maxLen) : Gro w.heap.size (w.alloc (.cells (bs.map (Value.int .u8)).toArray 5)) (.slice (some ⟨w.heap.size, 0, none⟩) bs.length bs.length) bs :=
  OwnB.gro ⟨w.heap.size, rfl, Nat.le_refl _, heap_alloc_new w _⟩ hl
theorem take_snoc {L : List Int} {k : Nat} (h : k < L.length) : L.take (k + 1) = L.take k ++ [L[k]?.getD 0] := by
  rw [List.take_add_one, List.getElem?_eq_getElem h]; rfl
theorem cells_at {W : World} {s o : Nat} {bs : List Int} (h : CellsAt W s o (bs.map (Value.int .u8))) {k : Nat} (hk : k < bs.length) : W.cell? ⟨s, o + k, none⟩ = some (.int .u8 (bs[k]?.getD 0)) := by
  have := h k (.int .u8 bs[k]) (by simp [hk])
  rw [this]; simp [hk]

set_option maxRecDepth 100000 in
set_option maxHeartbeats 4000000 in
theorem rEncode_any (a : Ar) (h0 : 0 ≤ a.sm.a) (w : World) : Calls Try.prog 10 #[a.val] w (EnEnd w a) := by
  obtain ⟨s, hs⟩ : ∃ s, s = w.heap.size := ⟨_, rfl⟩
  obtain ⟨W1, hW1⟩ : ∃ W1, W1 = w.alloc (.cells a.vals.toArray 27) := ⟨_, rfl⟩
  have b1 : Below w.heap.size w W1 := by rw [hW1]; exact (Below.refl _ _).alloc (Nat.le_refl _) _
  have z1 : W1.heap.size = s + 1 := by rw [hW1, hs]; simp
  have c1 : CellsAt W1 s 0 a.vals := by rw [hW1, hs]; exact CellsAt.new w _ _
  have x1 : W1.cell? ⟨s, 1, none⟩ = some (.int .u8 a.sm.a) := c1 1 _ rfl
  have x0 : W1.cell? ⟨s, 0, none⟩ = some (.bool a.ans) := c1 0 _ rfl
  have CA := hide c1
  have B1 : Hid (Below s w W1) := by rw [hs]; exact b1
  have Z1 := hide z1
  have tm : a.sm.a.tmod 2 = a.sm.a % 2 := Int.tmod_eq_emod_of_nonneg h0
  rw [show a.val = .agg a.vals.toArray from rfl]
  have la : a.vals.length = 21 := rfl
  have hW1' := hW1.symm
  have hs' := hs.symm
  have HS := hide hs
  clear hW1 hs b1 z1 c1
  unfold EnEnd
  rw [hs']
  by_cases hm : a.sm.a % 2 = 1
  · have E1 : arE a = 1 := by unfold arE; rw [if_pos hm]
    have E2 : arB a = [] := by unfold arB; rw [if_pos hm]
    have hm' : (a.sm.a % 2 == 1) = true := by rw [hm]; rfl
    go_enter Try.func10, Try.ntmps10
    go_wp2
    go_ret2
    exact ⟨.slice none 0 0, by rw [E1]; rfl, by rw [E2]; exact Gro.nil _ _, B1.out⟩
  · have E1 : Hid (arE a = 0) := by unfold Hid arE; rw [if_neg hm]
    have E2 : Hid (arB a = hd8 a.ans ++ arT a) := by unfold Hid arB; rw [if_neg hm]
    have hm' : (a.sm.a % 2 == 1) = false := by simp [hm]
    obtain ⟨an, han⟩ : ∃ an, an = a.ans := ⟨_, rfl⟩
    rw [← han] at x0 E2
    obtain ⟨kd, hkd⟩ : ∃ kd : Int, kd = (if an = true then 2 else 1) := ⟨_, rfl⟩
    have HD8 : Hid (hd8 an = [0, 1, 8, 0, 6, 4, 0, kd]) := by unfold Hid hd8; rw [hkd]
    have HKD := hide hkd
    clear hkd han hm
    go_enter Try.func10, Try.ntmps10
    go_upto_if 16 with fail
    clear hW1' hs'
    go_cut [4] (fun v4 wx => v4 = .int .u8 kd ∧ W1 = wx)
    case first =>
      cases an
      · have e : kd = 1 := HKD.out
        go_wp2
        go_meet
        case rel => exact ⟨by rw [e], rfl⟩
      · have e : kd = 2 := HKD.out
        go_wp2
        go_meet
        case rel => exact ⟨by rw [e], rfl⟩
    case rest =>
      obtain ⟨rfl, hw⟩ := hcut
      subst hw
      clear x1 x0 tm hm'
      obtain ⟨W2, hW2⟩ : ∃ W2, W2 = W1.alloc (.cells #[.int .u8 0, .int .u8 1, .int .u8 8, .int .u8 0, .int .u8 6, .int .u8 4, .int .u8 0, .int .u8 kd] 5) := ⟨_, rfl⟩
      have G0 : Hid (Gro (s + 1) W2 (.slice (some ⟨s + 1, 0, none⟩) 8 8) [0, 1, 8, 0, 6, 4, 0, kd]) := by
        have h := lit_gro W1 [0, 1, 8, 0, 6, 4, 0, kd] (by simp [maxLen])
        rw [Z1.out] at h
        rw [hW2]
        exact h
      have Z0 : Hid (s + 1 ≤ W2.heap.size) := by unfold Hid; rw [hW2]; have := Z1.out; simp; omega
      have b2 : Below W1.heap.size W1 W2 := by rw [hW2]; exact (Below.refl _ _).alloc (Nat.le_refl _) _
      have B0 : Hid (Below s w W2) := B1.out.trans (b2.mono (by have := Z1.out; omega))
      have C0 : Hid (CellsAt W2 s 0 a.vals) := CA.out.later (by have := Z1.out; omega) b2
      have z1 := Z1.out
      have hW2' := hW2.symm
      obtain ⟨t0, ht0⟩ : ∃ t0, t0 = s + 1 := ⟨_, rfl⟩
      rw [← ht0] at z1 G0
      have HT0 := hide ht0
      clear hW2 b2 Z1 B1 CA ht0 HKD
      go_wp2
      clear hW2' z1
      obtain ⟨L0, hL0⟩ : ∃ L0, L0 = [0, 1, 8, 0, 6, 4, 0, kd] := ⟨_, rfl⟩
      have l0 : Hid (8 = L0.length) := by unfold Hid; rw [hL0]; rfl
      have EL0 := hide hL0
      rw [← hL0] at G0
      clear hL0
      go_loopw [5, 6] (fun vo vi wr => ∃ (ak : Option Addr) (ck : Nat) (LK : List Int) (k : Nat), vi = .int .i64 (k : Int) ∧ vo = .slice ak LK.length ck ∧ Hid (L0 ++ (mL a.sm).take k = LK) ∧ k ≤ 6 ∧ Hid (Gro (s + 1) wr (.slice ak LK.length ck) LK) ∧ Hid (s + 1 ≤ wr.heap.size) ∧ Hid (Below s w wr) ∧ Hid (CellsAt wr s 0 a.vals)) (fun _ vi _ => 6 - (intOf vi).toNat)
      case atStart => exact ⟨_, _, L0, 0, rfl, by rw [← l0.out], by simp [Hid], Nat.zero_le _, by rw [← l0.out, ← HT0.out]; exact G0.out, Z0.out, B0.out, C0.out⟩
      case round =>
        clear Z0 B0 C0 G0
        obtain ⟨ak, ck, LK, k, rfl, rfl, EK, hk, G9, Z9, B9, C9⟩ := hrel
        by_cases hlt : k < 6
        · have c := cells_at (bs := mL a.sm) (ar_cells C9.out).2.1 hlt
          have hk1 : (k : Int) < 6 := by omega
          obtain ⟨x, hx⟩ : ∃ x, (mL a.sm)[k]?.getD 0 = x := ⟨_, rfl⟩
          rw [hx] at c
          have HX0 := hide hx
          clear hx hk
          obtain ⟨LN, eN⟩ : ∃ LN, LK ++ [x] = LN := ⟨_, rfl⟩
          have EN1 := hide eN
          have HX := hide (G9.out.later (later_alloc wr (.cells #[.int .u8 x] 5)))
          have IY : Hid (IsF (fun _ => False) (wr.alloc (.cells #[.int .u8 x] 5)) (.slice (some ⟨wr.heap.size, 0, none⟩) 1 1) [x]) := lit_F wr [x] _ id (0, 0)
          have lK : Hid (LK.length ≤ 40) := by
            show _ ≤ _
            rw [← EK.out, List.length_append, ← l0.out]
            have : ((mL a.sm).take k).length ≤ 6 := by simp [mL]; omega
            omega
          have ZA : Hid (s + 1 ≤ (wr.alloc (.cells #[.int .u8 x] 5)).heap.size) := by have := Z9.out; unfold Hid; simp; omega
          have LA : Hid (LK.length + [x].length ≤ 140737488355328) := by have := lK.out; unfold Hid; simp; omega
          clear eN
          go_wp2_with (at_builtin; refine wpList_grow rfl _ _ rfl rfl (s + 1) (fun _ => False) _ _ LK [x] rfl rfl HX.out IY.out ZA.out LA.out LN EN1.out ?_)
          intro a9 c9 w9 hc9 g9 b9
          have GN := hide g9
          have ZN : Hid (s + 1 ≤ w9.heap.size) := Nat.le_trans ZA.out b9.size
          have BN : Hid (Below s w w9) := B9.out.trans (((Below.refl _ wr).alloc (by have := Z9.out; omega) _).trans (b9.mono (by omega)))
          have CN : Hid (CellsAt w9 s 0 a.vals) := (C9.out.later (by have := Z9.out; omega) (later_alloc wr (.cells #[.int .u8 x] 5))).but (K := fun g => s + 1 ≤ g) (by have := Z9.out; simp; omega) ⟨b9.os, b9.tape, b9.output, b9.size, fun i hi hn => b9.block i (by omega)⟩ (by omega)
          clear g9 b9 hc9 c HX IY ZA LA lK G9 Z9 B9 C9
          go_wp2
          go_roundw
          case rel => exact ⟨a9, c9, LN, k + 1, by go_num, rfl, by show _ = _; rw [← EN1.out, ← EK.out, ← HX0.out, take_snoc hlt, List.append_assoc], by omega, GN.out, ZN.out, BN.out, CN.out⟩
          case measure => simp [intOf]; omega
        · obtain rfl : k = 6 := by omega
          rw [show ((6 : Nat) : Int) = 6 from rfl]
          obtain ⟨L1, hLn⟩ : ∃ L1, L1 = LK := ⟨_, rfl⟩
          have EM1 : Hid (L0 ++ mL a.sm = L1) := by unfold Hid; rw [hLn]; exact EK.out
          rw [← hLn] at G9 ⊢
          have l1 : Hid (14 = L1.length) := by unfold Hid; rw [← EM1.out, List.length_append, ← l0.out]; rfl
          obtain ⟨G1, Z1, B1, C1⟩ : Hid (Gro (s + 1) wr (.slice ak L1.length ck) L1) ∧ Hid (s + 1 ≤ wr.heap.size) ∧ Hid (Below s w wr) ∧ Hid (CellsAt wr s 0 a.vals) := ⟨G9.out, Z9.out, B9.out, C9.out⟩
          clear hLn EK hlt hk G9 Z9 B9 C9
          go_wp2
          go_loopw [5, 7] (fun vo vi wr => ∃ (ak : Option Addr) (ck : Nat) (LK : List Int) (k : Nat), vi = .int .i64 (k : Int) ∧ vo = .slice ak LK.length ck ∧ Hid (L1 ++ (iL a.si).take k = LK) ∧ k ≤ 4 ∧ Hid (Gro (s + 1) wr (.slice ak LK.length ck) LK) ∧ Hid (s + 1 ≤ wr.heap.size) ∧ Hid (Below s w wr) ∧ Hid (CellsAt wr s 0 a.vals)) (fun _ vi _ => 4 - (intOf vi).toNat)
          case atStart => exact ⟨_, _, L1, 0, rfl, rfl, by simp [Hid], Nat.zero_le _, G1.out, Z1.out, B1.out, C1.out⟩
          case round =>
            clear Z1 B1 C1 G1
            obtain ⟨ak, ck, LK, k, rfl, rfl, EK, hk, G9, Z9, B9, C9⟩ := hrel
            by_cases hlt : k < 4
            · have c := cells_at (bs := iL a.si) (ar_cells C9.out).2.2.1 hlt
              have hk1 : (k : Int) < 4 := by omega
              obtain ⟨x, hx⟩ : ∃ x, (iL a.si)[k]?.getD 0 = x := ⟨_, rfl⟩
              rw [hx] at c
              have HX0 := hide hx
              clear hx hk
              obtain ⟨LN, eN⟩ : ∃ LN, LK ++ [x] = LN := ⟨_, rfl⟩
              have EN1 := hide eN
              have HX := hide (G9.out.later (later_alloc wr (.cells #[.int .u8 x] 5)))
              have IY : Hid (IsF (fun _ => False) (wr.alloc (.cells #[.int .u8 x] 5)) (.slice (some ⟨wr.heap.size, 0, none⟩) 1 1) [x]) := lit_F wr [x] _ id (0, 0)
              have lK : Hid (LK.length ≤ 40) := by
                show _ ≤ _
                rw [← EK.out, List.length_append, ← l1.out]
                have : ((iL a.si).take k).length ≤ 4 := by simp [iL]; omega
                omega
              have ZA : Hid (s + 1 ≤ (wr.alloc (.cells #[.int .u8 x] 5)).heap.size) := by have := Z9.out; unfold Hid; simp; omega
              have LA : Hid (LK.length + [x].length ≤ 140737488355328) := by have := lK.out; unfold Hid; simp; omega
              clear eN
              go_wp2_with (at_builtin; refine wpList_grow rfl _ _ rfl rfl (s + 1) (fun _ => False) _ _ LK [x] rfl rfl HX.out IY.out ZA.out LA.out LN EN1.out ?_)
              intro a9 c9 w9 hc9 g9 b9
              have GN := hide g9
              have ZN : Hid (s + 1 ≤ w9.heap.size) := Nat.le_trans ZA.out b9.size
              have BN : Hid (Below s w w9) := B9.out.trans (((Below.refl _ wr).alloc (by have := Z9.out; omega) _).trans (b9.mono (by omega)))
              have CN : Hid (CellsAt w9 s 0 a.vals) := (C9.out.later (by have := Z9.out; omega) (later_alloc wr (.cells #[.int .u8 x] 5))).but (K := fun g => s + 1 ≤ g) (by have := Z9.out; simp; omega) ⟨b9.os, b9.tape, b9.output, b9.size, fun i hi hn => b9.block i (by omega)⟩ (by omega)
              clear g9 b9 hc9 c HX IY ZA LA lK G9 Z9 B9 C9
              go_wp2
              go_roundw
              case rel => exact ⟨a9, c9, LN, k + 1, by go_num, rfl, by show _ = _; rw [← EN1.out, ← EK.out, ← HX0.out, take_snoc hlt, List.append_assoc], by omega, GN.out, ZN.out, BN.out, CN.out⟩
              case measure => simp [intOf]; omega
            · obtain rfl : k = 4 := by omega
              rw [show ((4 : Nat) : Int) = 4 from rfl]
              obtain ⟨L2, hLn⟩ : ∃ L2, L2 = LK := ⟨_, rfl⟩
              have EM2 : Hid (L1 ++ iL a.si = L2) := by unfold Hid; rw [hLn]; exact EK.out
              rw [← hLn] at G9 ⊢
              have l2 : Hid (18 = L2.length) := by unfold Hid; rw [← EM2.out, List.length_append, ← l1.out]; rfl
              obtain ⟨G2, Z2, B2, C2⟩ : Hid (Gro (s + 1) wr (.slice ak L2.length ck) L2) ∧ Hid (s + 1 ≤ wr.heap.size) ∧ Hid (Below s w wr) ∧ Hid (CellsAt wr s 0 a.vals) := ⟨G9.out, Z9.out, B9.out, C9.out⟩
              clear hLn EK hlt hk G9 Z9 B9 C9
              go_wp2
              go_loopw [5, 8] (fun vo vi wr => ∃ (ak : Option Addr) (ck : Nat) (LK : List Int) (k : Nat), vi = .int .i64 (k : Int) ∧ vo = .slice ak LK.length ck ∧ Hid (L2 ++ (mL a.dm).take k = LK) ∧ k ≤ 6 ∧ Hid (Gro (s + 1) wr (.slice ak LK.length ck) LK) ∧ Hid (s + 1 ≤ wr.heap.size) ∧ Hid (Below s w wr) ∧ Hid (CellsAt wr s 0 a.vals)) (fun _ vi _ => 6 - (intOf vi).toNat)
              case atStart => exact ⟨_, _, L2, 0, rfl, rfl, by simp [Hid], Nat.zero_le _, G2.out, Z2.out, B2.out, C2.out⟩
              case round =>
                clear Z2 B2 C2 G2
                obtain ⟨ak, ck, LK, k, rfl, rfl, EK, hk, G9, Z9, B9, C9⟩ := hrel
                by_cases hlt : k < 6
                · have c := cells_at (bs := mL a.dm) (ar_cells C9.out).2.2.2.1 hlt
                  have hk1 : (k : Int) < 6 := by omega
                  obtain ⟨x, hx⟩ : ∃ x, (mL a.dm)[k]?.getD 0 = x := ⟨_, rfl⟩
                  rw [hx] at c
                  have HX0 := hide hx
                  clear hx hk
                  obtain ⟨LN, eN⟩ : ∃ LN, LK ++ [x] = LN := ⟨_, rfl⟩
                  have EN1 := hide eN
                  have HX := hide (G9.out.later (later_alloc wr (.cells #[.int .u8 x] 5)))
                  have IY : Hid (IsF (fun _ => False) (wr.alloc (.cells #[.int .u8 x] 5)) (.slice (some ⟨wr.heap.size, 0, none⟩) 1 1) [x]) := lit_F wr [x] _ id (0, 0)
                  have lK : Hid (LK.length ≤ 40) := by
                    show _ ≤ _
                    rw [← EK.out, List.length_append, ← l2.out]
                    have : ((mL a.dm).take k).length ≤ 6 := by simp [mL]; omega
                    omega
                  have ZA : Hid (s + 1 ≤ (wr.alloc (.cells #[.int .u8 x] 5)).heap.size) := by have := Z9.out; unfold Hid; simp; omega
                  have LA : Hid (LK.length + [x].length ≤ 140737488355328) := by have := lK.out; unfold Hid; simp; omega
                  clear eN
                  go_wp2_with (at_builtin; refine wpList_grow rfl _ _ rfl rfl (s + 1) (fun _ => False) _ _ LK [x] rfl rfl HX.out IY.out ZA.out LA.out LN EN1.out ?_)
                  intro a9 c9 w9 hc9 g9 b9
                  have GN := hide g9
                  have ZN : Hid (s + 1 ≤ w9.heap.size) := Nat.le_trans ZA.out b9.size
                  have BN : Hid (Below s w w9) := B9.out.trans (((Below.refl _ wr).alloc (by have := Z9.out; omega) _).trans (b9.mono (by omega)))
                  have CN : Hid (CellsAt w9 s 0 a.vals) := (C9.out.later (by have := Z9.out; omega) (later_alloc wr (.cells #[.int .u8 x] 5))).but (K := fun g => s + 1 ≤ g) (by have := Z9.out; simp; omega) ⟨b9.os, b9.tape, b9.output, b9.size, fun i hi hn => b9.block i (by omega)⟩ (by omega)
                  clear g9 b9 hc9 c HX IY ZA LA lK G9 Z9 B9 C9
                  go_wp2
                  go_roundw
                  case rel => exact ⟨a9, c9, LN, k + 1, by go_num, rfl, by show _ = _; rw [← EN1.out, ← EK.out, ← HX0.out, take_snoc hlt, List.append_assoc], by omega, GN.out, ZN.out, BN.out, CN.out⟩
                  case measure => simp [intOf]; omega
                · obtain rfl : k = 6 := by omega
                  rw [show ((6 : Nat) : Int) = 6 from rfl]
                  obtain ⟨L3, hLn⟩ : ∃ L3, L3 = LK := ⟨_, rfl⟩
                  have E3 : Hid (L2 ++ mL a.dm = L3) := by unfold Hid; rw [hLn]; exact EK.out
                  rw [← hLn] at G9 ⊢
                  have l3 : Hid (24 = L3.length) := by unfold Hid; rw [← E3.out, List.length_append, ← l2.out]; rfl
                  obtain ⟨G3, Z3, B3, C3⟩ : Hid (Gro (s + 1) wr (.slice ak L3.length ck) L3) ∧ Hid (s + 1 ≤ wr.heap.size) ∧ Hid (Below s w wr) ∧ Hid (CellsAt wr s 0 a.vals) := ⟨G9.out, Z9.out, B9.out, C9.out⟩
                  clear hLn EK hlt hk G9 Z9 B9 C9
                  go_wp2
                  go_loopw [5, 9] (fun vo vi wr => ∃ (ak : Option Addr) (ck : Nat) (LK : List Int) (k : Nat), vi = .int .i64 (k : Int) ∧ vo = .slice ak LK.length ck ∧ Hid (L3 ++ (iL a.di).take k = LK) ∧ k ≤ 4 ∧ Hid (Gro (s + 1) wr (.slice ak LK.length ck) LK) ∧ Hid (s + 1 ≤ wr.heap.size) ∧ Hid (Below s w wr) ∧ Hid (CellsAt wr s 0 a.vals)) (fun _ vi _ => 4 - (intOf vi).toNat)
                  case atStart => exact ⟨_, _, L3, 0, rfl, rfl, by simp [Hid], Nat.zero_le _, G3.out, Z3.out, B3.out, C3.out⟩
                  case round =>
                    clear Z3 B3 C3 G3
                    obtain ⟨ak, ck, LK, k, rfl, rfl, EK, hk, G9, Z9, B9, C9⟩ := hrel
                    by_cases hlt : k < 4
                    · have c := cells_at (bs := iL a.di) (ar_cells C9.out).2.2.2.2 hlt
                      have hk1 : (k : Int) < 4 := by omega
                      obtain ⟨x, hx⟩ : ∃ x, (iL a.di)[k]?.getD 0 = x := ⟨_, rfl⟩
                      rw [hx] at c
                      have HX0 := hide hx
                      clear hx hk
                      obtain ⟨LN, eN⟩ : ∃ LN, LK ++ [x] = LN := ⟨_, rfl⟩
                      have EN1 := hide eN
                      have HX := hide (G9.out.later (later_alloc wr (.cells #[.int .u8 x] 5)))
                      have IY : Hid (IsF (fun _ => False) (wr.alloc (.cells #[.int .u8 x] 5)) (.slice (some ⟨wr.heap.size, 0, none⟩) 1 1) [x]) := lit_F wr [x] _ id (0, 0)
                      have lK : Hid (LK.length ≤ 40) := by
                        show _ ≤ _
                        rw [← EK.out, List.length_append, ← l3.out]
                        have : ((iL a.di).take k).length ≤ 4 := by simp [iL]; omega
                        omega
                      have ZA : Hid (s + 1 ≤ (wr.alloc (.cells #[.int .u8 x] 5)).heap.size) := by have := Z9.out; unfold Hid; simp; omega
                      have LA : Hid (LK.length + [x].length ≤ 140737488355328) := by have := lK.out; unfold Hid; simp; omega
                      clear eN
                      go_wp2_with (at_builtin; refine wpList_grow rfl _ _ rfl rfl (s + 1) (fun _ => False) _ _ LK [x] rfl rfl HX.out IY.out ZA.out LA.out LN EN1.out ?_)
                      intro a9 c9 w9 hc9 g9 b9
                      have GN := hide g9
                      have ZN : Hid (s + 1 ≤ w9.heap.size) := Nat.le_trans ZA.out b9.size
                      have BN : Hid (Below s w w9) := B9.out.trans (((Below.refl _ wr).alloc (by have := Z9.out; omega) _).trans (b9.mono (by omega)))
                      have CN : Hid (CellsAt w9 s 0 a.vals) := (C9.out.later (by have := Z9.out; omega) (later_alloc wr (.cells #[.int .u8 x] 5))).but (K := fun g => s + 1 ≤ g) (by have := Z9.out; simp; omega) ⟨b9.os, b9.tape, b9.output, b9.size, fun i hi hn => b9.block i (by omega)⟩ (by omega)
                      clear g9 b9 hc9 c HX IY ZA LA lK G9 Z9 B9 C9
                      go_wp2
                      go_roundw
                      case rel => exact ⟨a9, c9, LN, k + 1, by go_num, rfl, by show _ = _; rw [← EN1.out, ← EK.out, ← HX0.out, take_snoc hlt, List.append_assoc], by omega, GN.out, ZN.out, BN.out, CN.out⟩
                      case measure => simp [intOf]; omega
                    · obtain rfl : k = 4 := by omega
                      rw [show ((4 : Nat) : Int) = 4 from rfl]
                      obtain ⟨L4, hLn⟩ : ∃ L4, L4 = LK := ⟨_, rfl⟩
                      have E4 : Hid (L3 ++ iL a.di = L4) := by unfold Hid; rw [hLn]; exact EK.out
                      rw [← hLn] at G9 ⊢
                      have l4 : Hid (28 = L4.length) := by unfold Hid; rw [← E4.out, List.length_append, ← l3.out]; rfl
                      obtain ⟨G4, Z4, B4, C4⟩ : Hid (Gro (s + 1) wr (.slice ak L4.length ck) L4) ∧ Hid (s + 1 ≤ wr.heap.size) ∧ Hid (Below s w wr) ∧ Hid (CellsAt wr s 0 a.vals) := ⟨G9.out, Z9.out, B9.out, C9.out⟩
                      clear hLn EK hlt hk G9 Z9 B9 C9
                      go_wp2
                      go_ret2
                      refine ⟨.slice ak L4.length ck, by rw [E1.out]; rfl, ?_, B4.out⟩
                      have e : arB a = L4 := by
                        rw [E2.out, HD8.out, ← E4.out, ← E3.out, ← EM2.out, ← EM1.out, EL0.out]
                        simp [arT]
                      rw [e]
                      exact G4.out.less (by omega)
end Go.Proofs.Ytjaodjlgnclkhaa
