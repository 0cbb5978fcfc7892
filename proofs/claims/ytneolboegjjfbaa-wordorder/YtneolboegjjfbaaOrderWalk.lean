/-
  WordOrder, walked: in which order words stand does not matter to the checksum.
-/
import Derived.Test.YtneolboegjjfbaaSumN
import Derived.Deep.DeepCutAuto
namespace Go.Proofs.Ytneolboegjjfbaa
open Go.RowKit

theorem get_set (L : List Int) (j k : Nat) (v : Int) : (L.set j v)[k]?.getD 0 = if j = k ∧ k < L.length then v else L[k]?.getD 0 := by
  rw [List.getElem?_set]
  by_cases h : j = k
  · subst h
    by_cases h2 : j < L.length <;> simp [h2]
  · simp [h]

theorem swapped (a : List Int) (p q : Nat) (hp : 2 * p + 1 < a.length) (hq : 2 * q + 1 < a.length) :
    csum ((((a.set (2 * p) (a[2 * q]?.getD 0)).set (2 * p + 1) (a[2 * q + 1]?.getD 0)).set (2 * q) (a[2 * p]?.getD 0)).set (2 * q + 1) (a[2 * p + 1]?.getD 0)) = csum a := by
  have e1 := wsum_set a (2 * p) (a[2 * q]?.getD 0) (by omega)
  have e2 := wsum_set (a.set (2 * p) (a[2 * q]?.getD 0)) (2 * p + 1) (a[2 * q + 1]?.getD 0) (by simp; omega)
  have e3 := wsum_set ((a.set (2 * p) (a[2 * q]?.getD 0)).set (2 * p + 1) (a[2 * q + 1]?.getD 0)) (2 * q) (a[2 * p]?.getD 0) (by simp; omega)
  have e4 := wsum_set (((a.set (2 * p) (a[2 * q]?.getD 0)).set (2 * p + 1) (a[2 * q + 1]?.getD 0)).set (2 * q) (a[2 * p]?.getD 0)) (2 * q + 1) (a[2 * p + 1]?.getD 0) (by simp; omega)
  rw [if_pos (by omega)] at e1 e3
  rw [if_neg (by omega)] at e2 e4
  rw [get_set, if_neg (by omega)] at e2
  rw [get_set, get_set, if_neg (by omega)] at e3
  rw [get_set, get_set, get_set, if_neg (by omega), List.length_set] at e4
  have g3 : (if 2 * p = 2 * q ∧ 2 * q < a.length then a[2 * q]?.getD 0 else a[2 * q]?.getD 0) = a[2 * q]?.getD 0 := by split <;> rfl
  have g4 : (if 2 * p + 1 = 2 * q + 1 ∧ 2 * q + 1 < a.length then a[2 * q + 1]?.getD 0 else if 2 * p = 2 * q + 1 ∧ 2 * q + 1 < a.length then a[2 * q]?.getD 0 else a[2 * q + 1]?.getD 0) = a[2 * q + 1]?.getD 0 := by
    split
    · rfl
    · rw [if_neg (by omega)]
  rw [g3] at e3
  rw [g4] at e4
  unfold csum
  rw [e4, e3, e2, e1]
  congr 2
  omega

set_option maxHeartbeats 4000000 in
theorem order_walk (va : Value) (a : List Int) (i k : Int) (w : World) (ha : IsB w.heap.size w va a) (Ba : Bytes a) (la : a.length ≤ 140737488351232) (_ : -9223372036854775808 ≤ i) (_ : i ≤ 9223372036854775807) (_ : -9223372036854775808 ≤ k) (_ : k ≤ 9223372036854775807) :
    Calls Try.prog 7 #[va, .int .i64 i, .int .i64 k] w fun e w' => e = .returned (.bool true) ∧ Below w.heap.size w w' := by
  obtain ⟨aa, ca, rfl, hca⟩ := ha.shape
  go_enter Try.func7, Try.ntmps7
  go_wp2_with fail
  refine (awake_any _).mono ?_
  rintro e w1 ⟨rfl, b1⟩
  obtain ⟨n, hn⟩ : ∃ n, n = a.length / 2 := ⟨_, rfl⟩
  have en : (a.length : Int) / 2 = (n : Int) := by omega
  have ln : n ≤ 140737488351232 := by omega
  have hn1 : 2 * n ≤ a.length := by omega
  clear hn
  by_cases h0 : i < 0
  · go_wp2
    go_ret
    exact ⟨rfl, b1⟩
  · by_cases h1 : k < 0
    · go_wp2
      go_ret
      exact ⟨rfl, b1⟩
    · by_cases h2 : (n : Int) ≤ i
      · go_wp2
        go_ret
        exact ⟨rfl, b1⟩
      · by_cases h3 : (n : Int) ≤ k
        · go_wp2
          go_ret
          exact ⟨rfl, b1⟩
        · have i1 := ha.later b1
          obtain ⟨p, rfl⟩ := Int.eq_ofNat_of_zero_le (show 0 ≤ i by omega)
          obtain ⟨q, rfl⟩ := Int.eq_ofNat_of_zero_le (show 0 ≤ k by omega)
          have hp : 2 * p + 1 < a.length := by omega
          have hq : 2 * q + 1 < a.length := by omega
          go_wp2_with (at_builtin; refine wpList_grow rfl (.const (.slice none 0 0)) (.tmp 31) rfl rfl w1.heap.size (.slice none 0 0) _ [] a rfl rfl (Gro.nil _ _) i1 (Nat.le_refl _) (by simp; omega) a (List.nil_append _) ?_)
          intro a3 c3 w3 hc3 g3 b3
          obtain ⟨g, rfl, hg, hcs, hfz⟩ := g3.block (by omega)
          have hb3 := later b1 b3
          have hgw : w.heap.size ≤ g := by have := b1.size; omega
          have SW := hide (swapped a p q hp hq)
          have hcell : ∀ W, Below w.heap.size w W → ∃ bb off, aa = some ⟨bb, off, none⟩ ∧ ∀ j, j < a.length → W.cell? ⟨bb, off + j, none⟩ = some (.int .u8 (a[j]?.getD 0)) := fun W hW => by
            obtain ⟨_, _, e, _, _, h⟩ := ha.below hW
            simp only [Value.slice.injEq] at e
            obtain ⟨rfl, _, rfl⟩ := e
            obtain ⟨bb, off, e, _, h⟩ := h (by omega)
            exact ⟨bb, off, e, h⟩
          obtain ⟨bb, off, e, _⟩ := hcell w (Below.refl _ _)
          subst e
          have hcl : ∀ W, Below w.heap.size w W → ∀ j, j < a.length → W.cell? ⟨bb, off + j, none⟩ = some (.int .u8 (a[j]?.getD 0)) := fun W hW => by
            obtain ⟨bb', off', e, h⟩ := hcell W hW
            cases e
            exact h
          have HC := hide hcl
          have HA := hide ha
          have B1 := Ba.getD (2 * p)
          have B2 := Ba.getD (2 * p + 1)
          have B3 := Ba.getD (2 * q)
          have B4 := Ba.getD (2 * q + 1)
          have BY : Bytes ((((a.set (2 * p) (a[2 * q]?.getD 0)).set (2 * p + 1) (a[2 * q + 1]?.getD 0)).set (2 * q) (a[2 * p]?.getD 0)).set (2 * q + 1) (a[2 * p + 1]?.getD 0)) :=
            (((Ba.set _ _ B3.1 B3.2).set _ _ B4.1 B4.2).set _ _ B1.1 B1.2).set _ _ B2.1 B2.2
          have HBY := hide BY
          have G3 := hide g3
          obtain ⟨v1, hv1⟩ : ∃ v, a[2 * p]?.getD 0 = v := ⟨_, rfl⟩
          obtain ⟨v2, hv2⟩ : ∃ v, a[2 * p + 1]?.getD 0 = v := ⟨_, rfl⟩
          obtain ⟨v3, hv3⟩ : ∃ v, a[2 * q]?.getD 0 = v := ⟨_, rfl⟩
          obtain ⟨v4, hv4⟩ : ∃ v, a[2 * q + 1]?.getD 0 = v := ⟨_, rfl⟩
          have C1 : ∀ W, Below w.heap.size w W → W.cell? ⟨bb, off + 2 * p, none⟩ = some (.int .u8 v1) := fun W hW => by rw [← hv1]; exact hcl W hW _ (by omega)
          have C2 : ∀ W, Below w.heap.size w W → W.cell? ⟨bb, off + (2 * p + 1), none⟩ = some (.int .u8 v2) := fun W hW => by rw [← hv2]; exact hcl W hW _ (by omega)
          have C3 : ∀ W, Below w.heap.size w W → W.cell? ⟨bb, off + 2 * q, none⟩ = some (.int .u8 v3) := fun W hW => by rw [← hv3]; exact hcl W hW _ (by omega)
          have C4 : ∀ W, Below w.heap.size w W → W.cell? ⟨bb, off + (2 * q + 1), none⟩ = some (.int .u8 v4) := fun W hW => by rw [← hv4]; exact hcl W hW _ (by omega)
          rw [hv1, hv2, hv3, hv4] at SW HBY
          have D1 := hide C1
          have D2 := hide C2
          have D3 := hide C3
          have D4 := hide C4
          clear hcell hcl ha hcs hfz g3 i1 b3 BY B1 B2 B3 B4 hv1 hv2 hv3 hv4 C1 C2 C3 C4 HC
          -- the four stores
          obtain ⟨W4, hW4, b4, g4, z4⟩ := own_store hb3 hgw G3.out rfl (2 * p) v3
          have x1 := D3.out w3 hb3
          obtain ⟨y1, f1⟩ := own_cell G3.out (2 * p) (by omega)
          have E4 := hide hW4
          have G4 := hide g4
          have Z4 := hide z4
          clear hW4 g4 z4
          go_upto_region 7 with fail
          rw [E4.out]
          clear x1 y1 f1 E4 G3
          obtain ⟨W5, hW5, b5, g5, z5⟩ := own_store b4 hgw G4.out (by simp) (2 * p + 1) v4
          have x1 := D4.out W4 b4
          obtain ⟨y1, f1⟩ := own_cell G4.out (2 * p + 1) (by simp; omega)
          have E5 := hide hW5
          have G5 := hide g5
          have Z5 := hide z5
          clear hW5 g5 z5
          go_upto_region 8 with fail
          rw [E5.out]
          clear x1 y1 f1 E5 G4 b4
          obtain ⟨W6, hW6, b6, g6, z6⟩ := own_store b5 hgw G5.out (by simp) (2 * q) v1
          have x1 := D1.out W5 b5
          obtain ⟨y1, f1⟩ := own_cell G5.out (2 * q) (by simp; omega)
          have E6 := hide hW6
          have G6 := hide g6
          have Z6 := hide z6
          clear hW6 g6 z6
          go_upto_region 9 with fail
          rw [E6.out]
          clear x1 y1 f1 E6 G5 b5
          obtain ⟨W7, hW7, b7, g7, z7⟩ := own_store b6 hgw G6.out (by simp) (2 * q + 1) v2
          have x1 := D2.out W6 b6
          obtain ⟨y1, f1⟩ := own_cell G6.out (2 * q + 1) (by simp; omega)
          have E7 := hide hW7
          have G7 := hide g7
          have Z7 := hide z7
          clear hW7 g7 z7
          go_upto_region 10 with fail
          rw [E7.out]
          have hL : ((((a.set (2 * p) v3).set (2 * p + 1) v4).set (2 * q) v1).set (2 * q + 1) v2).length = a.length := by simp
          obtain ⟨L, eL⟩ : ∃ L, (((a.set (2 * p) v3).set (2 * p + 1) v4).set (2 * q) v1).set (2 * q + 1) v2 = L := ⟨_, rfl⟩
          rw [eL] at SW HBY hL G7
          have S1 := hide (Sum1 _ a W7 ((HA.out.below b7).mono b7.size) Ba (by omega))
          have HL := hide hL
          clear x1 y1 f1 E7 G6 b6 eL hL D1 D2 D3 D4 Z4 Z5 Z6 Z7 HA hb3
          go_wp2_with fail
          refine (unhide S1).mono ?_
          rintro e w8 ⟨rfl, b8⟩
          clear S1
          have S2 := hide (Sum1 _ L w8 (G7.out.isB.later b8) HBY.out (by rw [HL.out]; omega))
          rw [SW.out] at S2
          have bb8 := later b7 b8
          clear b7 b8 G7 SW HBY HL
          generalize csum a = s1 at *
          go_wp2_with fail
          refine (unhide S2).mono ?_
          rintro e w9 ⟨rfl, b9⟩
          clear S2
          go_wp2
          go_ret
          exact ⟨by simp, later bb8 b9⟩

end Go.Proofs.Ytneolboegjjfbaa
