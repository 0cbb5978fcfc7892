/-
  WordTurns, walked: one bit that is turned makes another checksum.
-/
import Derived.Test.YtneolboegjjfbaaSumN
namespace Go.Proofs.Ytneolboegjjfbaa
open Go.RowKit

theorem xor_bit : ∀ (x : Fin 256) (j : Fin 8), (bits BinOp.xor IntKind.u8 (x.val : Int) (2 ^ j.val % 256) - (x.val : Int) = 2 ^ j.val ∨ bits BinOp.xor IntKind.u8 (x.val : Int) (2 ^ j.val % 256) - (x.val : Int) = - 2 ^ j.val) ∧
    0 ≤ bits BinOp.xor IntKind.u8 (x.val : Int) (2 ^ j.val % 256) ∧ bits BinOp.xor IntKind.u8 (x.val : Int) (2 ^ j.val % 256) ≤ 255 := by decide +kernel
theorem xor_bit' (x : Int) (j : Nat) (x0 : 0 ≤ x) (x1 : x ≤ 255) (hj : j < 8) : (bits BinOp.xor IntKind.u8 x (2 ^ j % 256) - x = 2 ^ j ∨ bits BinOp.xor IntKind.u8 x (2 ^ j % 256) - x = - 2 ^ j) ∧
    0 ≤ bits BinOp.xor IntKind.u8 x (2 ^ j % 256) ∧ bits BinOp.xor IntKind.u8 x (2 ^ j % 256) ≤ 255 := by
  obtain ⟨n, rfl⟩ := Int.eq_ofNat_of_zero_le x0
  exact xor_bit ⟨n, by omega⟩ ⟨j, hj⟩

theorem turned (a : List Int) (k j : Nat) (Ba : Bytes a) (hk : k < a.length) (hj : j < 8) : (csum a != csum (a.set k (bits BinOp.xor IntKind.u8 (a[k]?.getD 0) (2 ^ j % 256)))) = true := by
  obtain ⟨x0, x1⟩ := Ba.getD k
  have h := xor_bit' (a[k]?.getD 0) j x0 x1 hj
  have e := wsum_set a k (bits BinOp.xor IntKind.u8 (a[k]?.getD 0) (2 ^ j % 256)) hk
  generalize bits BinOp.xor IntKind.u8 (a[k]?.getD 0) (2 ^ j % 256) = y at *
  generalize a[k]?.getD 0 = x at *
  have hp : ∃ d : Int, (d = 1 ∨ d = 2 ∨ d = 4 ∨ d = 8 ∨ d = 16 ∨ d = 32 ∨ d = 64 ∨ d = 128) ∧ (2 : Int) ^ j = d := by
    refine ⟨2 ^ j, ?_, rfl⟩
    have : j = 0 ∨ j = 1 ∨ j = 2 ∨ j = 3 ∨ j = 4 ∨ j = 5 ∨ j = 6 ∨ j = 7 := by omega
    rcases this with rfl | rfl | rfl | rfl | rfl | rfl | rfl | rfl <;> decide
  obtain ⟨d, hd, ed⟩ := hp
  rw [ed] at h
  have m1 := foldI_mod (wsum a)
  have m2 := foldI_mod (wsum (a.set k y))
  rw [bne_iff_ne]
  intro hc
  unfold csum at hc
  have hf : foldI (wsum a) = foldI (wsum (a.set k y)) := by omega
  rw [hf] at m1
  by_cases hk2 : k % 2 = 0
  · rw [if_pos hk2] at e
    omega
  · rw [if_neg hk2] at e
    omega

set_option maxHeartbeats 4000000 in
theorem turns_walk (va : Value) (a : List Int) (bit : Int) (w : World) (ha : IsB w.heap.size w va a) (Ba : Bytes a) (la : a.length ≤ 140737488351232) (_ : -9223372036854775808 ≤ bit) (_ : bit ≤ 9223372036854775807) :
    Calls Try.prog 6 #[va, .int .i64 bit] w fun e w' => e = .returned (.bool true) ∧ Below w.heap.size w w' := by
  obtain ⟨aa, ca, rfl, hca⟩ := ha.shape
  go_enter Try.func6, Try.ntmps6
  go_wp2_with fail
  refine (awake_any _).mono ?_
  rintro e w1 ⟨rfl, b1⟩
  by_cases h0 : a.length = 0
  · have h0' : ((a.length : Int) == 0) = true := by rw [beq_iff_eq]; omega
    go_wp2
    go_ret
    exact ⟨rfl, b1⟩
  · have h0' : ((a.length : Int) == 0) = false := by rw [beq_eq_false_iff_ne]; omega
    by_cases h1 : bit < 0
    · go_wp2
      go_ret
      exact ⟨rfl, b1⟩
    · by_cases h2 : 8 * (a.length : Int) ≤ bit
      · go_wp2
        go_ret
        exact ⟨rfl, b1⟩
      · have i1 := ha.later b1
        obtain ⟨q, rfl⟩ := Int.eq_ofNat_of_zero_le (show 0 ≤ bit by omega)
        go_wp2_with (at_builtin; refine wpList_grow rfl (.const (.slice none 0 0)) (.tmp 23) rfl rfl w1.heap.size (.slice none 0 0) _ [] a rfl rfl (Gro.nil _ _) i1 (Nat.le_refl _) (by simp; omega) a (List.nil_append _) ?_)
        intro a3 c3 w3 hc3 g3 b3
        obtain ⟨g, rfl, hg, hcs, hfz⟩ := g3.block (by omega)
        obtain ⟨k, hk⟩ : ∃ k, k = q / 8 := ⟨_, rfl⟩
        obtain ⟨j, hj⟩ : ∃ j, j = q % 8 := ⟨_, rfl⟩
        have hkl : k < a.length := by omega
        have hjl : j < 8 := by omega
        have e1 : (q : Int) / 8 = (k : Int) := by omega
        have e2 : (q : Int) % 8 = (j : Int) := by omega
        have hc := hcs k hkl
        have hf := hfz k
        obtain ⟨x0, x1⟩ := Ba.getD k
        obtain ⟨x, hx⟩ : ∃ x, x = a[k]?.getD 0 := ⟨_, rfl⟩
        rw [← hx] at hc x0 x1
        have HX := hide hx
        have HK := hide hk
        have HJ := hide hj
        clear hx hk hj hcs hfz h0 h1 h2
        have hy := (xor_bit' x j x0 x1 hjl).2
        have hne : Hid ((csum a != csum (a.set k (bits BinOp.xor IntKind.u8 x (2 ^ j % 256)))) = true) := by rw [HX.out]; exact turned a k j Ba hkl hjl
        have g4 := g3.store rfl k (bits BinOp.xor IntKind.u8 x (2 ^ j % 256))
        obtain ⟨W, hW⟩ : ∃ W, w3.setCell ⟨g, k, none⟩ (.int .u8 (bits BinOp.xor IntKind.u8 x (2 ^ j % 256))) = W := ⟨_, rfl⟩
        have hz : W.heap.size = w3.heap.size := by rw [← hW]; simp
        have z1 := b1.size
        have hb : Below w.heap.size w W := by rw [← hW]; exact (later b1 b3).setCell (p := ⟨g, k, none⟩) (by show w.heap.size ≤ g; omega) _
        rw [hW] at g4
        have S1 := Sum1 _ a W ((ha.below hb).mono hb.size) Ba (by omega)
        rw [hz, ← hW] at S1
        have By : Bytes (a.set k (bits BinOp.xor IntKind.u8 x (2 ^ j % 256))) := Ba.set k _ hy.1 hy.2
        have ly : (a.set k (bits BinOp.xor IntKind.u8 x (2 ^ j % 256))).length = a.length := List.length_set
        have H1 := hide S1
        have HW := hide hW
        have HY := hide ly
        have HZ := hide hz
        clear S1 hW ly hz g3 b3 hy HX HK HJ
        go_wp2_with fail
        refine (unhide H1).mono ?_
        rintro e w5 ⟨rfl, b5⟩
        rw [HW.out, ← HZ.out] at b5
        clear H1 HW HZ
        generalize a.set k (bits BinOp.xor IntKind.u8 x (2 ^ j % 256)) = L at *
        have i5 := g4.isB.later b5
        have S2 := hide (Sum1 _ L w5 i5 By (by rw [HY.out]; omega))
        have hne' := hne.out
        generalize csum a = s1 at *
        generalize csum L = s2 at *
        have bb := later hb b5
        clear b5 g4 i5 hne HY hb b1 ha By
        go_wp2_with fail
        refine (unhide S2).mono ?_
        rintro e w6 ⟨rfl, b6⟩
        clear S2
        go_wp2
        go_ret
        exact ⟨rfl, later bb b6⟩

end Go.Proofs.Ytneolboegjjfbaa
