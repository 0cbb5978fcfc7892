/-
  WordSums, walked: the checksum of any parts, and of a word that is patched, is what the document says.
-/
import Derived.Test.YtneolboegjjfbaaRef
namespace Go.Proofs.Ytneolboegjjfbaa
open Go.RowKit

theorem Sum0 (w : World) : Calls Try.prog 17 #[.slice none 0 0] w fun e W' => e = .returned (.int .i64 65535) ∧ Below w.heap.size w W' := by
  have hp : IsP w.heap.size w (.slice none 0 0) [] := ⟨none, 0, [], rfl, rfl, fun h => by simp at h, fun j hj => by simp at hj⟩
  have := Sum_any _ [] ⟨by simp, by simp⟩ (by simp) w hp
  rw [show csum ([] : List (List Int)).flatten = 65535 from by decide] at this
  exact this

set_option maxHeartbeats 4000000 in
theorem sums_walk (va : Value) (a : List Int) (vb : Value) (b : List Int) (vc : Value) (c : List Int) (sum old next : Int) (w : World) (ha : IsB w.heap.size w va a) (Ba : Bytes a) (la : a.length ≤ 1048576)
    (hb : IsB w.heap.size w vb b) (Bb : Bytes b) (lb : b.length ≤ 1048576) (hc : IsB w.heap.size w vc c) (Bc : Bytes c) (lc : c.length ≤ 1048576)
    (_ : -9223372036854775808 ≤ sum) (_ : sum ≤ 9223372036854775807) (_ : -9223372036854775808 ≤ old) (_ : old ≤ 9223372036854775807) (_ : -9223372036854775808 ≤ next) (_ : next ≤ 9223372036854775807) :
    Calls Try.prog 4 #[va, vb, vc, .int .i64 sum, .int .i64 old, .int .i64 next] w fun e w' => e = .returned (.bool true) ∧ Below w.heap.size w w' := by
  obtain ⟨aa, ca, rfl, hca⟩ := ha.shape
  obtain ⟨ab, cb, rfl, hcb⟩ := hb.shape
  obtain ⟨ac, cc, rfl, hcc⟩ := hc.shape
  go_enter Try.func4, Try.ntmps4
  go_wp2_with fail
  refine (awake_any _).mono ?_
  rintro e w1 ⟨rfl, b1⟩
  have zz := b1.size
  have i1 := ha.later b1
  go_wp2_with (at_builtin; refine wpList_grow rfl (.const (.slice none 0 0)) (.tmp 16) rfl rfl w1.heap.size (.slice none 0 0) _ [] a rfl rfl (Gro.nil _ _) i1 (Nat.le_refl _) (by simp; omega) a (List.nil_append _) ?_)
  intro a2 c2 w2 hc2 g2 b2
  have z2 := b2.size
  replace b1 := later b1 b2
  have i2 := (hb.below b1).mono b1.size
  obtain ⟨L1, e1⟩ : ∃ L, a ++ b = L := ⟨_, rfl⟩
  have l1 : L1.length ≤ 2097152 := by rw [← e1]; simp; omega
  have B1 : Bytes L1 := by rw [← e1]; exact Ba.append Bb
  have E1 := hide e1
  clear e1 i1 b2 hc2
  go_wp2_with (at_builtin; refine wpList_grow rfl (.tmp 18) (.tmp 19) rfl rfl w1.heap.size _ _ a b rfl rfl g2 i2 z2 (by omega) L1 E1.out ?_)
  intro a3 c3 w3 hc3 g3 b3
  have z3 := Nat.le_trans z2 b3.size
  replace b1 := b1.trans (b3.mono zz)
  have i3 := (hc.below b1).mono b1.size
  obtain ⟨L, e2⟩ : ∃ L, L1 ++ c = L := ⟨_, rfl⟩
  have l2 : L.length ≤ 3145728 := by rw [← e2]; simp; omega
  have B2 : Bytes L := by rw [← e2]; exact B1.append Bc
  have E2 := hide e2
  clear e2 i2 b3 hc3 g2
  go_wp2_with (at_builtin; refine wpList_grow rfl (.tmp 21) (.tmp 22) rfl rfl w1.heap.size _ _ L1 c rfl rfl g3 i3 z3 (by omega) L E2.out ?_)
  intro a4 c4 w4 hc4 g4 b4
  replace b1 := b1.trans (b4.mono zz)
  have S1 := hide (Sum3 _ _ _ a b c w4 ((ha.below b1).mono b1.size) ((hb.below b1).mono b1.size) ((hc.below b1).mono b1.size) Ba Bb Bc (by omega))
  have iL := g4.isB
  rw [E1.out, E2.out] at S1
  clear i3 b4 hc4 g3 g4 E1 E2 ha hb hc
  go_wp2_with fail
  refine (unhide S1).mono ?_
  rintro e w5 ⟨rfl, b5⟩
  clear S1
  replace iL := iL.later b5
  replace b1 := later b1 b5
  go_wp2_with fail
  refine (rSum_any _ L w5 iL B2 (by omega)).mono ?_
  rintro e w5' ⟨rfl, e5⟩
  subst e5
  have S1 := hide (Sum1 _ L _ iL B2 (by omega))
  obtain ⟨s, es⟩ : ∃ s, csum L = s := ⟨_, rfl⟩
  have ES := hide es
  rw [es] at S1 ⊢
  clear es b5
  go_wp2_with fail
  refine (unhide S1).mono ?_
  rintro e w6 ⟨rfl, b6⟩
  clear S1
  replace iL := iL.later b6
  replace b1 := later b1 b6
  go_wp2_with fail
  refine (rSum_any _ L w6 iL B2 (by omega)).mono ?_
  rintro e w6' ⟨rfl, e6⟩
  subst e6
  rw [ES.out]
  go_wp2_with fail
  refine (Patch_any _ _ _ _).mono ?_
  rintro e w7 ⟨rfl, e7⟩
  subst e7
  go_wp2_with fail
  refine (rPatch_any _ _ _ _).mono ?_
  rintro e w8 ⟨rfl, e8⟩
  subst e8
  generalize patchI sum old next = pp at *
  go_wp2_with fail
  refine (Sum0 _).mono ?_
  rintro e w9 ⟨rfl, b9⟩
  go_wp2
  go_ret
  exact ⟨rfl, later b1 b9⟩

end Go.Proofs.Ytneolboegjjfbaa
