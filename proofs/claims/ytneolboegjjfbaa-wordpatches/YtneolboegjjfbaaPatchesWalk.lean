/-
  WordPatches, walked: the patched checksum is that of the new text, but that 0 and ffff may stand for one another.
-/
import Derived.Test.YtneolboegjjfbaaSumN
import Derived.Deep.DeepCutAuto
namespace Go.Proofs.Ytneolboegjjfbaa
open Go.RowKit

theorem get_set (L : List Int) (j k : Nat) (v : Int) : (L.set j v)[k]?.getD 0 = if j = k ∧ k < L.length then v else L[k]?.getD 0 := by
  rw [List.getElem?_set]
  by_cases h : j = k
  · subst h
    by_cases h2 : j < L.length <;> simp [h2]
  · simp [h]

/-- patched, and summed anew -/
theorem patched (x : List Int) (p : Nat) (next : Int) (Bx : Bytes x) (hp : 2 * p + 1 < x.length) :
    let old := 256 * x[2 * p]?.getD 0 + x[2 * p + 1]?.getD 0
    let L := (x.set (2 * p) (next / 256 % 256)).set (2 * p + 1) (next % 256)
    patchI (csum x) old next = csum L ∨ (patchI (csum x) old next + csum L = 65535 ∧ (patchI (csum x) old next = 0 ∨ csum L = 0)) := by
  intro old L
  obtain ⟨y0, y1⟩ := Bx.getD (2 * p)
  obtain ⟨z0, z1⟩ := Bx.getD (2 * p + 1)
  have e1 := wsum_set x (2 * p) (next / 256 % 256) (by omega)
  have e2 := wsum_set (x.set (2 * p) (next / 256 % 256)) (2 * p + 1) (next % 256) (by simp; omega)
  rw [if_pos (by omega)] at e1
  rw [get_set, if_neg (by omega), if_neg (by omega)] at e2
  have hL : wsum L = wsum x - old + next % 65536 := by show wsum ((x.set (2 * p) (next / 256 % 256)).set (2 * p + 1) (next % 256)) = _; rw [e2, e1]; show _ = wsum x - (256 * x[2 * p]?.getD 0 + x[2 * p + 1]?.getD 0) + _; omega
  have o0 : 0 ≤ old ∧ old ≤ 65535 := by show 0 ≤ 256 * x[2 * p]?.getD 0 + x[2 * p + 1]?.getD 0 ∧ 256 * x[2 * p]?.getD 0 + x[2 * p + 1]?.getD 0 ≤ 65535; omega
  have hc := csum_bd x
  have hw := wsum_nonneg x Bx
  have BL : Bytes L := (Bx.set _ _ (by omega) (by omega)).set _ _ (by omega) (by omega)
  have hwL := wsum_nonneg L BL
  generalize old = o at *
  have m1 := foldI_mod (wsum x)
  have m2 := foldI_mod (wsum L)
  have b1 := foldI_bd (wsum x)
  have b2 := foldI_bd (wsum L)
  have s1 : csum x = 65535 - foldI (wsum x) := rfl
  have s2 : csum L = 65535 - foldI (wsum L) := rfl
  have z1 := foldI_zero (wsum L)
  have sp : patchI (csum x) o next = 65535 - foldI ((65535 - csum x) + (65535 - o) + next % 65536) := by
    unfold patchI
    have t1 : csum x % 65536 = csum x := by omega
    have t2 : o % 65536 = o := by omega
    rw [t1, t2]
  have m3 := foldI_mod ((65535 - csum x) + (65535 - o) + next % 65536)
  have b3 := foldI_bd ((65535 - csum x) + (65535 - o) + next % 65536)
  have z3 := foldI_zero ((65535 - csum x) + (65535 - o) + next % 65536)
  rw [sp, s2]
  generalize foldI ((65535 - csum x) + (65535 - o) + next % 65536) = f at *
  generalize foldI (wsum L) = g at *
  generalize foldI (wsum x) = h at *
  omega

theorem rd16_at (x : List Int) (p : Nat) (hp : 2 * p + 1 < x.length) : rd16 x (2 * (p : Int)) = 256 * x[2 * p]?.getD 0 + x[2 * p + 1]?.getD 0 ∧ errOf x (2 * (p : Int)) 2 = 0 := by
  have hs : stB x.length (2 * (p : Int)) 2 = true := by simp [stB]; omega
  refine ⟨?_, by rw [errOf, if_pos hs]⟩
  rw [rd16, if_pos hs, show (2 * (p : Int)).toNat = 2 * p from by omega]

set_option maxHeartbeats 4000000 in
theorem patches_walk (va : Value) (a : List Int) (i next : Int) (w : World) (ha : IsB w.heap.size w va a) (Ba : Bytes a) (la : a.length ≤ 140737488351232) (_ : -9223372036854775808 ≤ i) (_ : i ≤ 9223372036854775807) (_ : -9223372036854775808 ≤ next) (_ : next ≤ 9223372036854775807) :
    Calls Try.prog 8 #[va, .int .i64 i, .int .i64 next] w fun e w' => e = .returned (.bool true) ∧ Below w.heap.size w w' := by
  obtain ⟨aa, ca, rfl, hca⟩ := ha.shape
  go_enter Try.func8, Try.ntmps8
  go_wp2_with fail
  refine (awake_any _).mono ?_
  rintro e w1 ⟨rfl, b1⟩
  obtain ⟨n, hn⟩ : ∃ n, n = a.length / 2 := ⟨_, rfl⟩
  have en : (a.length : Int) / 2 = (n : Int) := by omega
  have ln : n ≤ 140737488351232 := by omega
  have hn1 : 2 * n ≤ a.length := by omega
  clear hn
  by_cases h0 : i < 0
  · go_wp2
    go_ret
    exact ⟨rfl, b1⟩
  · by_cases h2 : (n : Int) ≤ i
    · go_wp2
      go_ret
      exact ⟨rfl, b1⟩
    · obtain ⟨p, rfl⟩ := Int.eq_ofNat_of_zero_le (show 0 ≤ i by omega)
      have ix := ha.take (2 * n) hn1
      obtain ⟨x, hx⟩ : ∃ x, a.take (2 * n) = x := ⟨_, rfl⟩
      have Bx : Bytes x := by rw [← hx]; exact Ba.take _
      have lx : x.length = 2 * n := by rw [← hx]; simp; omega
      have hp : 2 * p + 1 < x.length := by omega
      rw [hx] at ix
      have LX := hide lx
      have er := rd16_at x p hp
      have pt := patched x p next Bx hp
      simp only [] at pt
      obtain ⟨old, ho⟩ : ∃ old, 256 * x[2 * p]?.getD 0 + x[2 * p + 1]?.getD 0 = old := ⟨_, rfl⟩
      rw [ho] at er pt
      have ER := hide er
      have PT := hide pt
      clear er pt ho
      have i1 := ix.later b1
      have lxb : x.length ≤ 140737488351232 := by omega
      clear hx ha lx Ba
      have hnc : 2 * n ≤ ca := by omega
      go_wp2_with fail
      refine (At16_any _ x _ w1 i1 Bx (by omega) (by omega)).mono ?_
      rintro e w2 ⟨rfl, b2⟩
      rw [ER.out.1, ER.out.2]
      have bb := later b1 b2
      have i2 := ix.later bb
      clear b1 b2 i1 ER
      go_wp2_with (at_builtin; refine wpList_grow rfl (.const (.slice none 0 0)) (.tmp 38) rfl rfl w2.heap.size (.slice none 0 0) _ [] x rfl rfl (Gro.nil _ _) i2 (Nat.le_refl _) (by simp; omega) x (List.nil_append _) ?_)
      intro a3 c3 w3 hc3 g3 b3
      have z2 := bb.size
      replace bb := later bb b3
      clear b3 i2
      go_wp2_with fail
      refine (Put16_any _ [] next w3 (IsB.nil _ _) (by simp)).mono ?_
      rintro e w4 ⟨v4, rfl, o4, b4⟩
      rw [List.nil_append] at o4
      have g4 := g3.later b4
      replace bb := later bb b4
      obtain ⟨h, rfl, hh, hblk⟩ := o4
      rw [put16_len]
      have hg3 := g3.isB
      obtain ⟨g, rfl, hg, _, _⟩ := g4.block (by omega)
      have hgl : g < w3.heap.size := by
        obtain ⟨_, _, e, _, _, hc⟩ := hg3
        obtain ⟨b', off', e', hb', _⟩ := hc (by omega)
        simp only [Value.slice.injEq] at e
        rw [← e.1] at e'
        cases e'
        exact hb'
      have hgh : h ≠ g := by omega
      have q0 : w4.cell? ⟨h, 0, none⟩ = some (.int .u8 (next / 256 % 256)) := by
        rw [cell_of_row _ h 0 _ 5 (0, 0) hblk]; rfl
      have q1 : w4.cell? ⟨h, 1, none⟩ = some (.int .u8 (next % 256)) := by
        rw [cell_of_row _ h 1 _ 5 (0, 0) hblk]; rfl
      have hgw : w.heap.size ≤ g := by omega
      obtain ⟨W5, hW5, b5, g5, z5⟩ := own_store bb hgw g4 rfl (2 * p) (next / 256 % 256)
      have q1' : W5.cell? ⟨h, 1, none⟩ = some (.int .u8 (next % 256)) := by
        rw [← hW5]; exact (World.cell?_of_block (w := w4) (Below.heap_setCell w4 ⟨g, 2 * p, none⟩ _ h hgh)).trans q1
      obtain ⟨y1, f1⟩ := own_cell g4 (2 * p) (by omega)
      have E5 := hide hW5
      have G5 := hide g5
      have Q1 := hide q1'
      clear hW5 g5 q1' hg3 g3 b4 hblk q1 z5
      go_upto_region 12 with fail
      rw [E5.out]
      obtain ⟨W6, hW6, b6, g6, z6⟩ := own_store b5 hgw G5.out (by simp) (2 * p + 1) (next % 256)
      clear y1 f1 E5 q0
      have q1 := Q1.out
      obtain ⟨y1, f1⟩ := own_cell G5.out (2 * p + 1) (by simp; omega)
      have E6 := hide hW6
      have hL : ((x.set (2 * p) (next / 256 % 256)).set (2 * p + 1) (next % 256)).length = x.length := by simp
      have BL : Bytes ((x.set (2 * p) (next / 256 % 256)).set (2 * p + 1) (next % 256)) := (Bx.set _ _ (by omega) (by omega)).set _ _ (by omega) (by omega)
      obtain ⟨L, eL⟩ : ∃ L, (x.set (2 * p) (next / 256 % 256)).set (2 * p + 1) (next % 256) = L := ⟨_, rfl⟩
      rw [eL] at hL BL g6 PT
      have G6 := hide g6
      have HL := hide hL
      clear hW6 g6 G5 Q1 eL hL b5 z6
      go_upto_region 13 with fail
      rw [E6.out]
      clear y1 f1 E6 q1
      have S1 := hide (Sum1 _ x W6 ((ix.below b6).mono b6.size) Bx (by omega))
      go_wp2_with fail
      refine (unhide S1).mono ?_
      rintro e w7 ⟨rfl, b7⟩
      clear S1
      have i7 := G6.out.isB.later b7
      have b8 := later b6 b7
      clear b6 b7 G6
      go_wp2_with fail
      refine (Patch_any _ _ _ _).mono ?_
      rintro e w8 ⟨rfl, rfl⟩
      have S2 := hide (Sum1 _ L _ i7 BL (by rw [HL.out]; omega))
      have pt := PT.out
      generalize patchI (csum x) old next = s1 at *
      generalize csum L = s2 at *
      generalize csum x = s3 at *
      clear PT HL i7 BL
      go_wp2_with fail
      refine (unhide S2).mono ?_
      rintro e w9 ⟨rfl, b9⟩
      clear S2
      rcases pt with e | ⟨e1, e2 | e2⟩
      · subst e
        go_wp2
        go_ret
        exact ⟨by simp, later b8 b9⟩
      · subst e2
        obtain rfl : s2 = 65535 := by omega
        clear e1
        go_wp2
        go_ret
        exact ⟨by simp, later b8 b9⟩
      · subst e2
        obtain rfl : s1 = 65535 := by omega
        clear e1
        go_wp2
        go_ret
        exact ⟨by simp, later b8 b9⟩

end Go.Proofs.Ytneolboegjjfbaa
