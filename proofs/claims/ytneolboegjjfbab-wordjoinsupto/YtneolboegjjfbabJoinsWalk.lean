/-
  WordJoins, walked: checksums of joined texts.
-/
import Derived.Test.YtneolboegjjfbabSumN
namespace Go.Proofs.Ytneolboegjjfbab
open Go.RowKit

theorem joins_comm (a b : List Int) (ha : a.length % 2 = 0) (hb : b.length % 2 = 0) : csum (b ++ a) = csum (a ++ b) := by
  unfold csum; rw [wsum_append_even _ _ ha, wsum_append_even _ _ hb, Int.add_comm]
theorem joins_mid (a b : List Int) (Ba : Bytes a) (Bb : Bytes b) (ha : a.length % 2 = 0) :
    csum (a ++ put16 (csum a) ++ b) = csum b ∨ (csum (a ++ put16 (csum a) ++ b) = 0 ∧ csum b = 65535) := by
  have hc := csum_bd a
  have hm := whole_mod a Ba
  have hb := wsum_nonneg b Bb
  have e : wsum (a ++ put16 (csum a) ++ b) = wsum a + csum a + wsum b := by
    rw [wsum_append_even _ _ (by simp [put16_len]; omega), wsum_append_even _ _ ha, wsum_put16 _ hc.1 hc.2]
  unfold csum at e ⊢
  rw [e]
  generalize hk : wsum a + (65535 - foldI (wsum a)) = k at *
  unfold csum at hm
  rw [hk] at hm
  by_cases h0 : wsum b = 0
  · right
    rw [h0, Int.add_zero, fold_whole k hm.1 hm.2, foldI_small 0 (by omega) (by omega)]
    exact ⟨rfl, rfl⟩
  · left
    rw [foldI_congr (k + wsum b) (wsum b) (by omega) (by omega) (by omega)]
theorem joins_four (a b : List Int) (Ba : Bytes a) (Bb : Bytes b) (ha : a.length % 2 = 0) (hb : b.length % 2 = 0) : csum (a ++ put16 (csum a) ++ b ++ put16 (csum b)) = 0 := by
  have hc := csum_bd a
  have hd := csum_bd b
  have hm := whole_mod a Ba
  have hn := whole_mod b Bb
  have e : wsum (a ++ put16 (csum a) ++ b ++ put16 (csum b)) = (wsum a + csum a) + (wsum b + csum b) := by
    rw [wsum_append_even _ _ (by simp [put16_len]; omega), wsum_append_even _ _ (by simp [put16_len]; omega), wsum_append_even _ _ ha, wsum_put16 _ hc.1 hc.2, wsum_put16 _ hd.1 hd.2]
    omega
  have : csum (a ++ put16 (csum a) ++ b ++ put16 (csum b)) = 65535 - foldI (wsum (a ++ put16 (csum a) ++ b ++ put16 (csum b))) := rfl
  rw [this, e, fold_whole _ (by omega) (by omega)]
  rfl

set_option maxHeartbeats 4000000 in
theorem joins_walk (va : Value) (a : List Int) (vb : Value) (b : List Int) (w : World) (ha : IsB w.heap.size w va a) (Ba : Bytes a) (la : a.length ≤ 1048576) (hb : IsB w.heap.size w vb b) (Bb : Bytes b) (lb : b.length ≤ 1048576) :
    Calls Try.prog 3 #[va, vb] w fun e w' => e = .returned (.bool true) ∧ Below w.heap.size w w' := by
  obtain ⟨aa, ca, rfl, hca⟩ := ha.shape
  obtain ⟨ab, cb, rfl, hcb⟩ := hb.shape
  go_enter Try.func3, Try.ntmps3
  go_wp2_with fail
  refine (awake_any _).mono ?_
  rintro e w1 ⟨rfl, b1⟩
  have zz : w.heap.size ≤ w1.heap.size := b1.size
  by_cases hodd : a.length % 2 = 1
  · have h1 : ((a.length : Int) % 2 == 1) = true := by rw [beq_iff_eq]; omega
    have ia := ha.take (a.length - 1) (by omega)
    obtain ⟨x, hx⟩ : ∃ x, x = a.take (a.length - 1) := ⟨_, rfl⟩
    have Bx : Bytes x := by rw [hx]; exact Ba.take _
    have ex : x.length % 2 = 0 := by rw [hx]; simp; omega
    have lx : x.length ≤ 1048576 := by rw [hx]; simp; omega
    rw [← hx] at ia
    clear hx ha
    have ib1 := hb.later b1
    have ia1 := ia.later b1
    have z1 : w1.heap.size ≤ w1.heap.size := Nat.le_refl _
    go_wp2_with (at_builtin; refine wpList_grow rfl (.const (.slice none 0 0)) (.tmp 22) rfl rfl w1.heap.size (.slice none 0 0) _ [] x rfl rfl (Gro.nil _ _) ia1 z1 (by simp; omega) x (List.nil_append _) ?_)
    intro a2 c2 w2 hc2 g2 b2
    have z2 := b2.size
    replace ia1 := ia1.later b2
    replace ib1 := ib1.later b2
    replace b1 := later b1 b2
    obtain ⟨L, eL⟩ : ∃ L, x ++ b = L := ⟨_, rfl⟩
    have BL : Bytes L := by rw [← eL]; exact Bx.append Bb
    have lL : L.length ≤ 2097152 := by rw [← eL]; simp; omega
    have EL := hide eL
    clear eL b2 hc2
    go_wp2_with (at_builtin; refine wpList_grow rfl (.tmp 23) (.tmp 24) rfl rfl w1.heap.size _ _ x b rfl rfl g2 ib1 z2 (by omega) L EL.out ?_)
    intro a3 c3 w3 hc3 g3 b3
    have ob : Below w.heap.size w2 w3 := b3.mono zz
    replace b1 := b1.trans ob
    clear ob
    have ia3 := (ia.below b1).mono b1.size
    have ib3 := (hb.below b1).mono b1.size
    have il := g3.isB
    clear ia1 ib1 g2 g3 b3 z2 hc3
    have S1 := hide (Sum2 _ _ x b w3 ia3 ib3 Bx Bb (by omega))
    go_wp2_with fail
    refine (unhide S1).mono ?_
    rintro e w4 ⟨rfl, b4⟩
    clear S1
    replace ia3 := ia3.later b4
    replace ib3 := ib3.later b4
    replace il := il.later b4
    replace b1 := later b1 b4
    clear b4
    have S1 := hide (Sum1 _ x w4 ia3 Bx (by omega))
    go_wp2_with fail
    refine (unhide S1).mono ?_
    rintro e w5 ⟨rfl, b5⟩
    clear S1
    replace ia3 := ia3.later b5
    replace ib3 := ib3.later b5
    replace il := il.later b5
    replace b1 := later b1 b5
    clear b5
    go_wp2_with fail
    refine (Put16_any _ [] (csum x) w5 (IsB.nil _ _) (by simp)).mono ?_
    rintro e w6 ⟨vt, rfl, o6, b6⟩
    rw [List.nil_append] at o6
    have it := o6.isB
    obtain ⟨at1, ct1, rfl, _⟩ := it.shape
    replace ia3 := ia3.later b6
    replace ib3 := ib3.later b6
    replace il := il.later b6
    replace b1 := later b1 b6
    clear b6 o6
    have S1 := hide (Sum1 _ b w6 ib3 Bb (by omega))
    go_wp2_with fail
    refine (unhide S1).mono ?_
    rintro e w7 ⟨rfl, b7⟩
    clear S1
    replace ia3 := ia3.later b7
    replace ib3 := ib3.later b7
    replace il := il.later b7
    replace it := it.later b7
    replace b1 := later b1 b7
    clear b7
    go_wp2_with fail
    refine (Put16_any _ [] (csum b) w7 (IsB.nil _ _) (by simp)).mono ?_
    rintro e w8 ⟨vu, rfl, o8, b8⟩
    rw [List.nil_append] at o8
    have iu := o8.isB
    obtain ⟨at2, ct2, rfl, _⟩ := iu.shape
    replace ia3 := ia3.later b8
    replace ib3 := ib3.later b8
    replace il := il.later b8
    replace it := it.later b8
    replace b1 := later b1 b8
    clear b8 o8
    have S1 := hide (Sum3 _ _ _ x (put16 (csum x)) b w8 ia3 it ib3 Bx (put16_bytes _) Bb (by rw [put16_len]; omega))
    obtain ⟨s2, es2⟩ : ∃ s2, csum (x ++ put16 (csum x) ++ b) = s2 := ⟨_, rfl⟩
    rw [es2] at S1
    have ES2 := hide es2
    clear es2
    go_wp2_with fail
    refine (unhide S1).mono ?_
    rintro e w9 ⟨rfl, b9⟩
    clear S1
    replace ia3 := ia3.later b9
    replace ib3 := ib3.later b9
    replace il := il.later b9
    replace it := it.later b9
    replace iu := iu.later b9
    replace b1 := later b1 b9
    clear b9
    have S1 := hide (Sum1 _ b w9 ib3 Bb (by omega))
    go_wp2_with fail
    refine (unhide S1).mono ?_
    rintro e w10 ⟨rfl, b10⟩
    clear S1
    replace ia3 := ia3.later b10
    replace ib3 := ib3.later b10
    replace il := il.later b10
    replace it := it.later b10
    replace iu := iu.later b10
    replace b1 := later b1 b10
    clear b10
    have S1 := hide (Sum1 _ L w10 il BL (by omega))
    have ecs : csum L = csum (x ++ b) := by rw [EL.out]
    rw [ecs] at S1
    clear ecs
    by_cases hbo : b.length % 2 = 1
    · have h2 : ((b.length : Int) % 2 == 1) = true := by rw [beq_iff_eq]; omega
      generalize csum (x ++ b) = s1 at *
      go_wp2_with fail
      refine (unhide S1).mono ?_
      rintro e w11 ⟨rfl, b11⟩
      clear S1
      go_wp2
      go_ret
      exact ⟨by simp, later b1 b11⟩
    · have h2 : ((b.length : Int) % 2 == 1) = false := by rw [beq_eq_false_iff_ne]; omega
      have hc := hide (joins_comm x b ex (by omega))
      have hm := hide (joins_mid x b Bx Bb ex)
      have h4 := hide (joins_four x b Bx Bb ex (by omega))
      have S5 : ∀ W, IsB W.heap.size W _ b → IsB W.heap.size W _ x → _ := fun W i1 i2 => Sum2 (.slice ab b.length cb) (.slice aa (a.length - 1) ca) b x W i1 i2 Bb Bx (by omega)
      rw [hc.out] at S5
      have S6 : ∀ W, IsB W.heap.size W _ x → IsB W.heap.size W _ _ → IsB W.heap.size W _ b → IsB W.heap.size W _ _ → _ := fun W i1 i2 i3 i4 => Sum4 (.slice aa (a.length - 1) ca) (.slice at1 (put16 (csum x)).length ct1) (.slice ab b.length cb) (.slice at2 (put16 (csum b)).length ct2) x (put16 (csum x)) b (put16 (csum b)) W i1 i2 i3 i4 Bx (put16_bytes _) Bb (put16_bytes _) (by rw [put16_len, put16_len]; omega)
      rw [h4.out] at S6
      have H5 := hide S5
      have H6 := hide S6
      clear S5 S6 hc h4
      have hm' := hm.out
      rw [ES2.out] at hm'
      clear ES2
      clear hm
      generalize put16 (csum b) = P2 at *
      generalize put16 (csum x) = P1 at *
      generalize csum (x ++ b) = s1 at *
      generalize csum b = s3 at *
      go_wp2_with fail
      refine (unhide S1).mono ?_
      rintro e w11 ⟨rfl, b11⟩
      clear S1
      replace ia3 := ia3.later b11
      replace ib3 := ib3.later b11
      replace it := it.later b11
      replace iu := iu.later b11
      replace b1 := later b1 b11
      clear b11 il
      go_wp2_with fail
      refine (H5.out w11 ib3 ia3).mono ?_
      rintro e w12 ⟨rfl, b12⟩
      replace ia3 := ia3.later b12
      replace ib3 := ib3.later b12
      replace it := it.later b12
      replace iu := iu.later b12
      replace b1 := later b1 b12
      clear b12
      rcases hm' with e | ⟨e1, e2⟩
      · subst e
        go_wp2_with fail
        refine (H6.out w12 ia3 it ib3 iu).mono ?_
        rintro e w13 ⟨rfl, b13⟩
        go_wp2
        go_ret
        exact ⟨rfl, later b1 b13⟩
      · subst e1
        subst e2
        go_wp2_with fail
        refine (H6.out w12 ia3 it ib3 iu).mono ?_
        rintro e w13 ⟨rfl, b13⟩
        go_wp2
        go_ret
        exact ⟨rfl, later b1 b13⟩
  · have h1 : ((a.length : Int) % 2 == 1) = false := by rw [beq_eq_false_iff_ne]; omega
    have ia := ha
    obtain ⟨x, hx⟩ : ∃ x, x = a := ⟨_, rfl⟩
    have Bx : Bytes x := by rw [hx]; exact Ba
    have ex : x.length % 2 = 0 := by rw [hx]; omega
    have lx : x.length ≤ 1048576 := by rw [hx]; exact la
    have ia : IsB w.heap.size w (.slice aa a.length ca) x := by rw [hx]; exact ha
    clear hx ha
    have ib1 := hb.later b1
    have ia1 := ia.later b1
    have z1 : w1.heap.size ≤ w1.heap.size := Nat.le_refl _
    go_wp2_with (at_builtin; refine wpList_grow rfl (.const (.slice none 0 0)) (.tmp 22) rfl rfl w1.heap.size (.slice none 0 0) _ [] x rfl rfl (Gro.nil _ _) ia1 z1 (by simp; omega) x (List.nil_append _) ?_)
    intro a2 c2 w2 hc2 g2 b2
    have z2 := b2.size
    replace ia1 := ia1.later b2
    replace ib1 := ib1.later b2
    replace b1 := later b1 b2
    obtain ⟨L, eL⟩ : ∃ L, x ++ b = L := ⟨_, rfl⟩
    have BL : Bytes L := by rw [← eL]; exact Bx.append Bb
    have lL : L.length ≤ 2097152 := by rw [← eL]; simp; omega
    have EL := hide eL
    clear eL b2 hc2
    go_wp2_with (at_builtin; refine wpList_grow rfl (.tmp 23) (.tmp 24) rfl rfl w1.heap.size _ _ x b rfl rfl g2 ib1 z2 (by omega) L EL.out ?_)
    intro a3 c3 w3 hc3 g3 b3
    have ob : Below w.heap.size w2 w3 := b3.mono zz
    replace b1 := b1.trans ob
    clear ob
    have ia3 := (ia.below b1).mono b1.size
    have ib3 := (hb.below b1).mono b1.size
    have il := g3.isB
    clear ia1 ib1 g2 g3 b3 z2 hc3
    have S1 := hide (Sum2 _ _ x b w3 ia3 ib3 Bx Bb (by omega))
    go_wp2_with fail
    refine (unhide S1).mono ?_
    rintro e w4 ⟨rfl, b4⟩
    clear S1
    replace ia3 := ia3.later b4
    replace ib3 := ib3.later b4
    replace il := il.later b4
    replace b1 := later b1 b4
    clear b4
    have S1 := hide (Sum1 _ x w4 ia3 Bx (by omega))
    go_wp2_with fail
    refine (unhide S1).mono ?_
    rintro e w5 ⟨rfl, b5⟩
    clear S1
    replace ia3 := ia3.later b5
    replace ib3 := ib3.later b5
    replace il := il.later b5
    replace b1 := later b1 b5
    clear b5
    go_wp2_with fail
    refine (Put16_any _ [] (csum x) w5 (IsB.nil _ _) (by simp)).mono ?_
    rintro e w6 ⟨vt, rfl, o6, b6⟩
    rw [List.nil_append] at o6
    have it := o6.isB
    obtain ⟨at1, ct1, rfl, _⟩ := it.shape
    replace ia3 := ia3.later b6
    replace ib3 := ib3.later b6
    replace il := il.later b6
    replace b1 := later b1 b6
    clear b6 o6
    have S1 := hide (Sum1 _ b w6 ib3 Bb (by omega))
    go_wp2_with fail
    refine (unhide S1).mono ?_
    rintro e w7 ⟨rfl, b7⟩
    clear S1
    replace ia3 := ia3.later b7
    replace ib3 := ib3.later b7
    replace il := il.later b7
    replace it := it.later b7
    replace b1 := later b1 b7
    clear b7
    go_wp2_with fail
    refine (Put16_any _ [] (csum b) w7 (IsB.nil _ _) (by simp)).mono ?_
    rintro e w8 ⟨vu, rfl, o8, b8⟩
    rw [List.nil_append] at o8
    have iu := o8.isB
    obtain ⟨at2, ct2, rfl, _⟩ := iu.shape
    replace ia3 := ia3.later b8
    replace ib3 := ib3.later b8
    replace il := il.later b8
    replace it := it.later b8
    replace b1 := later b1 b8
    clear b8 o8
    have S1 := hide (Sum3 _ _ _ x (put16 (csum x)) b w8 ia3 it ib3 Bx (put16_bytes _) Bb (by rw [put16_len]; omega))
    obtain ⟨s2, es2⟩ : ∃ s2, csum (x ++ put16 (csum x) ++ b) = s2 := ⟨_, rfl⟩
    rw [es2] at S1
    have ES2 := hide es2
    clear es2
    go_wp2_with fail
    refine (unhide S1).mono ?_
    rintro e w9 ⟨rfl, b9⟩
    clear S1
    replace ia3 := ia3.later b9
    replace ib3 := ib3.later b9
    replace il := il.later b9
    replace it := it.later b9
    replace iu := iu.later b9
    replace b1 := later b1 b9
    clear b9
    have S1 := hide (Sum1 _ b w9 ib3 Bb (by omega))
    go_wp2_with fail
    refine (unhide S1).mono ?_
    rintro e w10 ⟨rfl, b10⟩
    clear S1
    replace ia3 := ia3.later b10
    replace ib3 := ib3.later b10
    replace il := il.later b10
    replace it := it.later b10
    replace iu := iu.later b10
    replace b1 := later b1 b10
    clear b10
    have S1 := hide (Sum1 _ L w10 il BL (by omega))
    have ecs : csum L = csum (x ++ b) := by rw [EL.out]
    rw [ecs] at S1
    clear ecs
    by_cases hbo : b.length % 2 = 1
    · have h2 : ((b.length : Int) % 2 == 1) = true := by rw [beq_iff_eq]; omega
      generalize csum (x ++ b) = s1 at *
      go_wp2_with fail
      refine (unhide S1).mono ?_
      rintro e w11 ⟨rfl, b11⟩
      clear S1
      go_wp2
      go_ret
      exact ⟨by simp, later b1 b11⟩
    · have h2 : ((b.length : Int) % 2 == 1) = false := by rw [beq_eq_false_iff_ne]; omega
      have hc := hide (joins_comm x b ex (by omega))
      have hm := hide (joins_mid x b Bx Bb ex)
      have h4 := hide (joins_four x b Bx Bb ex (by omega))
      have S5 : ∀ W, IsB W.heap.size W _ b → IsB W.heap.size W _ x → _ := fun W i1 i2 => Sum2 (.slice ab b.length cb) (.slice aa a.length ca) b x W i1 i2 Bb Bx (by omega)
      rw [hc.out] at S5
      have S6 : ∀ W, IsB W.heap.size W _ x → IsB W.heap.size W _ _ → IsB W.heap.size W _ b → IsB W.heap.size W _ _ → _ := fun W i1 i2 i3 i4 => Sum4 (.slice aa a.length ca) (.slice at1 (put16 (csum x)).length ct1) (.slice ab b.length cb) (.slice at2 (put16 (csum b)).length ct2) x (put16 (csum x)) b (put16 (csum b)) W i1 i2 i3 i4 Bx (put16_bytes _) Bb (put16_bytes _) (by rw [put16_len, put16_len]; omega)
      rw [h4.out] at S6
      have H5 := hide S5
      have H6 := hide S6
      clear S5 S6 hc h4
      have hm' := hm.out
      rw [ES2.out] at hm'
      clear ES2
      clear hm
      generalize put16 (csum b) = P2 at *
      generalize put16 (csum x) = P1 at *
      generalize csum (x ++ b) = s1 at *
      generalize csum b = s3 at *
      go_wp2_with fail
      refine (unhide S1).mono ?_
      rintro e w11 ⟨rfl, b11⟩
      clear S1
      replace ia3 := ia3.later b11
      replace ib3 := ib3.later b11
      replace it := it.later b11
      replace iu := iu.later b11
      replace b1 := later b1 b11
      clear b11 il
      go_wp2_with fail
      refine (H5.out w11 ib3 ia3).mono ?_
      rintro e w12 ⟨rfl, b12⟩
      replace ia3 := ia3.later b12
      replace ib3 := ib3.later b12
      replace it := it.later b12
      replace iu := iu.later b12
      replace b1 := later b1 b12
      clear b12
      rcases hm' with e | ⟨e1, e2⟩
      · subst e
        go_wp2_with fail
        refine (H6.out w12 ia3 it ib3 iu).mono ?_
        rintro e w13 ⟨rfl, b13⟩
        go_wp2
        go_ret
        exact ⟨rfl, later b1 b13⟩
      · subst e1
        subst e2
        go_wp2_with fail
        refine (H6.out w12 ia3 it ib3 iu).mono ?_
        rintro e w13 ⟨rfl, b13⟩
        go_wp2
        go_ret
        exact ⟨rfl, later b1 b13⟩

end Go.Proofs.Ytneolboegjjfbab
