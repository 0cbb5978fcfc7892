/-
  WordWhole, walked: a text with its checksum has the checksum 0.
-/
import Derived.Test.YtneolboegjjfbaaSumN
import Derived.Deep.DeepCutAuto
namespace Go.Proofs.Ytneolboegjjfbaa
open Go.RowKit

theorem whole_sum (x : List Int) (k : Nat) (Bx : Bytes x) (hk : k ≤ x.length) (ek : k % 2 = 0) : csum (x.take k ++ put16 (csum x) ++ x.drop k) = 0 := by
  have hc := csum_bd x
  have hm := whole_mod x Bx
  have ht : (x.take k).length = k := by simp; omega
  have e0 : wsum x = wsum (x.take k) + wsum (x.drop k) := by
    rw [← wsum_append_even _ _ (by rw [ht]; exact ek), List.take_append_drop]
  have e : wsum (x.take k ++ put16 (csum x) ++ x.drop k) = wsum x + csum x := by
    rw [wsum_append_even _ _ (by simp only [List.length_append, ht, put16_len]; omega), wsum_append_even _ _ (by rw [ht]; exact ek), wsum_put16 _ hc.1 hc.2, e0]
    omega
  have : csum (x.take k ++ put16 (csum x) ++ x.drop k) = 65535 - foldI (wsum (x.take k ++ put16 (csum x) ++ x.drop k)) := rfl
  rw [this, e, fold_whole _ hm.1 hm.2]
  rfl

/-- the place is none between two words -/
def badB (at_ : Int) (n : Nat) : Bool := decide (at_ < 0 ∨ (n : Int) < at_ ∨ at_ % 2 = 1)

set_option maxHeartbeats 4000000 in
theorem whole_walk (va : Value) (a : List Int) (at_ : Int) (w : World) (ha : IsB w.heap.size w va a) (Ba : Bytes a) (la : a.length ≤ 140737488351232) (_ : -9223372036854775808 ≤ at_) (_ : at_ ≤ 9223372036854775807) :
    Calls Try.prog 5 #[va, .int .i64 at_] w fun e w' => e = .returned (.bool true) ∧ Below w.heap.size w w' := by
  obtain ⟨aa, ca, rfl, hca⟩ := ha.shape
  go_enter Try.func5, Try.ntmps5
  go_wp2_with fail
  refine (awake_any _).mono ?_
  rintro e w1 ⟨rfl, b1⟩
  have zz : w.heap.size ≤ w1.heap.size := b1.size
  go_upto_if 12 with fail
  go_cut [0] (fun v0 wc => w1 = wc ∧ ∃ (x : List Int) (n : Nat), v0 = .slice aa n ca ∧ Hid (n = x.length) ∧ n ≤ ca ∧ n ≤ 140737488351232 ∧ IsB w.heap.size w (.slice aa n ca) x ∧ Bytes x ∧ Hid (x.length % 2 = 0))
  case first =>
    by_cases hodd : a.length % 2 = 1
    · have h1 : ((a.length : Int) % 2 == 1) = true := by rw [beq_iff_eq]; omega
      go_wp2
      go_meet
      case rel => exact ⟨rfl, a.take (a.length - 1), a.length - 1, rfl, by show _ = _; simp, by omega, by omega, ha.take _ (by omega), Ba.take _, by show _ = _; simp; omega⟩
    · have h1 : ((a.length : Int) % 2 == 1) = false := by rw [beq_eq_false_iff_ne]; omega
      go_wp2
      go_meet
      case rel => exact ⟨rfl, a, a.length, rfl, rfl, hca, la, ha, Ba, by show _ = _; omega⟩
  case rest =>
    obtain ⟨hw1, x, n, rfl, hn, hnc, ln, ix, Bx, ex⟩ := hcut
    subst hw1
    clear ha Ba la hca
    go_upto_region 4 with fail
    go_cut [30] (fun c wc => w1 = wc ∧ c = .bool (badB at_ n))
    case first =>
      by_cases h1 : at_ < 0
      · go_wp2
        go_meet
        case rel => exact ⟨rfl, by simp [badB, h1]⟩
      · by_cases h2 : (n : Int) < at_
        · go_wp2
          go_meet
          case rel => exact ⟨rfl, by simp [badB, h2]⟩
        · by_cases h3 : at_ % 2 = 1
          · have h4 : (at_ % 2 == 1) = true := by rw [beq_iff_eq]; exact h3
            go_wp2
            go_meet
            case rel => exact ⟨rfl, by simp [badB, h3]⟩
          · have h4 : (at_ % 2 == 1) = false := by rw [beq_eq_false_iff_ne]; exact h3
            go_wp2
            go_meet
            case rel => exact ⟨rfl, by simp [badB, h1, h2, h3]⟩
    case rest =>
      obtain ⟨hw1, rfl⟩ := hcut
      subst hw1
      go_upto_if 30 with fail
      go_cut [1] (fun v1 wc => w1 = wc ∧ ∃ k : Nat, v1 = .int .i64 k ∧ k ≤ n ∧ Hid (k % 2 = 0))
      case first =>
        cases hbad : badB at_ n with
        | true =>
          go_wp2
          go_meet
          case rel => exact ⟨rfl, n, rfl, Nat.le_refl _, by have := ex.out; have := hn.out; show _ = _; omega⟩
        | false =>
          have hb : ¬ (at_ < 0 ∨ (n : Int) < at_ ∨ at_ % 2 = 1) := of_decide_eq_false hbad
          obtain ⟨k, rfl⟩ := Int.eq_ofNat_of_zero_le (show 0 ≤ at_ by omega)
          go_wp2
          go_meet
          case rel => exact ⟨rfl, k, rfl, by omega, by show _ = _; omega⟩
      case rest =>
        obtain ⟨hw1, k, rfl, hk, ek⟩ := hcut
        subst hw1
        have i1 := ix.later b1
        have S1 := hide (Sum1 _ x w1 i1 Bx (by rw [← hn.out]; omega))
        go_wp2_with fail
        refine (unhide S1).mono ?_
        rintro e w2 ⟨rfl, b2⟩
        clear S1
        have hs := csum_bd x
        have SW := hide (whole_sum x k Bx (by rw [← hn.out]; exact hk) ek.out)
        generalize csum x = s at *
        obtain ⟨hs0, hs1⟩ := hs
        have bb := later b1 b2
        have z2 := Nat.le_trans zz b2.size
        have i2 := ix.later bb
        have it := i2.take k (by rw [← hn.out]; exact hk)
        obtain ⟨T, eT⟩ : ∃ T, x.take k = T := ⟨_, rfl⟩
        have lT : T.length ≤ 140737488351232 := by rw [← eT]; simp; omega
        rw [eT] at it SW
        have ET := hide eT
        clear eT b2 b1 i1
        go_wp2_with (at_builtin; refine wpList_grow rfl (.const (.slice none 0 0)) (.tmp 38) rfl rfl w2.heap.size (.slice none 0 0) _ [] T rfl rfl (Gro.nil _ _) it (Nat.le_refl _) (by simp; omega) T (List.nil_append _) ?_)
        intro a3 c3 w3 hc3 g3 b3
        replace bb := later bb b3
        go_wp2_with fail
        refine (Put16_any _ T s w3 g3.isB (by omega)).mono ?_
        rintro e w4 ⟨v4, rfl, o4, b4⟩
        have z4 : w3.heap.size ≤ w4.heap.size := b4.size
        have z5 : w.heap.size ≤ w3.heap.size := bb.size
        replace bb := later bb b4
        have g4 := o4.gro (by unfold maxLen; simp only [List.length_append, put16_len]; omega)
        clear b3 b4 g3 o4 it hc3
        have i4 := (ix.below bb).mono bb.size
        have id := i4.drop k (by rw [← hn.out]; exact hk)
        have BL : Bytes (T ++ put16 s ++ x.drop k) := by rw [← ET.out]; exact ((Bx.take k).append (put16_bytes s)).append (Bx.drop k)
        have lL : (T ++ put16 s ++ x.drop k).length ≤ 140737488351234 := by rw [← ET.out]; have := hn.out; simp [put16_len]; omega
        have lG : (T ++ put16 s).length + (x.drop k).length ≤ 140737488355328 := by simp only [List.length_append] at lL ⊢; omega
        have LG := hide lG
        have G4 := hide g4
        clear lG g4
        generalize T ++ put16 s = L0 at *
        generalize x.drop k = D at *
        obtain ⟨L, eL⟩ : ∃ L, L0 ++ D = L := ⟨_, rfl⟩
        rw [eL] at BL lL SW
        have EL := hide eL
        clear eL ET i2 i4 ix
        go_wp2_with (at_builtin; refine wpList_grow rfl (.tmp 42) (.tmp 45) rfl rfl w3.heap.size v4 _ L0 D rfl rfl G4.out id z4 LG.out L EL.out ?_; intro a5 c5 w5 hc5 g5 b5; generalize (if ca = k then aa else Option.map (fun x => x.add k) aa) = ad at *)
        replace bb := bb.trans (b5.mono z5)
        have S1 := hide (Sum1 _ L w5 g5.isB BL (by omega))
        rw [SW.out] at S1
        clear g5 b5 SW G4 LG EL id
        refine (unhide S1).mono ?_
        rintro e w6 ⟨rfl, b6⟩
        clear S1
        go_wp2
        go_ret
        exact ⟨rfl, later bb b6⟩

end Go.Proofs.Ytneolboegjjfbaa
