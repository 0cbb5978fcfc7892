
/-
  each: what it does with every place up to an end; once for leave's closure, once for list's.
-/
import Derived.Test.YtjkfjijnjkpbbaaG0
namespace Go.Proofs.Ytjkfjijnjkpbbaa
open Go.RowKit

/-- how many places are gone through -/
def Sd.upto (s : Sd) (e : Nat) : Nat := min (span s.first e) s.ids.length
theorem Sd.upto_le (s : Sd) (e : Nat) : s.upto e ≤ s.ids.length := Nat.min_le_right _ _
theorem Sd.upto_nx (s : Sd) (h : s.first < 16) (hm : s.ids.length ≤ 15) : s.upto s.nx = s.ids.length := by unfold Sd.upto span Sd.nx; omega

set_option maxRecDepth 100000 in
set_option maxHeartbeats 4000000 in
theorem each_leave {w : World} {r o : Nat} {s : Sd} (e : Nat) (he : e < 16) (pd pg : Value) (J : Nat → World → Prop) (hJ : ∀ k W, J k W → SdAt W r o s) (h0 : J 0 w)
    (hF : ∀ k W, k < s.upto e → J k W → Calls Try.prog 86 #[.int .i64 (((s.first + k) % 16 : Nat) : Int), .int .i64 (s.ids[k]?.getD 0), pd, pg] W fun e W' => e = .returned (.tuple #[]) ∧ J (k + 1) W') :
    Calls Try.prog 85 #[.pointer (some ⟨r, o, none⟩), .int .i64 (e : Int), .func (.func 86) #[] #[pd, pg]] w fun x w' => x = .returned (.tuple #[]) ∧ J (s.upto e) w' := by
  have HJ := hide hJ
  have HF := hide hF
  have H0 := hide h0
  have f16 := (hJ 0 w h0).f16
  have m15 := (hJ 0 w h0).m15
  have cm := (hJ 0 w h0).many
  clear hJ hF h0
  have zm : (s.ids.length : Int) ≤ 15 := by omega
  have zf : (s.first : Int) < 16 := by omega
  have ze : (e : Int) < 16 := by omega
  have U : Hid (s.upto e = min (span s.first e) s.ids.length) := rfl
  generalize hu : s.upto e = u at *
  clear hu
  go_enter Try.func85, Try.ntmps85
  go_wp2
  go_loopw [12] (fun v wr => ∃ k : Nat, v = .int .i64 (k : Int) ∧ k ≤ u ∧ Hid (J k wr)) (fun v _ => s.ids.length - (intOf v).toNat)
  case atStart => exact ⟨0, rfl, Nat.zero_le _, H0.out⟩
  case round =>
    obtain ⟨k, rfl, hk, hj⟩ := hrel
    have S := HJ.out k wr hj.out
    have ul : u ≤ s.ids.length := by rw [U.out]; exact Nat.min_le_right _ _
    by_cases hlt : k < s.ids.length
    · have z1 : (k : Int) < (s.ids.length : Int) := by omega
      have c1 := S.first
      have EM : ((s.first : Int) + (k : Int)) % 16 = (((s.first + k) % 16 : Nat) : Int) := by omega
      by_cases hx : k < u
      · have X := hide (HF.out k wr hx hj.out)
        have c2 := S.ids k hlt
        have ne : (((s.first + k) % 16 : Nat) : Int) ≠ (e : Int) := by
          have := U.out; unfold span at this; omega
        have zx : (((s.first + k) % 16 : Nat) : Int) < 16 := by omega
        generalize (s.first + k) % 16 = at_ at *
        generalize s.ids[k]?.getD 0 = id at *
        clear S
        have q : ((at_ : Int) == (e : Int)) = false := by simp [ne]
        go_wp2_with fail
        refine X.out.mono ?_
        rintro _ w3 ⟨rfl, hj3⟩
        go_wp2
        go_roundw
        case rel => exact ⟨k + 1, by go_num, by omega, hj3⟩
        case measure => simp [intOf]; omega
      · obtain rfl : k = u := by omega
        have eq : (((s.first + k) % 16 : Nat) : Int) = (e : Int) := by
          have := U.out; unfold span at this; omega
        clear S
        generalize (s.first + k) % 16 = at_ at *
        have q : ((at_ : Int) == (e : Int)) = true := by simp [eq]
        go_wp2
        (try simp only [Exit.inBlock, Exit.then]); refine bodyPost_ret (results_none rfl _ _ _) rfl ?_
        exact ⟨rfl, hj.out⟩
    · obtain rfl : k = u := by omega
      have z1 : ¬ (k : Int) < (s.ids.length : Int) := by omega
      clear S
      go_wp2
      go_end0
      exact ⟨rfl, hj.out⟩

set_option maxRecDepth 100000 in
set_option maxHeartbeats 4000000 in
theorem each_list {w : World} {r o : Nat} {s : Sd} (e : Nat) (he : e < 16) (pl : Value) (J : Nat → World → Prop) (hJ : ∀ k W, J k W → SdAt W r o s) (h0 : J 0 w)
    (hF : ∀ k W, k < s.upto e → J k W → Calls Try.prog 90 #[.int .i64 (((s.first + k) % 16 : Nat) : Int), .int .i64 (s.ids[k]?.getD 0), pl] W fun e W' => e = .returned (.tuple #[]) ∧ J (k + 1) W') :
    Calls Try.prog 85 #[.pointer (some ⟨r, o, none⟩), .int .i64 (e : Int), .func (.func 90) #[] #[pl]] w fun x w' => x = .returned (.tuple #[]) ∧ J (s.upto e) w' := by
  have HJ := hide hJ
  have HF := hide hF
  have H0 := hide h0
  have f16 := (hJ 0 w h0).f16
  have m15 := (hJ 0 w h0).m15
  have cm := (hJ 0 w h0).many
  clear hJ hF h0
  have zm : (s.ids.length : Int) ≤ 15 := by omega
  have zf : (s.first : Int) < 16 := by omega
  have ze : (e : Int) < 16 := by omega
  have U : Hid (s.upto e = min (span s.first e) s.ids.length) := rfl
  generalize hu : s.upto e = u at *
  clear hu
  go_enter Try.func85, Try.ntmps85
  go_wp2
  go_loopw [12] (fun v wr => ∃ k : Nat, v = .int .i64 (k : Int) ∧ k ≤ u ∧ Hid (J k wr)) (fun v _ => s.ids.length - (intOf v).toNat)
  case atStart => exact ⟨0, rfl, Nat.zero_le _, H0.out⟩
  case round =>
    obtain ⟨k, rfl, hk, hj⟩ := hrel
    have S := HJ.out k wr hj.out
    have ul : u ≤ s.ids.length := by rw [U.out]; exact Nat.min_le_right _ _
    by_cases hlt : k < s.ids.length
    · have z1 : (k : Int) < (s.ids.length : Int) := by omega
      have c1 := S.first
      have EM : ((s.first : Int) + (k : Int)) % 16 = (((s.first + k) % 16 : Nat) : Int) := by omega
      by_cases hx : k < u
      · have X := hide (HF.out k wr hx hj.out)
        have c2 := S.ids k hlt
        have ne : (((s.first + k) % 16 : Nat) : Int) ≠ (e : Int) := by
          have := U.out; unfold span at this; omega
        have zx : (((s.first + k) % 16 : Nat) : Int) < 16 := by omega
        generalize (s.first + k) % 16 = at_ at *
        generalize s.ids[k]?.getD 0 = id at *
        clear S
        have q : ((at_ : Int) == (e : Int)) = false := by simp [ne]
        go_wp2_with fail
        refine X.out.mono ?_
        rintro _ w3 ⟨rfl, hj3⟩
        go_wp2
        go_roundw
        case rel => exact ⟨k + 1, by go_num, by omega, hj3⟩
        case measure => simp [intOf]; omega
      · obtain rfl : k = u := by omega
        have eq : (((s.first + k) % 16 : Nat) : Int) = (e : Int) := by
          have := U.out; unfold span at this; omega
        clear S
        generalize (s.first + k) % 16 = at_ at *
        have q : ((at_ : Int) == (e : Int)) = true := by simp [eq]
        go_wp2
        (try simp only [Exit.inBlock, Exit.then]); refine bodyPost_ret (results_none rfl _ _ _) rfl ?_
        exact ⟨rfl, hj.out⟩
    · obtain rfl : k = u := by omega
      have z1 : ¬ (k : Int) < (s.ids.length : Int) := by omega
      clear S
      go_wp2
      go_end0
      exact ⟨rfl, hj.out⟩
end Go.Proofs.Ytjkfjijnjkpbbaa
