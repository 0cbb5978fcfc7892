
/-
  Contracts: Write, Give, Take.
-/
import Derived.Test.YtjkfjijnjkpbbaaNNic3
import Derived.Laws.ResultCell
namespace Go.Proofs.Ytjkfjijnjkpbbaa
open Go.RowKit

set_option maxRecDepth 100000 in
set_option maxHeartbeats 1000000 in
theorem Write_any {A : Nat → Prop} {b : Nat} {D : Dev} {w : World} (h : DevAt LN A w b D) (ok : D.Ok) (reg v : Int) :
    Calls Try.prog 56 #[.pointer (some ⟨b, 0, none⟩), .int .i64 reg, .int .i64 v] w fun e w' => e = .returned (.int .i64 (wrE reg v)) ∧ DevAt LN A w' b (D.wrD reg v) ∧ But (Only b) w w' := by
  have H := hide h
  have OK := hide ok
  have f0 := h.frozen 0
  have f3 := h.frozen 3
  have c0 := h.creg 0 (by omega)
  have c3 := h.creg 3 (by omega)
  clear h ok
  by_cases r0 : reg = 0
  · subst r0
    have k3 : Hid (¬ (0 : Int) = 3) := by show ¬ (0 : Int) = 3; omega
    by_cases v2 : v = 2
    · subst v2
      have E : Hid (wrE 0 2 = 0) := by show _ = _; decide
      have E2 : Hid (D.wrD 0 2 = D.reset) := by show _ = _; unfold Dev.wrD; rw [if_pos ⟨rfl, rfl⟩]
      clear f0 f3 c0 c3
      go_enter Try.func56, Try.ntmps56
      go_wp2_with fail
      refine (reset_any H.out).mono ?_
      rintro e w1 ⟨rfl, hd, hb⟩
      have HD := hide hd
      have HB := hide hb
      clear hd hb
      go_wp2
      go_ret
      exact ⟨by rw [E.out]; rfl, by rw [E2.out]; exact HD.out, HB.out⟩
    · by_cases v01 : v = 0 ∨ v = 1
      · have E : Hid (wrE 0 v = 0) := by unfold wrE; rw [if_pos (.inl ⟨rfl, by omega⟩)]; exact rfl
        have E2 : Hid (D.wrD 0 v = { D with r := upd D.r 0 v }) := by unfold Dev.wrD; rw [if_neg (by omega), if_pos ⟨rfl, v01⟩]; exact rfl
        rcases v01 with rfl | rfl
        · go_enter Try.func56, Try.ntmps56
          go_wp2
          go_ret
          exact ⟨by rw [E.out]; rfl, by rw [E2.out]; exact H.out.setReg LN_ok 0 (by omega) _, (But.refl _ _).cellb _ _⟩
        · go_enter Try.func56, Try.ntmps56
          go_wp2
          go_ret
          exact ⟨by rw [E.out]; rfl, by rw [E2.out]; exact H.out.setReg LN_ok 0 (by omega) _, (But.refl _ _).cellb _ _⟩
      · have E : Hid (wrE 0 v = 1) := by unfold wrE; rw [if_neg (by omega)]; exact rfl
        have E2 : Hid (D.wrD 0 v = D) := by unfold Dev.wrD; rw [if_neg (by omega), if_neg (by omega), if_neg (by omega), if_neg (by omega)]; exact rfl
        have q0 : (v == 0) = false := by rw [beq_eq_false_iff_ne]; omega
        have q1 : (v == 1) = false := by rw [beq_eq_false_iff_ne]; omega
        have q2 : (v == 2) = false := by rw [beq_eq_false_iff_ne]; omega
        clear v2 v01 f0 f3 c0 c3
        go_enter Try.func56, Try.ntmps56
        go_wp2
        go_ret
        exact ⟨by rw [E.out]; rfl, by rw [E2.out]; exact H.out, But.refl _ _⟩
  · have q0 : (reg == 0) = false := by rw [beq_eq_false_iff_ne]; omega
    by_cases r3 : reg = 3
    · subst r3
      have C := hide (isPlace_any v w)
      by_cases hp : place v = true
      · have E : Hid (wrE 3 v = 0) := by unfold wrE; rw [if_pos (.inr ⟨.inl rfl, hp⟩)]; exact rfl
        have E2 : Hid (D.wrD 3 v = { D with r := upd D.r 3 v }) := by unfold Dev.wrD; rw [if_neg (by omega), if_neg (by omega), if_pos ⟨rfl, hp⟩]; exact rfl
        rw [hp] at C
        clear hp
        go_enter Try.func56, Try.ntmps56
        go_wp2_with fail
        refine (unhide C).mono ?_
        rintro e w1 ⟨rfl, rfl⟩
        clear C
        go_wp2
        go_ret
        exact ⟨by rw [E.out]; rfl, by rw [E2.out]; exact H.out.setReg LN_ok 3 (by omega) _, (But.refl _ _).cellb _ _⟩
      · have hp : place v = false := by simpa using hp
        have E : Hid (wrE 3 v = 1) := by unfold wrE; rw [if_neg (by simp [hp])]; exact rfl
        have E2 : Hid (D.wrD 3 v = D) := by unfold Dev.wrD; rw [if_neg (by omega), if_neg (by omega), if_neg (by simp [hp]), if_neg (by omega)]; exact rfl
        rw [hp] at C
        clear hp
        go_enter Try.func56, Try.ntmps56
        go_wp2_with fail
        refine (unhide C).mono ?_
        rintro e w1 ⟨rfl, rfl⟩
        clear C
        go_wp2
        go_ret
        exact ⟨by rw [E.out]; rfl, by rw [E2.out]; exact H.out, But.refl _ _⟩
    · have q3 : (reg == 3) = false := by rw [beq_eq_false_iff_ne]; omega
      clear f0 f3 c0 c3
      by_cases r5 : reg = 5
      · subst r5
        have C := hide (isPlace_any v w)
        by_cases hp : place v = true
        · have E : Hid (wrE 5 v = 0) := by unfold wrE; rw [if_pos (.inr ⟨.inr rfl, hp⟩)]; exact rfl
          have E2 : Hid (D.wrD 5 v = D.post v) := by unfold Dev.wrD; rw [if_neg (by omega), if_neg (by omega), if_neg (by omega), if_pos ⟨rfl, hp⟩]; exact rfl
          obtain ⟨t, rfl, ht⟩ := place_nat hp
          rw [hp] at C
          clear hp
          go_enter Try.func56, Try.ntmps56
          go_wp2_with fail
          refine (unhide C).mono ?_
          rintro e w1 ⟨rfl, rfl⟩
          clear C
          go_wp2_with fail
          refine (post_any H.out OK.out t ht).mono ?_
          rintro e w1 ⟨rfl, hd, hb⟩
          have HD := hide hd
          have HB := hide hb
          clear hd hb
          go_wp2
          go_ret
          exact ⟨by rw [E.out]; rfl, by rw [E2.out]; exact HD.out, HB.out⟩
        · have hp : place v = false := by simpa using hp
          have E : Hid (wrE 5 v = 1) := by unfold wrE; rw [if_neg (by simp [hp])]; exact rfl
          have E2 : Hid (D.wrD 5 v = D) := by unfold Dev.wrD; rw [if_neg (by omega), if_neg (by omega), if_neg (by omega), if_neg (by simp [hp])]; exact rfl
          rw [hp] at C
          clear hp
          go_enter Try.func56, Try.ntmps56
          go_wp2_with fail
          refine (unhide C).mono ?_
          rintro e w1 ⟨rfl, rfl⟩
          clear C
          go_wp2
          go_ret
          exact ⟨by rw [E.out]; rfl, by rw [E2.out]; exact H.out, But.refl _ _⟩
      · have q5 : (reg == 5) = false := by rw [beq_eq_false_iff_ne]; omega
        have E : Hid (wrE reg v = 1) := by unfold wrE; rw [if_neg (by simp [r0, r3, r5])]; exact rfl
        have E2 : Hid (D.wrD reg v = D) := by unfold Dev.wrD; rw [if_neg (by omega), if_neg (by omega), if_neg (by omega), if_neg (by omega)]; exact rfl
        clear r0 r3 r5
        go_enter Try.func56, Try.ntmps56
        go_wp2
        go_ret
        exact ⟨by rw [E.out]; rfl, by rw [E2.out]; exact H.out, But.refl _ _⟩

end Go.Proofs.Ytjkfjijnjkpbbaa
