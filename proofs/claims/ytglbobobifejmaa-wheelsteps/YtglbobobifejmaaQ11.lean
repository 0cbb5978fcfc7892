
/-
  stableCmpFunc, SortStableFunc, of at most 64 timers.
-/
import Derived.Test.YtglbobobifejmaaQ10
namespace Go.Proofs.Ytglbobobifejmaa
open Go.RowKit

/-- by rising ticks within the blocks of k, the tags of one block below those of the next ones -/
structure Bk (k n : Nat) (f : Nat → Tg) : Prop where
  s : ∀ i j, i < j → j < n → i / k = j / k → (f i).lt (f j)
  t : ∀ i j, i < n → j < n → i / k < j / k → (f i).tag < (f j).tag
/-- the same, while the places from A on are not done yet -/
structure P1 (A n : Nat) (f : Nat → Tg) : Prop where
  s : ∀ i j, i < j → j < A → i / 20 = j / 20 → (f i).lt (f j)
  t : ∀ i j, i < n → j < n → i / 20 < j / 20 → (f i).tag < (f j).tag
  r : ∀ i j, A ≤ i → i < j → j < n → (f i).tag < (f j).tag
theorem Pm.blk {a b k n : Nat} {f g : Nat → Tg} (p : Pm a b f g) (hb : b ≤ n) (hk : ∀ x y, a ≤ x → x < b → a ≤ y → y < b → x / k = y / k) {i : Nat} (hi : i < n) : ∃ j, j < n ∧ j / k = i / k ∧ g i = f j := by
  by_cases h : a ≤ i ∧ i < b
  · obtain ⟨j, h1, h2, e⟩ := p.at h.1 h.2
    exact ⟨j, by omega, hk _ _ h1 h2 h.1 h.2, e⟩
  · exact ⟨i, hi, rfl, p.out h⟩
theorem P1.next {A n : Nat} {f g : Nat → Tg} (h : P1 A n f) (hA : A % 20 = 0) (hn : A + 20 ≤ n) (p : Pm A (A + 20) f g) (s : Srt g A (A + 20)) : P1 (A + 20) n g := by
  refine ⟨fun i j g1 g2 g3 => ?_, fun i j g1 g2 g3 => ?_, fun i j g1 g2 g3 => ?_⟩
  · by_cases e : j < A
    · rw [p.out (i := i) (by omega), p.out (i := j) (by omega)]; exact h.s i j g1 e g3
    · exact s i j (by omega) g1 g2
  · obtain ⟨i', h1, h2, e1⟩ := p.blk (k := 20) hn (fun x y _ _ _ _ => by omega) g1
    obtain ⟨j', h3, h4, e2⟩ := p.blk (k := 20) hn (fun x y _ _ _ _ => by omega) g2
    rw [e1, e2]; exact h.t i' j' h1 h3 (by omega)
  · rw [p.out (i := i) (by omega), p.out (i := j) (by omega)]; exact h.r i j (by omega) g2 g3
theorem P1.last {A n : Nat} {f g : Nat → Tg} (h : P1 A n f) (hA : A % 20 = 0) (h1 : A ≤ n) (h2 : n < A + 20) (p : Pm A n f g) (s : Srt g A n) : Bk 20 n g := by
  refine ⟨fun i j g1 g2 g3 => ?_, fun i j g1 g2 g3 => ?_⟩
  · by_cases e : j < A
    · rw [p.out (i := i) (by omega), p.out (i := j) (by omega)]; exact h.s i j g1 e g3
    · exact s i j (by omega) g1 g2
  · obtain ⟨i', h1, h2, e1⟩ := p.blk (k := 20) (Nat.le_refl _) (fun x y _ _ _ _ => by omega) g1
    obtain ⟨j', h3, h4, e2⟩ := p.blk (k := 20) (Nat.le_refl _) (fun x y _ _ _ _ => by omega) g2
    rw [e1, e2]; exact h.t i' j' h1 h3 (by omega)
structure P2_20 (A n : Nat) (f : Nat → Tg) : Prop where
  s2 : ∀ i j, i < j → j < A → i / 40 = j / 40 → (f i).lt (f j)
  s1 : ∀ i j, A ≤ i → i < j → j < n → i / 20 = j / 20 → (f i).lt (f j)
  t2 : ∀ i j, i < n → j < n → i / 40 < j / 40 → (f i).tag < (f j).tag
  t1 : ∀ i j, A ≤ i → i < n → j < n → i / 20 < j / 20 → (f i).tag < (f j).tag
theorem P2_20.first {n : Nat} {f : Nat → Tg} (h : Bk 20 n f) : P2_20 0 n f := ⟨fun i j _ g2 => by omega, fun i j _ g1 g2 g3 => h.s i j g1 g2 g3, fun i j g1 g2 g3 => h.t i j g1 g2 (by omega), fun i j _ g1 g2 g3 => h.t i j g1 g2 g3⟩
theorem P2_20.two {A n b : Nat} {f : Nat → Tg} (h : P2_20 A n f) (hA : A % 40 = 0) (h1 : A + 20 < b) (h2 : b ≤ A + 40) (h3 : b ≤ n) : Two f A (A + 20) b :=
  ⟨fun i j g1 g2 g3 => h.s1 i j g1 g2 (by omega) (by omega), fun i j g1 g2 g3 => h.s1 i j (by omega) g2 (by omega) (by omega), fun i j g1 g2 g3 g4 => h.t1 i j g1 (by omega) (by omega) (by omega)⟩
theorem P2_20.next {A n : Nat} {f g : Nat → Tg} (h : P2_20 A n f) (hA : A % 40 = 0) (hn : A + 40 ≤ n) (p : Pm A (A + 40) f g) (s : Srt g A (A + 40)) : P2_20 (A + 40) n g := by
  refine ⟨fun i j g1 g2 g3 => ?_, fun i j g1 g2 g3 g4 => ?_, fun i j g1 g2 g3 => ?_, fun i j g1 g2 g3 g4 => ?_⟩
  · by_cases e : j < A
    · rw [p.out (i := i) (by omega), p.out (i := j) (by omega)]; exact h.s2 i j g1 e g3
    · exact s i j (by omega) g1 g2
  · rw [p.out (i := i) (by omega), p.out (i := j) (by omega)]; exact h.s1 i j (by omega) g2 g3 g4
  · obtain ⟨i', h1, h2, e1⟩ := p.blk (k := 40) hn (fun x y _ _ _ _ => by omega) g1
    obtain ⟨j', h3, h4, e2⟩ := p.blk (k := 40) hn (fun x y _ _ _ _ => by omega) g2
    rw [e1, e2]; exact h.t2 i' j' h1 h3 (by omega)
  · rw [p.out (i := i) (by omega), p.out (i := j) (by omega)]; exact h.t1 i j (by omega) g2 g3 g4
theorem P2_20.last {A n : Nat} {f g : Nat → Tg} (h : P2_20 A n f) (hA : A % 40 = 0) (h1 : A ≤ n) (h2 : n < A + 40) (p : Pm A n f g) (s : Srt g A n) : Bk 40 n g := by
  refine ⟨fun i j g1 g2 g3 => ?_, fun i j g1 g2 g3 => ?_⟩
  · by_cases e : j < A
    · rw [p.out (i := i) (by omega), p.out (i := j) (by omega)]; exact h.s2 i j g1 e g3
    · exact s i j (by omega) g1 g2
  · obtain ⟨i', h1, h2, e1⟩ := p.blk (k := 40) (Nat.le_refl _) (fun x y _ _ _ _ => by omega) g1
    obtain ⟨j', h3, h4, e2⟩ := p.blk (k := 40) (Nat.le_refl _) (fun x y _ _ _ _ => by omega) g2
    rw [e1, e2]; exact h.t2 i' j' h1 h3 (by omega)
theorem P2_20.short {A n : Nat} {f : Nat → Tg} (h : P2_20 A n f) (hA : A % 40 = 0) (h2 : n ≤ A + 20) : Bk 40 n f :=
  ⟨fun i j g1 g2 g3 => by
    by_cases e : j < A
    · exact h.s2 i j g1 e g3
    · exact h.s1 i j (by omega) g1 g2 (by omega), h.t2⟩
structure P2_40 (A n : Nat) (f : Nat → Tg) : Prop where
  s2 : ∀ i j, i < j → j < A → i / 80 = j / 80 → (f i).lt (f j)
  s1 : ∀ i j, A ≤ i → i < j → j < n → i / 40 = j / 40 → (f i).lt (f j)
  t2 : ∀ i j, i < n → j < n → i / 80 < j / 80 → (f i).tag < (f j).tag
  t1 : ∀ i j, A ≤ i → i < n → j < n → i / 40 < j / 40 → (f i).tag < (f j).tag
theorem P2_40.first {n : Nat} {f : Nat → Tg} (h : Bk 40 n f) : P2_40 0 n f := ⟨fun i j _ g2 => by omega, fun i j _ g1 g2 g3 => h.s i j g1 g2 g3, fun i j g1 g2 g3 => h.t i j g1 g2 (by omega), fun i j _ g1 g2 g3 => h.t i j g1 g2 g3⟩
theorem P2_40.two {A n b : Nat} {f : Nat → Tg} (h : P2_40 A n f) (hA : A % 80 = 0) (h1 : A + 40 < b) (h2 : b ≤ A + 80) (h3 : b ≤ n) : Two f A (A + 40) b :=
  ⟨fun i j g1 g2 g3 => h.s1 i j g1 g2 (by omega) (by omega), fun i j g1 g2 g3 => h.s1 i j (by omega) g2 (by omega) (by omega), fun i j g1 g2 g3 g4 => h.t1 i j g1 (by omega) (by omega) (by omega)⟩
theorem P2_40.next {A n : Nat} {f g : Nat → Tg} (h : P2_40 A n f) (hA : A % 80 = 0) (hn : A + 80 ≤ n) (p : Pm A (A + 80) f g) (s : Srt g A (A + 80)) : P2_40 (A + 80) n g := by
  refine ⟨fun i j g1 g2 g3 => ?_, fun i j g1 g2 g3 g4 => ?_, fun i j g1 g2 g3 => ?_, fun i j g1 g2 g3 g4 => ?_⟩
  · by_cases e : j < A
    · rw [p.out (i := i) (by omega), p.out (i := j) (by omega)]; exact h.s2 i j g1 e g3
    · exact s i j (by omega) g1 g2
  · rw [p.out (i := i) (by omega), p.out (i := j) (by omega)]; exact h.s1 i j (by omega) g2 g3 g4
  · obtain ⟨i', h1, h2, e1⟩ := p.blk (k := 80) hn (fun x y _ _ _ _ => by omega) g1
    obtain ⟨j', h3, h4, e2⟩ := p.blk (k := 80) hn (fun x y _ _ _ _ => by omega) g2
    rw [e1, e2]; exact h.t2 i' j' h1 h3 (by omega)
  · rw [p.out (i := i) (by omega), p.out (i := j) (by omega)]; exact h.t1 i j (by omega) g2 g3 g4
theorem P2_40.last {A n : Nat} {f g : Nat → Tg} (h : P2_40 A n f) (hA : A % 80 = 0) (h1 : A ≤ n) (h2 : n < A + 80) (p : Pm A n f g) (s : Srt g A n) : Bk 80 n g := by
  refine ⟨fun i j g1 g2 g3 => ?_, fun i j g1 g2 g3 => ?_⟩
  · by_cases e : j < A
    · rw [p.out (i := i) (by omega), p.out (i := j) (by omega)]; exact h.s2 i j g1 e g3
    · exact s i j (by omega) g1 g2
  · obtain ⟨i', h1, h2, e1⟩ := p.blk (k := 80) (Nat.le_refl _) (fun x y _ _ _ _ => by omega) g1
    obtain ⟨j', h3, h4, e2⟩ := p.blk (k := 80) (Nat.le_refl _) (fun x y _ _ _ _ => by omega) g2
    rw [e1, e2]; exact h.t2 i' j' h1 h3 (by omega)
theorem P2_40.short {A n : Nat} {f : Nat → Tg} (h : P2_40 A n f) (hA : A % 80 = 0) (h2 : n ≤ A + 40) : Bk 80 n f :=
  ⟨fun i j g1 g2 g3 => by
    by_cases e : j < A
    · exact h.s2 i j g1 e g3
    · exact h.s1 i j (by omega) g1 g2 (by omega), h.t2⟩

set_option maxRecDepth 100000 in
set_option maxHeartbeats 8000000 in
theorem stable_any {B g n cap : Nat} {w : World} {f : Nat → Tg} (h : RowT B w g n cap f) (hn : n ≤ 64) (ht : ∀ i j, i < j → j < n → (f i).tag < (f j).tag) :
    Calls Try.prog 35 #[.slice (some ⟨g, 0, none⟩) n cap, .int .i64 (n : Int), .func (.func 30) #[] #[]] w (SymEnd B g n cap w f 0 n) := by
  have H := hide h
  have S0 : Hid (P1 0 n f) := ⟨fun i j _ g2 => by omega, fun i j g1 g2 g3 => ht i j (by omega) g2, fun i j _ g2 g3 => ht i j g2 g3⟩
  have zn : (n : Int) ≤ 64 := by omega
  clear h ht
  go_enter Try.func35, Try.ntmps35
  go_wp2
  go_loopw [7, 8] (fun v u wr => ∃ (A : Nat) (f1 : Nat → Tg), v = .int .i64 (A : Int) ∧ u = .int .i64 ((A : Int) + 20) ∧ A ≤ n ∧ Hid (A % 20 = 0) ∧ Hid (RowT B wr g n cap f1) ∧ Hid (But (Only g) w wr) ∧ Hid (Pm 0 n f f1) ∧ Hid (P1 A n f1)) (fun v _ _ => n + 1 - (intOf v).toNat)
  case atStart => exact ⟨0, f, rfl, rfl, Nat.zero_le _, rfl, H.out, But.refl _ _, Pm.refl _ _ _, S0.out⟩
  case round =>
    obtain ⟨A, f1, rfl, rfl, hA, hM, hR, hB, hP, hQ⟩ := hrel
    clear H S0
    have zA : (A : Int) ≤ 64 := by omega
    by_cases hle : A + 20 ≤ n
    · have zl : (A : Int) + 20 ≤ (n : Int) := by omega
      have X := insertion_any hR.out A (A + 20) hle (by omega) (by omega) (fun i j g1 g2 g3 => hQ.out.r i j g1 g2 (by omega))
      rw [show ((A + 20 : Nat) : Int) = (A : Int) + 20 by omega] at X
      have HX := hide X
      clear X
      go_wp2_with fail
      refine HX.out.mono ?_
      rintro _ w6 ⟨rfl, f3, r6, b6, p6, s6⟩
      have R6 := hide r6
      have B6 := hide (hB.out.trans b6)
      have P6 := hide (hP.out.trans (p6.mono (Nat.zero_le _) hle))
      have Q6 := hide (hQ.out.next hM.out hle p6 s6)
      clear r6 b6 p6 s6 HX
      go_wp2
      go_roundw
      case rel => exact ⟨A + 20, f3, by go_num, by go_num, hle, (by have := hM.out; show (A + 20) % 20 = 0; omega), R6.out, B6.out, P6.out, Q6.out⟩
      case measure => simp [intOf]; omega
    · have zl : ¬ (A : Int) + 20 ≤ (n : Int) := by omega
      have HX := hide (insertion_any hR.out A n (Nat.le_refl _) hA (by omega) (fun i j g1 g2 g3 => hQ.out.r i j g1 g2 g3))
      go_wp2_with fail
      refine HX.out.mono ?_
      rintro _ w6 ⟨rfl, f3, r6, b6, p6, s6⟩
      have R6 := hide r6
      have B6 := hide (hB.out.trans b6)
      have P6 := hide (hP.out.trans (p6.mono (Nat.zero_le _) (Nat.le_refl _)))
      have Q6 := hide (hQ.out.last hM.out hA (by omega) p6 s6)
      clear r6 b6 p6 s6 HX hR hB hP hQ
      go_wp2
      go_loopw [6] (fun v wq => ∃ (k : Nat) (f1 : Nat → Tg), v = .int .i64 (k : Int) ∧ (k = 20 ∨ k = 40 ∨ k = 80) ∧ Hid (RowT B wq g n cap f1) ∧ Hid (But (Only g) w wq) ∧ Hid (Pm 0 n f f1) ∧ Hid (Bk k n f1)) (fun v _ => 100 - (intOf v).toNat)
      case atStart => exact ⟨20, f3, rfl, .inl rfl, R6.out, B6.out, P6.out, Q6.out⟩
      case round =>
      obtain ⟨k, f1, rfl, e, hR, hB, hP, hK⟩ := hrel
      clear R6 B6 P6 Q6
      by_cases hkn : k < n
      · rcases e with e | e | e
        · subst e
          rw [show ((20 : Nat) : Int) = (20 : Int) from rfl]
          have zb : (20 : Int) < (n : Int) := by omega
          have PP := hide (P2_20.first hK.out)
          clear hK
          go_wp2
          go_loopw [7, 8] (fun v u wq => ∃ (A : Nat) (f2 : Nat → Tg), v = .int .i64 (A : Int) ∧ u = .int .i64 ((A : Int) + 40) ∧ A ≤ n ∧ Hid (A % 40 = 0) ∧ Hid (RowT B wq g n cap f2) ∧ Hid (But (Only g) w wq) ∧ Hid (Pm 0 n f f2) ∧ Hid (P2_20 A n f2)) (fun v _ _ => n + 1 - (intOf v).toNat)
          case atStart => exact ⟨0, f1, rfl, rfl, Nat.zero_le _, rfl, hR.out, hB.out, hP.out, PP.out⟩
          case round =>
            obtain ⟨A, f2, rfl, rfl, hA, hM, hR, hB, hP, hQ⟩ := hrel
            clear PP
            have zA : (A : Int) ≤ 64 := by omega
            by_cases hle : A + 40 ≤ n
            · have zl : (A : Int) + 40 ≤ (n : Int) := by omega
              have X := sym_any (A + 40 - A) hR.out A (A + 20) (A + 40) (by omega) (by omega) hle (by omega) (hQ.out.two hM.out (by omega) (by omega) hle) (Nat.le_refl _)
              rw [show ((A + 20 : Nat) : Int) = (A : Int) + 20 by omega, show ((A + 40 : Nat) : Int) = (A : Int) + 40 by omega] at X
              have HX := hide X
              clear X
              go_wp2_with fail
              refine HX.out.mono ?_
              rintro _ w6 ⟨rfl, f3, r6, b6, p6, s6⟩
              have R6 := hide r6
              have B6 := hide (hB.out.trans b6)
              have P6 := hide (hP.out.trans (p6.mono (Nat.zero_le _) hle))
              have Q6 := hide (hQ.out.next hM.out hle p6 s6)
              clear r6 b6 p6 s6 HX
              go_wp2
              go_roundw
              case rel => exact ⟨A + 40, f3, by go_num, by go_num, hle, (by have := hM.out; show (A + 40) % 40 = 0; omega), R6.out, B6.out, P6.out, Q6.out⟩
              case measure => simp [intOf]; omega
            · have zl : ¬ (A : Int) + 40 ≤ (n : Int) := by omega
              by_cases hm : A + 20 < n
              · have zm : (A : Int) + 20 < (n : Int) := by omega
                have X := sym_any (n - A) hR.out A (A + 20) n (by omega) hm (Nat.le_refl _) (by omega) (hQ.out.two hM.out hm (by omega) (Nat.le_refl _)) (Nat.le_refl _)
                rw [show ((A + 20 : Nat) : Int) = (A : Int) + 20 by omega] at X
                have HX := hide X
                clear X
                go_wp2_with fail
                refine HX.out.mono ?_
                rintro _ w6 ⟨rfl, f3, r6, b6, p6, s6⟩
                have R6 := hide r6
                have B6 := hide (hB.out.trans b6)
                have P6 := hide (hP.out.trans (p6.mono (Nat.zero_le _) (Nat.le_refl _)))
                have Q6 := hide (hQ.out.last hM.out hA (by omega) p6 s6)
                clear r6 b6 p6 s6 HX
                go_wp2
                go_roundw
                case rel => exact ⟨40, f3, rfl, (by omega), R6.out, B6.out, P6.out, Q6.out⟩
                case measure => simp [intOf]
              · have zm : ¬ (A : Int) + 20 < (n : Int) := by omega
                have Q6 := hide (hQ.out.short hM.out (by omega))
                go_wp2
                go_roundw
                case rel => exact ⟨40, f2, rfl, (by omega), hR.out, hB.out, hP.out, Q6.out⟩
                case measure => simp [intOf]
        · subst e
          rw [show ((40 : Nat) : Int) = (40 : Int) from rfl]
          have zb : (40 : Int) < (n : Int) := by omega
          have PP := hide (P2_40.first hK.out)
          clear hK
          go_wp2
          go_loopw [7, 8] (fun v u wq => ∃ (A : Nat) (f2 : Nat → Tg), v = .int .i64 (A : Int) ∧ u = .int .i64 ((A : Int) + 80) ∧ A ≤ n ∧ Hid (A % 80 = 0) ∧ Hid (RowT B wq g n cap f2) ∧ Hid (But (Only g) w wq) ∧ Hid (Pm 0 n f f2) ∧ Hid (P2_40 A n f2)) (fun v _ _ => n + 1 - (intOf v).toNat)
          case atStart => exact ⟨0, f1, rfl, rfl, Nat.zero_le _, rfl, hR.out, hB.out, hP.out, PP.out⟩
          case round =>
            obtain ⟨A, f2, rfl, rfl, hA, hM, hR, hB, hP, hQ⟩ := hrel
            clear PP
            have zA : (A : Int) ≤ 64 := by omega
            by_cases hle : A + 80 ≤ n
            · have zl : (A : Int) + 80 ≤ (n : Int) := by omega
              have X := sym_any (A + 80 - A) hR.out A (A + 40) (A + 80) (by omega) (by omega) hle (by omega) (hQ.out.two hM.out (by omega) (by omega) hle) (Nat.le_refl _)
              rw [show ((A + 40 : Nat) : Int) = (A : Int) + 40 by omega, show ((A + 80 : Nat) : Int) = (A : Int) + 80 by omega] at X
              have HX := hide X
              clear X
              go_wp2_with fail
              refine HX.out.mono ?_
              rintro _ w6 ⟨rfl, f3, r6, b6, p6, s6⟩
              have R6 := hide r6
              have B6 := hide (hB.out.trans b6)
              have P6 := hide (hP.out.trans (p6.mono (Nat.zero_le _) hle))
              have Q6 := hide (hQ.out.next hM.out hle p6 s6)
              clear r6 b6 p6 s6 HX
              go_wp2
              go_roundw
              case rel => exact ⟨A + 80, f3, by go_num, by go_num, hle, (by have := hM.out; show (A + 80) % 80 = 0; omega), R6.out, B6.out, P6.out, Q6.out⟩
              case measure => simp [intOf]; omega
            · have zl : ¬ (A : Int) + 80 ≤ (n : Int) := by omega
              by_cases hm : A + 40 < n
              · have zm : (A : Int) + 40 < (n : Int) := by omega
                have X := sym_any (n - A) hR.out A (A + 40) n (by omega) hm (Nat.le_refl _) (by omega) (hQ.out.two hM.out hm (by omega) (Nat.le_refl _)) (Nat.le_refl _)
                rw [show ((A + 40 : Nat) : Int) = (A : Int) + 40 by omega] at X
                have HX := hide X
                clear X
                go_wp2_with fail
                refine HX.out.mono ?_
                rintro _ w6 ⟨rfl, f3, r6, b6, p6, s6⟩
                have R6 := hide r6
                have B6 := hide (hB.out.trans b6)
                have P6 := hide (hP.out.trans (p6.mono (Nat.zero_le _) (Nat.le_refl _)))
                have Q6 := hide (hQ.out.last hM.out hA (by omega) p6 s6)
                clear r6 b6 p6 s6 HX
                go_wp2
                go_roundw
                case rel => exact ⟨80, f3, rfl, (by omega), R6.out, B6.out, P6.out, Q6.out⟩
                case measure => simp [intOf]
              · have zm : ¬ (A : Int) + 40 < (n : Int) := by omega
                have Q6 := hide (hQ.out.short hM.out (by omega))
                go_wp2
                go_roundw
                case rel => exact ⟨80, f2, rfl, (by omega), hR.out, hB.out, hP.out, Q6.out⟩
                case measure => simp [intOf]
        · omega
      · have FF : Hid (SymEnd B g n cap w f 0 n (.returned (.tuple #[])) wr) := ⟨rfl, f1, hR.out, hB.out, hP.out, fun i j _ g2 g3 => hK.out.s i j g2 g3 (by rw [Nat.div_eq_of_lt (by omega), Nat.div_eq_of_lt (by omega)])⟩
        have zk : ¬ (k : Int) < (n : Int) := by omega
        clear e hR hB hP hK
        go_wp2
        go_end0
        exact FF.out

set_option maxRecDepth 100000 in
/-- SORTSTABLEFUNC, of at most 64 -/
theorem sort_any {B g n cap : Nat} {w : World} {f : Nat → Tg} (h : RowT B w g n cap f) (hn : n ≤ 64) (ht : ∀ i j, i < j → j < n → (f i).tag < (f j).tag) :
    Calls Try.prog 29 #[.slice (some ⟨g, 0, none⟩) n cap, .func (.func 30) #[] #[]] w (SymEnd B g n cap w f 0 n) := by
  have X := hide (stable_any h hn ht)
  clear h ht
  go_enter Try.func29, Try.ntmps29
  go_wp2_with fail
  refine X.out.mono ?_
  rintro _ w3 ⟨rfl, hE⟩
  have E := hide hE
  clear hE
  go_wp2
  go_end0
  exact ⟨rfl, E.out⟩
end Go.Proofs.Ytglbobobifejmaa
