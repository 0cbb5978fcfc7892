
/-
  symMergeCmpFunc: both halves.
-/
import Derived.Test.YtglbobobifejmaaQ7
namespace Go.Proofs.Ytglbobobifejmaa
open Go.RowKit

theorem rot_same (f : Nat → Tg) {s m e : Nat} (hs : s ≤ m) (he : m ≤ e) (h : ¬ (s < m ∧ m < e)) : rot f s m e = f := by
  funext x
  unfold rot
  by_cases h1 : s ≤ x ∧ x < s + (e - m)
  · rw [if_pos h1, show m - s = 0 by omega, Nat.add_zero]
  · rw [if_neg h1]
    by_cases h2 : s + (e - m) ≤ x ∧ x < e
    · rw [if_pos h2, show e - m = 0 by omega, Nat.sub_zero]
    · rw [if_neg h2]
theorem Two.congr {f g : Nat → Tg} {a m b : Nat} (h : Two f a m b) (e : ∀ x, a ≤ x → x < b → g x = f x) (hm : a ≤ m) (hb : m ≤ b) : Two g a m b :=
  ⟨fun i j g1 g2 g3 => by rw [e i g1 (by omega), e j (by omega) (by omega)]; exact h.l i j g1 g2 g3, fun i j g1 g2 g3 => by rw [e i (by omega) (by omega), e j (by omega) g3]; exact h.r i j g1 g2 g3, fun i j g1 g2 g3 g4 => by rw [e i g1 (by omega), e j (by omega) g4]; exact h.t i j g1 g2 g3 g4⟩
/-- what symMerge leaves -/
def SymEnd (B g n cap : Nat) (w : World) (f : Nat → Tg) (a b : Nat) (e : Ending) (w' : World) : Prop := e = .returned (.tuple #[]) ∧ ∃ f', RowT B w' g n cap f' ∧ But (Only g) w w' ∧ Pm a b f f' ∧ Srt f' a b

set_option maxRecDepth 100000 in
set_option maxHeartbeats 8000000 in
theorem symC {B g n cap : Nat} {w : World} {f : Nat → Tg} (h : RowT B w g n cap f) (a m b M : Nat) (ham : a + 1 < m) (hmb : m + 1 < b) (hM : M = (a + b) / 2) (hcs : M < m) (hb : b ≤ n) (hn : n ≤ 1000000) (h2 : Two f a m b)
    (ih : ∀ (w' : World) (f' : Nat → Tg) (a' m' b' : Nat), RowT B w' g n cap f' → a' < m' → m' < b' → b' ≤ n → Two f' a' m' b' → b' - a' < b - a → Calls Try.prog 40 #[.slice (some ⟨g, 0, none⟩) n cap, .int .i64 (a' : Int), .int .i64 (m' : Int), .int .i64 (b' : Int), .func (.func 30) #[] #[]] w' (SymEnd B g n cap w' f' a' b')) :
    Calls Try.prog 40 #[.slice (some ⟨g, 0, none⟩) n cap, .int .i64 (a : Int), .int .i64 (m : Int), .int .i64 (b : Int), .func (.func 30) #[] #[]] w (SymEnd B g n cap w f a b) := by
  have H := hide h
  have H2 := hide h2
  have IH := hide ih
  have e1 : ((m : Int) - (a : Int) == 1) = false := by simp; omega
  have e2 : ((b : Int) - (m : Int) == 1) = false := by simp; omega
  have z1 : (a : Int) + 1 < (m : Int) := by omega
  have z2 : (m : Int) + 1 < (b : Int) := by omega
  have z3 : (b : Int) ≤ (n : Int) := by omega
  have z4 : (n : Int) ≤ 1000000 := by omega
  have EM : Hid (((a : Int) + (b : Int)) / 2 = (M : Int)) := by unfold Hid; omega
  have zc : (M : Int) < (m : Int) := by omega
  have zM1 : (a : Int) < (M : Int) := by omega
  have zM2 : (M : Int) < (b : Int) := by omega
  have HM : Hid (a < M ∧ M < b ∧ 2 * M ≤ a + b ∧ a + b ≤ 2 * M + 1) := by unfold Hid; omega
  obtain ⟨lo, hlo⟩ : ∃ lo, lo = M + m - b := ⟨_, rfl⟩
  obtain ⟨hi, hhi⟩ : ∃ hi, hi = M := ⟨_, rfl⟩
  have LO : Hid (a ≤ lo ∧ lo ≤ hi ∧ hi ≤ m ∧ hi ≤ M ∧ M + m ≤ lo + b ∧ (lo = a ∨ lo + b = M + m) ∧ (hi = m ∨ hi = M)) := by unfold Hid; omega
  have ELO : Hid ((M : Int) + (m : Int) - (b : Int) = (lo : Int)) := by unfold Hid; omega
  have EHI : Hid (hi = M) := hhi
  clear h h2 ih hlo hhi hM hcs
  go_enter Try.func40, Try.ntmps40
  go_upto_region 25 with fail
  rw [EM.out]
  go_wp2
  go_loopw [20, 21] (fun v u wr => ∃ (s r : Nat), v = .int .i64 (s : Int) ∧ u = .int .i64 (r : Int) ∧ lo ≤ s ∧ s ≤ r ∧ r ≤ hi ∧ Hid (RowT B wr g n cap f) ∧ Hid (But (Only g) w wr) ∧ Hid (∀ c, lo ≤ c → c < s → (f c).lt (f (M + m - 1 - c))) ∧ Hid (∀ c, r ≤ c → c < hi → (f (M + m - 1 - c)).lt (f c))) (fun v u _ => (intOf u).toNat - (intOf v).toNat)
  case atStart => exact ⟨lo, hi, by rw [ELO.out], by rw [EHI.out], Nat.le_refl _, by have := LO.out; omega, Nat.le_refl _, H.out, But.refl _ _, fun x h1 h2 => by omega, fun x h1 h2 => by omega⟩
  case round =>
    obtain ⟨s, r, rfl, rfl, hs, hsr, hr, hR, hB, hL, hU⟩ := hrel
    clear H
    have l1 := LO.out
    have l2 := HM.out
    by_cases hlt : s < r
    · have zi : (s : Int) < (r : Int) := by omega
      have zr : (r : Int) ≤ (M : Int) := by omega
      have zs : (0 : Int) ≤ (s : Int) := by omega
      have LL := hide l1
      clear l1 l2
      go_upto_region 35 with fail
      obtain ⟨cN, hce⟩ : ∃ cN, cN = (s + r) / 2 := ⟨_, rfl⟩
      rw [show ((s : Int) + (r : Int)) / 2 = (cN : Int) by omega]
      obtain ⟨dd, hde⟩ : ∃ dd, dd = M + m - 1 - cN := ⟨_, rfl⟩
      have HC : Hid (s ≤ cN ∧ cN < r ∧ a ≤ cN ∧ cN < m ∧ m ≤ dd ∧ dd < b ∧ dd + cN = M + m - 1) := by have := LL.out; have := HM.out; unfold Hid; omega
      have lP : dd < n := by have := HC.out; omega
      have lQ : cN < n := by have := HC.out; omega
      have ed : (M : Int) + (m : Int) - 1 - (cN : Int) = (dd : Int) := by have := HC.out; omega
      have wd : IntKind.i64.wrap (dd : Int) = (dd : Int) := by simp only [IntKind.wrap, IntKind.signed, IntKind.bits]; simp; omega
      clear hce hde
      obtain ⟨x0, hx0⟩ : ∃ x, x = (f dd).id := ⟨_, rfl⟩
      obtain ⟨x1, hx1⟩ : ∃ x, x = (f dd).tm := ⟨_, rfl⟩
      obtain ⟨y0, hy0⟩ : ∃ x, x = (f cN).id := ⟨_, rfl⟩
      obtain ⟨y1, hy1⟩ : ∃ x, x = (f cN).tm := ⟨_, rfl⟩
      have c0 := hR.out.c0 (i := dd) lP
      have c1 := hR.out.c1 (i := dd) lP
      have d0 := hR.out.c0 (i := cN) lQ
      have d1 := hR.out.c1 (i := cN) lQ
      rw [← hx0] at c0
      rw [← hx1] at c1
      rw [← hy0] at d0
      rw [← hy1] at d1
      have KS : Hid (∀ W, Below wr.heap.size wr W → W.cell? ⟨g, dd * 2, none⟩ = some (.int .i64 x0) ∧ W.cell? ⟨g, dd * 2 + 1, none⟩ = some (.int .i64 x1) ∧ W.cell? ⟨g, cN * 2, none⟩ = some (.int .i64 y0) ∧ W.cell? ⟨g, cN * 2 + 1, none⟩ = some (.int .i64 y1)) := fun W hb' =>
        have lt := World.block_lt_of_cell? wr _ c0
        ⟨(hb'.cell (p := ⟨g, dd * 2, none⟩) lt).trans c0, (hb'.cell (p := ⟨g, dd * 2 + 1, none⟩) lt).trans c1, (hb'.cell (p := ⟨g, cN * 2, none⟩) lt).trans d0, (hb'.cell (p := ⟨g, cN * 2 + 1, none⟩) lt).trans d1⟩
      have q2 : Below wr.heap.size wr wr.drew := ⟨rfl, rfl, rfl, Nat.le_refl _, fun _ _ => rfl⟩
      have HX1 := hide hx1
      have HY1 := hide hy1
      have zP : (dd : Int) < (n : Int) := by omega
      have zQ : (cN : Int) < (n : Int) := by omega
      clear hx0 hx1 hy0 hy1 c0 c1 d0 d1
      go_region_held (fun W => W.cell? ⟨g, dd * 2, none⟩ = some (.int .i64 x0) ∧ W.cell? ⟨g, dd * 2 + 1, none⟩ = some (.int .i64 x1) ∧ W.cell? ⟨g, cN * 2, none⟩ = some (.int .i64 y0) ∧ W.cell? ⟨g, cN * 2 + 1, none⟩ = some (.int .i64 y1)) (exact KS.out _ (by assumption))
        (first
          | (go_at_call 30; refine (byTick_any _ _ _ _ _).mono ?_; rintro e w3 ⟨rfl, hb3⟩; have q3 : Below wr.heap.size wr w3 := q2.trans hb3; clear hb3))
      have R3 := hide (hR.out.later q3)
      have B3 := hide (hB.out.trans (But.of_below q3))
      clear q2 q3 KS
      by_cases hc : x1 < y1
      · have g2 := cm_neg.2 hc
        generalize cm x1 y1 = cc at *
        have g7 : (!decide (cc < 0)) = false := by simp [g2]
        rw [g7]
        clear g7
        clear ed wd
        go_wp2
        go_roundw
        case rel => exact ⟨s, cN, rfl, rfl, hs, by have := HC.out; omega, by have := HC.out; omega, R3.out, B3.out, hL.out, fun x h1 h2 => by
          have hc3 := HC.out
          have hl3 := LL.out
          have hm3 := HM.out
          exact lt_of_le_lt (H2.out.r.le (i := M + m - 1 - x) (j := dd) (by omega) (by omega) (by omega)) (lt_of_lt_le (Or.inl (by rw [← HX1.out, ← HY1.out]; exact hc)) (H2.out.l.le (i := cN) (by omega) h1 (by omega)))⟩
        case measure => have := HC.out; simp [intOf]; omega
      · have g2 : ¬ cm x1 y1 < 0 := fun e => hc (cm_neg.1 e)
        have g3 : decide (cm x1 y1 < 0) = false := decide_eq_false g2
        generalize cm x1 y1 = cc at *
        have g7 : (!decide (cc < 0)) = true := by simp [g3]
        rw [g7]
        clear g7
        clear ed wd
        go_wp2
        go_roundw
        case rel => exact ⟨cN + 1, r, by go_num, rfl, by have := HC.out; omega, by have := HC.out; omega, hr, R3.out, B3.out, fun x h1 h2 => by
          have hc3 := HC.out
          have hl3 := LL.out
          have hm3 := HM.out
          exact lt_of_le_lt (H2.out.l.le (i := x) (j := cN) (by omega) (by omega) (by omega)) (lt_of_lt_le (H2.out.lt (i := cN) (j := dd) (by omega) (by omega) (by omega) (by omega) (by rw [← HX1.out, ← HY1.out]; exact hc)) (H2.out.r.le (i := dd) (by omega) (by omega) (by omega))), hU.out⟩
        case measure => have := HC.out; simp [intOf]; omega
    · obtain rfl : s = r := by omega
      obtain ⟨e, he⟩ : ∃ e, e = M + m - s := ⟨_, rfl⟩
      have HE : Hid (a ≤ s ∧ s ≤ m ∧ m ≤ e ∧ e ≤ b ∧ e = M + m - s ∧ s ≤ M ∧ M < b ∧ a < M) := by unfold Hid; omega
      have HV := hide (H2.out.halves (s := s) (e := e) (mid := M) (by omega) (by omega) (by omega) (by omega) he (by omega) (by omega)
        (fun g1 g2 => by
          have := hL.out (s - 1) (by omega) (by omega)
          rw [show M + m - 1 - (s - 1) = e by omega] at this
          exact this)
        (fun g1 g2 => by
          have := hU.out s (Nat.le_refl _) (by omega)
          rw [show M + m - 1 - s = e - 1 by omega] at this
          exact this))
      have EE : Hid ((M : Int) + (m : Int) - (s : Int) = (e : Int)) := by unfold Hid; omega
      have zs1 : (s : Int) ≤ (M : Int) := by omega
      have zs0 : (0 : Int) ≤ (s : Int) := by omega
      clear hL hU l1 l2 he
      go_upto_region 39 with fail
      rw [EE.out]
      obtain ⟨f1, hf1⟩ : ∃ f1, f1 = rot f s m e := ⟨_, rfl⟩
      have HF1 := hide hf1
      rw [← hf1] at HV
      clear hf1
      have FIN : Hid (∀ (W : World) (f2 f3 : Nat → Tg), RowT B W g n cap f3 → But (Only g) w W → Pm a b f f1 → Pm a M f1 f2 → Srt f2 a M → Pm M b f2 f3 → Srt f3 M b → SymEnd B g n cap w f a b (.returned (.tuple #[])) W) := fun W f2 f3 r3 b3 p1 p2 s2 p3 s3 => by
        obtain ⟨q1, q2⟩ := halves_done p2 s2 p3 s3 HV.out.2.2 (by have := HE.out; omega) (by have := HE.out; omega)
        exact ⟨rfl, f3, r3, b3, p1.trans q2, q1⟩
      have hE := HE.out
      by_cases h1 : s = m
      · exfalso; omega
      · by_cases h2 : m = e
        · by_cases h3 : M < m
          · have ysm : (s : Int) < (m : Int) := by omega
            have yme : ¬ (m : Int) < (e : Int) := by omega
            have ysM : ¬ (s : Int) < (M : Int) := by omega
            have yMe : (M : Int) < (e : Int) := by omega
            have yeb : (e : Int) < (b : Int) := by omega
            have ef : f1 = f := by rw [HF1.out]; exact rot_same f (by omega) (by omega) (by omega)
            have R4 : Hid (RowT B wr g n cap f1) := by rw [ef]; exact hR.out
            have B4 := hide hB.out
            have P4 : Hid (Pm a b f f1) := by rw [ef]; exact Pm.refl _ _ _
            clear ef hE
            have R6 := hide R4.out
            have B6 := hide B4.out
            have P6 : Hid (Pm a M f1 f1) := Pm.refl _ _ _
            have S6 : Hid (Srt f1 a M) := HV.out.1.srt_l (by have := HE.out; omega)
            have T2 := hide (HV.out.2.1.congr (g := f1) (fun x g1 g2 => P6.out.out (by omega)) (by have := HE.out; omega) (by have := HE.out; omega))
            have HX := hide (IH.out _ f1 M e b R6.out (by have := HE.out; omega) (by have := HE.out; omega) hb T2.out (by have := HE.out; omega))
            go_wp2_with fail
            refine HX.out.mono ?_
            rintro _ w8 ⟨rfl, f3, r8, b8, p8, s8⟩
            have FF := hide (FIN.out w8 f1 f3 r8 (B6.out.trans b8) P4.out P6.out S6.out p8 s8)
            clear r8 b8 p8 s8 HX
            go_wp2
            go_end0
            exact FF.out
          · exfalso; omega
        · by_cases h3 : a < s
          · by_cases h4 : e < b
            · have ysm : (s : Int) < (m : Int) := by omega
              have yme : (m : Int) < (e : Int) := by omega
              have yas : (a : Int) < (s : Int) := by omega
              have ysM : (s : Int) < (M : Int) := by omega
              have yMe : (M : Int) < (e : Int) := by omega
              have yeb : (e : Int) < (b : Int) := by omega
              have X := rotate_any hR.out s m e (by omega) (by omega) (by omega) hn
              rw [← HF1.out] at X
              have HX := hide X
              clear X hE
              go_wp2_with fail
              refine HX.out.mono ?_
              rintro _ w4 ⟨rfl, r4, b4, p4⟩
              have R4 := hide r4
              have B4 := hide (hB.out.trans b4)
              have P4 := hide (p4.mono (c := a) (d := b) (by have := HE.out; omega) (by have := HE.out; omega))
              clear r4 b4 p4 HX
              have HX := hide (IH.out _ f1 a s M R4.out (by have := HE.out; omega) (by have := HE.out; omega) (by have := HE.out; omega) HV.out.1 (by have := HE.out; omega))
              go_wp2_with fail
              refine HX.out.mono ?_
              rintro _ w6 ⟨rfl, f2, r6, b6, p6, s6⟩
              have R6 := hide r6
              have B6 := hide (B4.out.trans b6)
              have P6 := hide p6
              have S6 := hide s6
              clear r6 b6 p6 s6 HX
              have T2 := hide (HV.out.2.1.congr (g := f2) (fun x g1 g2 => P6.out.out (by omega)) (by have := HE.out; omega) (by have := HE.out; omega))
              have HX := hide (IH.out _ f2 M e b R6.out (by have := HE.out; omega) (by have := HE.out; omega) hb T2.out (by have := HE.out; omega))
              go_wp2_with fail
              refine HX.out.mono ?_
              rintro _ w8 ⟨rfl, f3, r8, b8, p8, s8⟩
              have FF := hide (FIN.out w8 f2 f3 r8 (B6.out.trans b8) P4.out P6.out S6.out p8 s8)
              clear r8 b8 p8 s8 HX
              go_wp2
              go_end0
              exact FF.out
            · have ysm : (s : Int) < (m : Int) := by omega
              have yme : (m : Int) < (e : Int) := by omega
              have yas : (a : Int) < (s : Int) := by omega
              have ysM : (s : Int) < (M : Int) := by omega
              have yMe : (M : Int) < (e : Int) := by omega
              have yeb : ¬ (e : Int) < (b : Int) := by omega
              have X := rotate_any hR.out s m e (by omega) (by omega) (by omega) hn
              rw [← HF1.out] at X
              have HX := hide X
              clear X hE
              go_wp2_with fail
              refine HX.out.mono ?_
              rintro _ w4 ⟨rfl, r4, b4, p4⟩
              have R4 := hide r4
              have B4 := hide (hB.out.trans b4)
              have P4 := hide (p4.mono (c := a) (d := b) (by have := HE.out; omega) (by have := HE.out; omega))
              clear r4 b4 p4 HX
              have HX := hide (IH.out _ f1 a s M R4.out (by have := HE.out; omega) (by have := HE.out; omega) (by have := HE.out; omega) HV.out.1 (by have := HE.out; omega))
              go_wp2_with fail
              refine HX.out.mono ?_
              rintro _ w6 ⟨rfl, f2, r6, b6, p6, s6⟩
              have R6 := hide r6
              have B6 := hide (B4.out.trans b6)
              have P6 := hide p6
              have S6 := hide s6
              clear r6 b6 p6 s6 HX
              have T2 := hide (HV.out.2.1.congr (g := f2) (fun x g1 g2 => P6.out.out (by omega)) (by have := HE.out; omega) (by have := HE.out; omega))
              have FF := hide (FIN.out _ f2 f2 R6.out B6.out P4.out P6.out S6.out (Pm.refl _ _ _) (T2.out.srt_l (by have := HE.out; omega)))
              go_wp2
              go_end0
              exact FF.out
          · by_cases h4 : e < b
            · have ysm : (s : Int) < (m : Int) := by omega
              have yme : (m : Int) < (e : Int) := by omega
              have yas : ¬ (a : Int) < (s : Int) := by omega
              have yMe : (M : Int) < (e : Int) := by omega
              have yeb : (e : Int) < (b : Int) := by omega
              have X := rotate_any hR.out s m e (by omega) (by omega) (by omega) hn
              rw [← HF1.out] at X
              have HX := hide X
              clear X hE
              go_wp2_with fail
              refine HX.out.mono ?_
              rintro _ w4 ⟨rfl, r4, b4, p4⟩
              have R4 := hide r4
              have B4 := hide (hB.out.trans b4)
              have P4 := hide (p4.mono (c := a) (d := b) (by have := HE.out; omega) (by have := HE.out; omega))
              clear r4 b4 p4 HX
              have R6 := hide R4.out
              have B6 := hide B4.out
              have P6 : Hid (Pm a M f1 f1) := Pm.refl _ _ _
              have S6 : Hid (Srt f1 a M) := HV.out.1.srt_l (by have := HE.out; omega)
              have T2 := hide (HV.out.2.1.congr (g := f1) (fun x g1 g2 => P6.out.out (by omega)) (by have := HE.out; omega) (by have := HE.out; omega))
              have HX := hide (IH.out _ f1 M e b R6.out (by have := HE.out; omega) (by have := HE.out; omega) hb T2.out (by have := HE.out; omega))
              go_wp2_with fail
              refine HX.out.mono ?_
              rintro _ w8 ⟨rfl, f3, r8, b8, p8, s8⟩
              have FF := hide (FIN.out w8 f1 f3 r8 (B6.out.trans b8) P4.out P6.out S6.out p8 s8)
              clear r8 b8 p8 s8 HX
              go_wp2
              go_end0
              exact FF.out
            · have ysm : (s : Int) < (m : Int) := by omega
              have yme : (m : Int) < (e : Int) := by omega
              have yas : ¬ (a : Int) < (s : Int) := by omega
              have yMe : (M : Int) < (e : Int) := by omega
              have yeb : ¬ (e : Int) < (b : Int) := by omega
              have X := rotate_any hR.out s m e (by omega) (by omega) (by omega) hn
              rw [← HF1.out] at X
              have HX := hide X
              clear X hE
              go_wp2_with fail
              refine HX.out.mono ?_
              rintro _ w4 ⟨rfl, r4, b4, p4⟩
              have R4 := hide r4
              have B4 := hide (hB.out.trans b4)
              have P4 := hide (p4.mono (c := a) (d := b) (by have := HE.out; omega) (by have := HE.out; omega))
              clear r4 b4 p4 HX
              have R6 := hide R4.out
              have B6 := hide B4.out
              have P6 : Hid (Pm a M f1 f1) := Pm.refl _ _ _
              have S6 : Hid (Srt f1 a M) := HV.out.1.srt_l (by have := HE.out; omega)
              have T2 := hide (HV.out.2.1.congr (g := f1) (fun x g1 g2 => P6.out.out (by omega)) (by have := HE.out; omega) (by have := HE.out; omega))
              have FF := hide (FIN.out _ f1 f1 R6.out B6.out P4.out P6.out S6.out (Pm.refl _ _ _) (T2.out.srt_l (by have := HE.out; omega)))
              go_wp2
              go_end0
              exact FF.out

end Go.Proofs.Ytglbobobifejmaa
