
/-
  symMergeCmpFunc: one on the right.
-/
import Derived.Test.YtglbobobifejmaaQ6
namespace Go.Proofs.Ytglbobobifejmaa
open Go.RowKit

set_option maxRecDepth 100000 in
set_option maxHeartbeats 8000000 in
theorem symB_any {B g n cap : Nat} {w : World} {f : Nat → Tg} (h : RowT B w g n cap f) (a m b : Nat) (ham : a + 1 < m) (hmb : b = m + 1) (hb : b ≤ n) (hn : n ≤ 1000000) (h2 : Two f a m b) :
    Calls Try.prog 40 #[.slice (some ⟨g, 0, none⟩) n cap, .int .i64 (a : Int), .int .i64 (m : Int), .int .i64 (b : Int), .func (.func 30) #[] #[]] w fun e w' => e = .returned (.tuple #[]) ∧ ∃ f', RowT B w' g n cap f' ∧ But (Only g) w w' ∧ Pm a b f f' ∧ Srt f' a b := by
  have H := hide h
  have H2 := hide h2
  have e1 : ((m : Int) - (a : Int) == 1) = false := by simp; omega
  have e2 : (b : Int) - (m : Int) = 1 := by omega
  have z2 : (a : Int) < (m : Int) := by omega
  have z3 : (b : Int) ≤ (n : Int) := by omega
  have z4 : (n : Int) ≤ 1000000 := by omega
  have HMB := hide hmb
  have lP : m < n := by omega
  clear h h2 hmb
  go_enter Try.func40, Try.ntmps40
  go_wp2
  go_loopw [14, 15] (fun v u wr => ∃ (i j : Nat), v = .int .i64 (i : Int) ∧ u = .int .i64 (j : Int) ∧ a ≤ i ∧ i ≤ j ∧ j ≤ m ∧ Hid (RowT B wr g n cap f) ∧ Hid (But (Only g) w wr) ∧ Hid (∀ x, a ≤ x → x < i → (f x).lt (f m)) ∧ Hid (∀ x, j ≤ x → x < m → (f m).lt (f x))) (fun v u _ => (intOf u).toNat - (intOf v).toNat)
  case atStart => exact ⟨a, m, rfl, rfl, by omega, by omega, by omega, H.out, But.refl _ _, fun x h1 h2 => by omega, fun x h1 h2 => by omega⟩
  case round =>
    obtain ⟨i, j, rfl, rfl, hi, hij, hj, hR, hB, hL, hU⟩ := hrel
    clear H
    by_cases hlt : i < j
    · have zi : (i : Int) < (j : Int) := by omega
      have zj : (j : Int) ≤ (m : Int) := by omega
      go_upto_region 17 with fail
      obtain ⟨hh, hhe⟩ : ∃ hh, hh = (i + j) / 2 := ⟨_, rfl⟩
      rw [show ((i : Int) + (j : Int)) / 2 = (hh : Int) by omega]
      have lQ : hh < n := by omega
      have HH : Hid (i ≤ hh ∧ hh < j) := by unfold Hid; omega
      have zh : (i : Int) ≤ (hh : Int) := by omega
      have zh2 : (hh : Int) < (j : Int) := by omega
      clear hhe
      obtain ⟨x0, hx0⟩ : ∃ x, x = (f m).id := ⟨_, rfl⟩
      obtain ⟨x1, hx1⟩ : ∃ x, x = (f m).tm := ⟨_, rfl⟩
      obtain ⟨y0, hy0⟩ : ∃ x, x = (f hh).id := ⟨_, rfl⟩
      obtain ⟨y1, hy1⟩ : ∃ x, x = (f hh).tm := ⟨_, rfl⟩
      have c0 := hR.out.c0 (i := m) lP
      have c1 := hR.out.c1 (i := m) lP
      have d0 := hR.out.c0 (i := hh) lQ
      have d1 := hR.out.c1 (i := hh) lQ
      rw [← hx0] at c0
      rw [← hx1] at c1
      rw [← hy0] at d0
      rw [← hy1] at d1
      have KS : Hid (∀ W, Below wr.heap.size wr W → W.cell? ⟨g, m * 2, none⟩ = some (.int .i64 x0) ∧ W.cell? ⟨g, m * 2 + 1, none⟩ = some (.int .i64 x1) ∧ W.cell? ⟨g, hh * 2, none⟩ = some (.int .i64 y0) ∧ W.cell? ⟨g, hh * 2 + 1, none⟩ = some (.int .i64 y1)) := fun W hb' =>
        have lt := World.block_lt_of_cell? wr _ c0
        ⟨(hb'.cell (p := ⟨g, m * 2, none⟩) lt).trans c0, (hb'.cell (p := ⟨g, m * 2 + 1, none⟩) lt).trans c1, (hb'.cell (p := ⟨g, hh * 2, none⟩) lt).trans d0, (hb'.cell (p := ⟨g, hh * 2 + 1, none⟩) lt).trans d1⟩
      have q2 : Below wr.heap.size wr wr.drew := ⟨rfl, rfl, rfl, Nat.le_refl _, fun _ _ => rfl⟩
      have HX1 := hide hx1
      have HY1 := hide hy1
      have zP : (m : Int) < (n : Int) := by omega
      have zQ : (hh : Int) < (n : Int) := by omega
      clear hx0 hx1 hy0 hy1 c0 c1 d0 d1
      go_region_held (fun W => W.cell? ⟨g, m * 2, none⟩ = some (.int .i64 x0) ∧ W.cell? ⟨g, m * 2 + 1, none⟩ = some (.int .i64 x1) ∧ W.cell? ⟨g, hh * 2, none⟩ = some (.int .i64 y0) ∧ W.cell? ⟨g, hh * 2 + 1, none⟩ = some (.int .i64 y1)) (exact KS.out _ (by assumption))
        (first
          | (go_at_call 30; refine (byTick_any _ _ _ _ _).mono ?_; rintro e w3 ⟨rfl, hb3⟩; have q3 : Below wr.heap.size wr w3 := q2.trans hb3; clear hb3))
      have R3 := hide (hR.out.later q3)
      have B3 := hide (hB.out.trans (But.of_below q3))
      clear q2 q3 KS
      by_cases hc : x1 < y1
      · have g2 := cm_neg.2 hc
        generalize cm x1 y1 = cc at *
        have g7 : (!decide (cc < 0)) = false := by simp [g2]
        rw [g7]
        clear g7
        go_wp2
        go_roundw
        case rel => exact ⟨i, hh, rfl, rfl, hi, by have := HH.out; omega, by have := HH.out; omega, R3.out, B3.out, hL.out, fun x h1 h2 => lt_of_lt_le (Or.inl (by rw [← HX1.out, ← HY1.out]; exact hc)) (H2.out.l.le (i := hh) (by have := HH.out; omega) h1 h2)⟩
        case measure => have := HH.out; simp [intOf]; omega
      · have g2 : ¬ cm x1 y1 < 0 := fun e => hc (cm_neg.1 e)
        have g3 : decide (cm x1 y1 < 0) = false := decide_eq_false g2
        generalize cm x1 y1 = cc at *
        have g7 : (!decide (cc < 0)) = true := by simp [g3]
        rw [g7]
        clear g7
        go_wp2
        go_roundw
        case rel => exact ⟨hh + 1, j, by go_num, rfl, by have := HH.out; omega, by have := HH.out; omega, hj, R3.out, B3.out, fun x h1 h2 => lt_of_le_lt (H2.out.l.le h1 (j := hh) (by omega) (by have := HH.out; omega)) (H2.out.lt (by have := HH.out; omega) (by have := HH.out; omega) (Nat.le_refl _) (by have := HMB.out; omega) (by rw [← HX1.out, ← HY1.out]; exact hc)), hU.out⟩
        case measure => have := HH.out; simp [intOf]; omega
    · obtain rfl : i = j := by omega
      have zi : (a : Int) ≤ (i : Int) := by omega
      have zi2 : (i : Int) ≤ (m : Int) := by omega
      have FIN : Hid (Srt (mvL f m i) a b) := by
        have := mvL_srt H2.out.l hi hj hL.out hU.out
        rw [← HMB.out] at this
        exact this
      clear hL hU
      go_wp2
      go_loopw [17] (fun v wq => ∃ (k : Nat), v = .int .i64 (k : Int) ∧ i ≤ k ∧ k ≤ m ∧ Hid (RowT B wq g n cap (mvL f m k)) ∧ Hid (But (Only g) w wq) ∧ Hid (Pm a b f (mvL f m k))) (fun v _ => (intOf v).toNat)
      case atStart => exact ⟨m, rfl, hj, Nat.le_refl _, by rw [mvL_zero]; exact hR.out, hB.out, by rw [mvL_zero]; exact Pm.refl _ _ _⟩
      case round =>
        obtain ⟨k', rfl, hk1, hk2, hR, hB, hP⟩ := hrel
        by_cases hlt : i < k'
        · obtain ⟨k, rfl⟩ : ∃ k, k' = k + 1 := ⟨k' - 1, by omega⟩
          have zk : (i : Int) < (k : Int) + 1 := by omega
          have lP : k + 1 < n := by omega
          have lQ : k < n := by omega
          have zP : (k : Int) + 1 < (n : Int) := by omega
          have PN : Hid (Pm a b f (mvL f m k)) := by rw [← mvL_succ f m k hk2]; exact hP.out.trans (swp_pm _ (by have := HMB.out; omega) (by have := HMB.out; omega))
          have c0 := hR.out.c0 (i := (k + 1)) lP
          have c1 := hR.out.c1 (i := (k + 1)) lP
          have d0 := hR.out.c0 (i := k) lQ
          have d1 := hR.out.c1 (i := k) lQ
          have f0 := hR.out.fz ((k + 1) * 2)
          have f1 := hR.out.fz ((k + 1) * 2 + 1)
          have f2 := hR.out.fz ((k) * 2)
          have f3 := hR.out.fz ((k) * 2 + 1)
          have n1 : ¬ (k + 1) * 2 = k * 2 + 1 := by omega
          have n2 : ¬ k * 2 + 1 = (k + 1) * 2 := by omega
          have n3 : ¬ (k + 1) * 2 + 1 = k * 2 := by omega
          have n4 : ¬ k * 2 = (k + 1) * 2 + 1 := by omega
          have n5 : ¬ (k + 1) * 2 = k * 2 := by omega
          have n6 : ¬ k * 2 = (k + 1) * 2 := by omega
          have rs := hR.out.swap (i := (k + 1)) (j := k) lP lQ
          rw [mvL_succ f m k hk2] at rs
          generalize (mvL f m (k + 1) (k + 1)).id = x0 at *
          generalize (mvL f m (k + 1) (k + 1)).tm = x1 at *
          generalize (mvL f m (k + 1) (k)).id = y0 at *
          generalize (mvL f m (k + 1) (k)).tm = y1 at *
          have B6 := hide (hB.out.trans (RowT.swapB (w := wr) (g := g) ((k + 1)) (k) (.int .i64 y0) (.int .i64 y1) (.int .i64 x0) (.int .i64 x1)).drew)
          have R6 := hide rs.drew
          clear rs hR hB
          go_upto_region 23 with fail
          go_region
          clear c0 c1 d0 d1 f0 f1 f2 f3
          go_wp2
          go_roundw
          case rel => exact ⟨k, by go_num, by omega, by omega, R6.out, B6.out, PN.out⟩
          case measure => simp [intOf]
        · obtain rfl : k' = i := by omega
          go_wp2
          refine bodyPost_ret (v := .tuple #[]) (results_none rfl _ _ _) rfl ?_
          exact ⟨rfl, _, hR.out, hB.out, hP.out, FIN.out⟩
end Go.Proofs.Ytglbobobifejmaa
