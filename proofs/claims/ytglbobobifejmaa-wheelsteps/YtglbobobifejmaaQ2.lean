
/-
  insertionSortCmpFunc.
-/
import Derived.Test.YtglbobobifejmaaQ1
namespace Go.Proofs.Ytglbobobifejmaa
open Go.RowKit

/-- byTick, as it is handed in -/
def BT : Value := .func (.func 30) #[] #[]

/-- between the inner rounds: all but the place j are by rising ticks, what is behind j is above it, and it came last -/
structure Ins (f : Nat → Tg) (a i j : Nat) : Prop where
  rest : ∀ p q, a ≤ p → p < q → q ≤ i → p ≠ j → q ≠ j → (f p).lt (f q)
  up : ∀ q, j < q → q ≤ i → (f j).lt (f q)
  tag : ∀ p, a ≤ p → p ≤ i → p ≠ j → (f p).tag < (f j).tag
theorem Ins.done {f : Nat → Tg} {a i j : Nat} (h : Ins f a i j) (hj : a ≤ j ∧ j ≤ i) (hl : a < j → (f (j - 1)).tm ≤ (f j).tm) : Srt f a (i + 1) := by
  have key : ∀ p, a ≤ p → p < j → (f p).lt (f j) := fun p hp hpj => by
    have h1 : (f (j - 1)).lt (f j) := by
      have := hl (by omega)
      have := h.tag (j - 1) (by omega) (by omega) (by omega)
      unfold Tg.lt; omega
    by_cases e : p = j - 1
    · rw [e]; exact h1
    · exact Tg.lt_trans (h.rest p (j - 1) hp (by omega) (by omega) (by omega) (by omega)) h1
  intro p q hp hpq hq
  by_cases e1 : p = j
  · subst e1; exact h.up q hpq (by omega)
  · by_cases e2 : q = j
    · subst e2; exact key p hp hpq
    · exact h.rest p q hp hpq (by omega) e1 e2
theorem Ins.step {f : Nat → Tg} {a i j : Nat} (h : Ins f a i j) (hj : a < j ∧ j ≤ i) (hl : (f j).tm < (f (j - 1)).tm) : Ins (swp f j (j - 1)) a i (j - 1) := by
  have s1 : swp f j (j - 1) (j - 1) = f j := by unfold swp; rw [if_neg (by omega), if_pos rfl]
  have s2 : swp f j (j - 1) j = f (j - 1) := by unfold swp; rw [if_pos rfl]
  have s3 : ∀ p, p ≠ j → p ≠ j - 1 → swp f j (j - 1) p = f p := fun p h1 h2 => by unfold swp; rw [if_neg h1, if_neg h2]
  have lt : (f j).lt (f (j - 1)) := Or.inl hl
  refine ⟨fun p q hp hpq hq h1 h2 => ?_, fun q hq1 hq2 => ?_, fun p hp1 hp2 h1 => ?_⟩
  · by_cases e1 : p = j
    · subst e1; rw [s2, s3 q (by omega) h2]; exact h.rest (p - 1) q (by omega) (by omega) hq (by omega) (by omega)
    · by_cases e2 : q = j
      · subst e2; rw [s2, s3 p e1 h1]; exact h.rest p (q - 1) hp (by omega) (by omega) e1 (by omega)
      · rw [s3 p e1 h1, s3 q e2 h2]; exact h.rest p q hp hpq hq e1 e2
  · rw [s1]
    by_cases e : q = j
    · rw [e, s2]; exact lt
    · rw [s3 q e (by omega)]; exact h.up q (by omega) hq2
  · rw [s1]
    by_cases e : p = j
    · rw [e, s2]; exact h.tag (j - 1) (by omega) (by omega) (by omega)
    · rw [s3 p e h1]; exact h.tag p hp1 hp2 e

set_option maxRecDepth 100000 in
set_option maxHeartbeats 4000000 in
theorem insertion_any {B g n cap : Nat} {w : World} {f : Nat → Tg} (h : RowT B w g n cap f) (a b : Nat) (hb : b ≤ n) (hab : a ≤ b) (hn : n ≤ 1000000) (ht : ∀ i j, a ≤ i → i < j → j < b → (f i).tag < (f j).tag) :
    Calls Try.prog 39 #[.slice (some ⟨g, 0, none⟩) n cap, .int .i64 (a : Int), .int .i64 (b : Int), .func (.func 30) #[] #[]] w fun e w' => e = .returned (.tuple #[]) ∧ ∃ f', RowT B w' g n cap f' ∧ But (Only g) w w' ∧ Pm a b f f' ∧ Srt f' a b := by
  have H := hide h
  have HT := hide ht
  have za : (a : Int) ≤ 1000000 := by omega
  have zb : (b : Int) ≤ 1000000 := by omega
  have zn : (n : Int) ≤ 1000000 := by omega
  clear h ht
  go_enter Try.func39, Try.ntmps39
  go_wp2
  go_loopw [8] (fun v wr => ∃ (i : Nat) (f1 : Nat → Tg), v = .int .i64 (i : Int) ∧ a + 1 ≤ i ∧ i ≤ b + 1 ∧ Hid (RowT B wr g n cap f1) ∧ Hid (But (Only g) w wr) ∧ Hid (Pm a b f f1) ∧ Hid (i ≤ b ∨ a = b) ∧ Hid (∀ k, i ≤ k → f1 k = f k) ∧ Hid (∀ p, a ≤ p → p < i → p < b → ∃ q, a ≤ q ∧ q < i ∧ q < b ∧ f1 p = f q) ∧ Hid (i ≤ b → Srt f1 a i)) (fun v _ => b + 1 - (intOf v).toNat)
  case atStart => exact ⟨a + 1, f, by go_num, by omega, by omega, H.out, But.refl _ _, Pm.refl _ _ _, (by show _ ∨ _; omega), fun _ _ => rfl, fun p h1 h2 h3 => ⟨p, h1, h2, h3, rfl⟩, fun _ p q h1 h2 h3 => by omega⟩
  case round =>
    obtain ⟨i, f1, rfl, hi1, hi2, hR, hB, hP, hE, hK, hQ, hS⟩ := hrel
    clear H
    by_cases hlt : i < b
    · have zi : (i : Int) < (b : Int) := by omega
      have IN : Hid (Ins f1 a i i) := ⟨fun p q h1 h2 h3 h4 h5 => hS.out (by omega) p q h1 h2 (by omega), fun q h1 h2 => by omega, fun p h1 h2 h3 => by
        obtain ⟨q, q1, q2, q3, e⟩ := hQ.out p h1 (by omega) (by omega)
        rw [e, hK.out i (Nat.le_refl _)]; exact HT.out q i q1 q2 (by omega)⟩
      go_wp2
      go_loopw [9] (fun v wq => ∃ (j : Nat) (f2 : Nat → Tg), v = .int .i64 (j : Int) ∧ a ≤ j ∧ j ≤ i ∧ Hid (RowT B wq g n cap f2) ∧ Hid (But (Only g) w wq) ∧ Hid (Pm a (i + 1) f1 f2) ∧ Hid (Ins f2 a i j)) (fun v _ => (intOf v).toNat)
      case atStart => exact ⟨i, f1, rfl, by omega, by omega, hR.out, hB.out, Pm.refl _ _ _, IN.out⟩
      case round =>
        obtain ⟨j, f2, rfl, hj1, hj2, hR2, hB2, hP2, hI⟩ := hrel
        clear IN
        have DONE : Hid ((a < j → (f2 (j - 1)).tm ≤ (f2 j).tm) → ∀ W, Below wr.heap.size wr W → ∃ (i' : Nat) (f1 : Nat → Tg), Value.int .i64 ((i : Int) + 1) = .int .i64 (i' : Int) ∧ a + 1 ≤ i' ∧ i' ≤ b + 1 ∧ Hid (RowT B W g n cap f1) ∧ Hid (But (Only g) w W) ∧ Hid (Pm a b f f1) ∧ Hid (i' ≤ b ∨ a = b) ∧ Hid (∀ k, i' ≤ k → f1 k = f k) ∧ Hid (∀ p, a ≤ p → p < i' → p < b → ∃ q, a ≤ q ∧ q < i' ∧ q < b ∧ f1 p = f q) ∧ Hid (i' ≤ b → Srt f1 a i')) := fun hl W hb' =>
          ⟨i + 1, f2, by rw [show ((i + 1 : Nat) : Int) = (i : Int) + 1 by omega], by omega, by omega, hR2.out.later hb', hB2.out.trans (But.of_below hb'), hP.out.trans (hP2.out.mono (Nat.le_refl _) (by omega)), .inl (by omega), fun k hk => (hP2.out.out (by omega)).trans (hK.out k (by omega)), fun p h1 h2 h3 => by
            obtain ⟨q, q1, q2, e⟩ := hP2.out.at h1 h2
            by_cases e2 : q = i
            · exact ⟨i, by omega, by omega, by omega, by rw [e, e2]; exact hK.out i (Nat.le_refl _)⟩
            · obtain ⟨r, r1, r2, r3, e3⟩ := hQ.out q q1 (by omega) (by omega)
              exact ⟨r, r1, by omega, r3, e.trans e3⟩, fun _ => hI.out.done ⟨hj1, hj2⟩ hl⟩
        by_cases hja : a < j
        · have zj : (a : Int) < (j : Int) := by omega
          have zj2 : (j : Int) < (b : Int) := by omega
          have zj3 : (j : Int) < (n : Int) := by omega
          obtain ⟨k, rfl⟩ : ∃ k, j = k + 1 := ⟨j - 1, by omega⟩
          have c0 := hR2.out.c0 (i := k) (by omega)
          have c1 := hR2.out.c1 (i := k) (by omega)
          have d0 := hR2.out.c0 (i := k + 1) (by omega)
          have d1 := hR2.out.c1 (i := k + 1) (by omega)
          generalize hx0 : (f2 k).id = x0 at *
          generalize hx1 : (f2 k).tm = x1 at *
          generalize hy0 : (f2 (k + 1)).id = y0 at *
          generalize hy1 : (f2 (k + 1)).tm = y1 at *
          have HX1 := hide hx1
          have HY1 := hide hy1
          have HX0 := hide hx0
          have HY0 := hide hy0
          have KS : Hid (∀ W, Below wr.heap.size wr W → W.cell? ⟨g, k * 2, none⟩ = some (.int .i64 x0) ∧ W.cell? ⟨g, k * 2 + 1, none⟩ = some (.int .i64 x1) ∧ W.cell? ⟨g, (k + 1) * 2, none⟩ = some (.int .i64 y0) ∧ W.cell? ⟨g, (k + 1) * 2 + 1, none⟩ = some (.int .i64 y1)) := fun W hb' =>
            have lt := World.block_lt_of_cell? wr _ c0
            ⟨(hb'.cell (p := ⟨g, k * 2, none⟩) lt).trans c0, (hb'.cell (p := ⟨g, k * 2 + 1, none⟩) lt).trans c1, (hb'.cell (p := ⟨g, (k + 1) * 2, none⟩) lt).trans d0, (hb'.cell (p := ⟨g, (k + 1) * 2 + 1, none⟩) lt).trans d1⟩
          have q2 : Below wr.heap.size wr wr.drew := ⟨rfl, rfl, rfl, Nat.le_refl _, fun _ _ => rfl⟩
          have zk : (a : Int) < (k : Int) + 1 := by omega
          have g1 : decide ((a : Int) < (k : Int) + 1) = true := decide_eq_true zk
          have hk1 : ((k + 1 : Nat) : Int) - 1 = (k : Int) := by omega
          have hk2 : (k : Int) + 1 - 1 = (k : Int) := by omega
          have hk3 : IntKind.i64.wrap (k : Int) = (k : Int) := by simp only [IntKind.wrap, IntKind.signed, IntKind.bits]; simp; omega
          clear hx0 hx1 hy0 hy1 c0 c1 d0 d1
          go_upto_region 4 with fail
          go_region_held (fun W => W.cell? ⟨g, k * 2, none⟩ = some (.int .i64 x0) ∧ W.cell? ⟨g, k * 2 + 1, none⟩ = some (.int .i64 x1) ∧ W.cell? ⟨g, (k + 1) * 2, none⟩ = some (.int .i64 y0) ∧ W.cell? ⟨g, (k + 1) * 2 + 1, none⟩ = some (.int .i64 y1)) (exact KS.out _ (by assumption))
            (first
              | (go_at_call 30; refine (byTick_any _ _ _ _ _).mono ?_; rintro e w3 ⟨rfl, hb3⟩; have q3 : Below wr.heap.size wr w3 := q2.trans hb3; clear hb3))
          all_goals
            obtain ⟨c0, c1, d0, d1⟩ := KS.out _ q3
            have R3 := hide (hR2.out.later q3)
            have B3 := hide (hB2.out.trans (But.of_below q3))
            have Q3 := hide q3
            clear q2 q3 KS
            by_cases hc : y1 < x1
            · have g2 := cm_neg.2 hc
              generalize cm y1 x1 = cc at *
              have f0 := R3.out.fz (k * 2)
              have f1' := R3.out.fz (k * 2 + 1)
              have f2' := R3.out.fz ((k + 1) * 2)
              have f3 := R3.out.fz ((k + 1) * 2 + 1)
              have rs := R3.out.swap (i := k + 1) (j := k) (by omega) (by omega)
              rw [HX0.out, HX1.out, HY0.out, HY1.out] at rs
              have RS := hide rs
              clear rs
              go_upto_region 6 with fail
              go_region
              have B6 := hide (B3.out.trans (RowT.swapB (w := w3) (g := g) (k + 1) k (.int .i64 x0) (.int .i64 x1) (.int .i64 y0) (.int .i64 y1)).drew)
              have R6 : Hid (RowT B (((((w3.setCell ⟨g, (k + 1) * 2, none⟩ (.int .i64 x0)).setCell ⟨g, (k + 1) * 2 + 1, none⟩ (.int .i64 x1)).setCell ⟨g, k * 2, none⟩ (.int .i64 y0)).setCell ⟨g, k * 2 + 1, none⟩ (.int .i64 y1)).drew) g n cap (swp f2 (k + 1) k)) := RS.out.later ⟨rfl, rfl, rfl, Nat.le_refl _, fun _ _ => rfl⟩
              clear c0 c1 d0 d1 f0 f1' f2' f3 RS
              go_wp2
              go_roundw
              case rel => exact ⟨k, swp f2 (k + 1) k, by go_num, by omega, by omega, R6.out, B6.out, hP2.out.trans (swp_pm f2 (by omega) (by omega)), by
                have := hI.out.step ⟨hja, hj2⟩ (by show (f2 (k + 1)).tm < (f2 (k + 1 - 1)).tm; rw [Nat.add_sub_cancel, HX1.out, HY1.out]; exact hc)
                rw [Nat.add_sub_cancel] at this
                exact this⟩
              case measure => simp [intOf]
            · have g2 : ¬ cm y1 x1 < 0 := fun e => hc (cm_neg.1 e)
              have g3 : decide (cm y1 x1 < 0) = false := decide_eq_false g2
              generalize cm y1 x1 = cc at *
              go_wp2
              go_roundw
              case rel => exact DONE.out (fun _ => by rw [Nat.add_sub_cancel, HX1.out]; omega) _ Q3.out
              case measure => simp [intOf]; omega
        · have zj : ¬ (a : Int) < (j : Int) := by omega
          have g1 : decide ((a : Int) < (j : Int)) = false := decide_eq_false zj
          go_upto_region 4 with fail
          go_quiet (fail)
          go_wp2
          go_roundw
          case rel => exact DONE.out (fun e => absurd e hja) _ ⟨rfl, rfl, rfl, Nat.le_refl _, fun _ _ => rfl⟩
          case measure => simp [intOf]; omega
    · have zi : ¬ (i : Int) < (b : Int) := by omega
      go_wp2
      go_end0
      refine ⟨rfl, f1, hR.out, hB.out, hP.out, ?_⟩
      by_cases e : i ≤ b
      · have : i = b := by omega
        rw [← this]; exact hS.out e
      · intro p q h1 h2 h3
        rcases hE.out with h | h <;> omega
end Go.Proofs.Ytglbobobifejmaa
