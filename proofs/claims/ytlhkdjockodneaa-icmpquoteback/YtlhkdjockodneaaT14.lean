
/-
  The document's icmp: may.
-/
import Derived.Test.YtlhkdjockodneaaT11
namespace Go.Proofs.Ytlhkdjockodneaa
open Go.RowKit Go.Shelf

theorem mb0 {t c i s u : Int} (he : ech t = true) : mbI t c i s u = true ↔ c = 0 ∧ 0 ≤ i ∧ i ≤ 65535 ∧ 0 ≤ s ∧ s ≤ 65535 ∧ u = 0 := by
  unfold mbI
  rw [if_pos he]
  simp only [Bool.and_eq_true, upB_iff]
  omega
theorem mb3 {c i s u : Int} : mbI 3 c i s u = true ↔ 0 ≤ c ∧ c ≤ 15 ∧ i = 0 ∧ s = 0 ∧ 0 ≤ u ∧ u ≤ 65535 ∧ (c = 4 ∨ u = 0) := by
  unfold mbI
  rw [if_neg (by decide), if_pos rfl]
  split <;> simp only [Bool.and_eq_true, upB_iff] <;> omega
theorem mb11 {c i s u : Int} : mbI 11 c i s u = true ↔ (c = 0 ∨ c = 1) ∧ i = 0 ∧ s = 0 ∧ u = 0 := by
  unfold mbI
  rw [if_neg (by decide), if_neg (by decide), if_pos rfl]
  simp only [Bool.and_eq_true, upB_iff]
  omega
theorem not_of {b : Bool} {P : Prop} (h : b = true ↔ P) (n : ¬ P) : b = false := by
  cases b with
  | false => rfl
  | true => exact absurd (h.1 rfl) n
set_option maxRecDepth 100000 in
set_option maxHeartbeats 8000000 in
theorem rMay_any (t c i s u : Int) (da : Option Addr) (dn dc : Nat) (w : World) : Calls Try.prog 35 #[.agg #[.int .i64 t, .int .i64 c, .int .i64 i, .int .i64 s, .int .i64 u, .slice da dn dc]] w fun e w' => e = .returned (.bool (mbI t c i s u)) ∧ Below w.heap.size w w' := by
  obtain ⟨q, w1, hq, hw1, b1, _, hc, _⟩ := boxI w t c i s u (.slice da dn dc)
  obtain ⟨c0, c1, c2, c3, c4, c5⟩ := imL_cells hc
  have HB := hide b1
  obtain ⟨r, hr⟩ : ∃ r, r = mbI t c i s u := ⟨_, rfl⟩
  rw [← hr]
  have HR := hide hr
  clear b1 hc hr
  go_enter Try.func35, Try.ntmps35
  go_upto_region 1 with fail
  clear hq hw1
  by_cases t0 : t = 0
  · subst t0
    by_cases e0 : c = 0
    · have z0 : (c == 0) = true := by simpa using e0
      by_cases e1 : 0 ≤ i
      · skip
        by_cases e2 : i ≤ 65535
        · skip
          by_cases e3 : 0 ≤ s
          · skip
            by_cases e4 : s ≤ 65535
            · skip
              by_cases e5 : u = 0
              · have z5 : (u == 0) = true := by simpa using e5
                go_wp2
                go_ret
                exact ⟨by rw [HR.out, (mb0 (by decide)).2 (by omega)]; rfl, HB.out⟩
              · have z5 : (u == 0) = false := by simpa using e5
                go_wp2
                go_ret
                exact ⟨by rw [HR.out, not_of (mb0 (by decide)) (by omega)]; rfl, HB.out⟩
            · skip
              go_wp2
              go_ret
              exact ⟨by rw [HR.out, not_of (mb0 (by decide)) (by omega)]; rfl, HB.out⟩
          · skip
            go_wp2
            go_ret
            exact ⟨by rw [HR.out, not_of (mb0 (by decide)) (by omega)]; rfl, HB.out⟩
        · skip
          go_wp2
          go_ret
          exact ⟨by rw [HR.out, not_of (mb0 (by decide)) (by omega)]; rfl, HB.out⟩
      · skip
        go_wp2
        go_ret
        exact ⟨by rw [HR.out, not_of (mb0 (by decide)) (by omega)]; rfl, HB.out⟩
    · have z0 : (c == 0) = false := by simpa using e0
      go_wp2
      go_ret
      exact ⟨by rw [HR.out, not_of (mb0 (by decide)) (by omega)]; rfl, HB.out⟩
  by_cases t8 : t = 8
  · subst t8
    clear t0
    by_cases e0 : c = 0
    · have z0 : (c == 0) = true := by simpa using e0
      by_cases e1 : 0 ≤ i
      · skip
        by_cases e2 : i ≤ 65535
        · skip
          by_cases e3 : 0 ≤ s
          · skip
            by_cases e4 : s ≤ 65535
            · skip
              by_cases e5 : u = 0
              · have z5 : (u == 0) = true := by simpa using e5
                go_wp2
                go_ret
                exact ⟨by rw [HR.out, (mb0 (by decide)).2 (by omega)]; rfl, HB.out⟩
              · have z5 : (u == 0) = false := by simpa using e5
                go_wp2
                go_ret
                exact ⟨by rw [HR.out, not_of (mb0 (by decide)) (by omega)]; rfl, HB.out⟩
            · skip
              go_wp2
              go_ret
              exact ⟨by rw [HR.out, not_of (mb0 (by decide)) (by omega)]; rfl, HB.out⟩
          · skip
            go_wp2
            go_ret
            exact ⟨by rw [HR.out, not_of (mb0 (by decide)) (by omega)]; rfl, HB.out⟩
        · skip
          go_wp2
          go_ret
          exact ⟨by rw [HR.out, not_of (mb0 (by decide)) (by omega)]; rfl, HB.out⟩
      · skip
        go_wp2
        go_ret
        exact ⟨by rw [HR.out, not_of (mb0 (by decide)) (by omega)]; rfl, HB.out⟩
    · have z0 : (c == 0) = false := by simpa using e0
      go_wp2
      go_ret
      exact ⟨by rw [HR.out, not_of (mb0 (by decide)) (by omega)]; rfl, HB.out⟩
  by_cases t3 : t = 3
  · subst t3
    clear t0 t8
    by_cases e0 : 0 ≤ c
    · skip
      by_cases e1 : c ≤ 15
      · skip
        by_cases e2 : i = 0
        · have z2 : (i == 0) = true := by simpa using e2
          by_cases e3 : s = 0
          · have z3 : (s == 0) = true := by simpa using e3
            by_cases e4 : 0 ≤ u
            · skip
              by_cases e5 : u ≤ 65535
              · skip
                by_cases e6 : c = 4
                · have z6 : (c == 4) = true := by simpa using e6
                  go_wp2
                  go_ret
                  exact ⟨by rw [HR.out, mb3.2 (by omega)]; rfl, HB.out⟩
                · have z6 : (c == 4) = false := by simpa using e6
                  by_cases f6 : u = 0
                  · have y6 : (u == 0) = true := by simpa using f6
                    go_wp2
                    go_ret
                    exact ⟨by rw [HR.out, mb3.2 (by omega)]; rfl, HB.out⟩
                  · have y6 : (u == 0) = false := by simpa using f6
                    go_wp2
                    go_ret
                    exact ⟨by rw [HR.out, not_of mb3 (by omega)]; rfl, HB.out⟩
              · skip
                go_wp2
                go_ret
                exact ⟨by rw [HR.out, not_of mb3 (by omega)]; rfl, HB.out⟩
            · skip
              go_wp2
              go_ret
              exact ⟨by rw [HR.out, not_of mb3 (by omega)]; rfl, HB.out⟩
          · have z3 : (s == 0) = false := by simpa using e3
            go_wp2
            go_ret
            exact ⟨by rw [HR.out, not_of mb3 (by omega)]; rfl, HB.out⟩
        · have z2 : (i == 0) = false := by simpa using e2
          go_wp2
          go_ret
          exact ⟨by rw [HR.out, not_of mb3 (by omega)]; rfl, HB.out⟩
      · skip
        go_wp2
        go_ret
        exact ⟨by rw [HR.out, not_of mb3 (by omega)]; rfl, HB.out⟩
    · skip
      go_wp2
      go_ret
      exact ⟨by rw [HR.out, not_of mb3 (by omega)]; rfl, HB.out⟩
  by_cases t11 : t = 11
  · subst t11
    clear t0 t8 t3
    by_cases e0 : c = 0
    · have z0 : (c == 0) = true := by simpa using e0
      by_cases e1 : i = 0
      · have z1 : (i == 0) = true := by simpa using e1
        by_cases e2 : s = 0
        · have z2 : (s == 0) = true := by simpa using e2
          by_cases e3 : u = 0
          · have z3 : (u == 0) = true := by simpa using e3
            go_wp2
            go_ret
            exact ⟨by rw [HR.out, mb11.2 (by omega)]; rfl, HB.out⟩
          · have z3 : (u == 0) = false := by simpa using e3
            go_wp2
            go_ret
            exact ⟨by rw [HR.out, not_of mb11 (by omega)]; rfl, HB.out⟩
        · have z2 : (s == 0) = false := by simpa using e2
          go_wp2
          go_ret
          exact ⟨by rw [HR.out, not_of mb11 (by omega)]; rfl, HB.out⟩
      · have z1 : (i == 0) = false := by simpa using e1
        go_wp2
        go_ret
        exact ⟨by rw [HR.out, not_of mb11 (by omega)]; rfl, HB.out⟩
    · have z0 : (c == 0) = false := by simpa using e0
      by_cases f0 : c = 1
      · have y0 : (c == 1) = true := by simpa using f0
        by_cases e1 : i = 0
        · have z1 : (i == 0) = true := by simpa using e1
          by_cases e2 : s = 0
          · have z2 : (s == 0) = true := by simpa using e2
            by_cases e3 : u = 0
            · have z3 : (u == 0) = true := by simpa using e3
              go_wp2
              go_ret
              exact ⟨by rw [HR.out, mb11.2 (by omega)]; rfl, HB.out⟩
            · have z3 : (u == 0) = false := by simpa using e3
              go_wp2
              go_ret
              exact ⟨by rw [HR.out, not_of mb11 (by omega)]; rfl, HB.out⟩
          · have z2 : (s == 0) = false := by simpa using e2
            go_wp2
            go_ret
            exact ⟨by rw [HR.out, not_of mb11 (by omega)]; rfl, HB.out⟩
        · have z1 : (i == 0) = false := by simpa using e1
          go_wp2
          go_ret
          exact ⟨by rw [HR.out, not_of mb11 (by omega)]; rfl, HB.out⟩
      · have y0 : (c == 1) = false := by simpa using f0
        go_wp2
        go_ret
        exact ⟨by rw [HR.out, not_of mb11 (by omega)]; rfl, HB.out⟩
  · have z0 : (t == 0) = false := by simpa using t0
    have z8 : (t == 8) = false := by simpa using t8
    have z3 : (t == 3) = false := by simpa using t3
    have z11 : (t == 11) = false := by simpa using t11
    have e : Hid (r = false) := by rw [HR.out, mbI, if_neg (by rw [ech_iff]; omega), if_neg t3, if_neg t11]; exact rfl
    clear t0 t8 t3 t11 HR
    go_wp2
    go_ret
    exact ⟨by rw [e.out]; rfl, HB.out⟩
end Go.Proofs.Ytlhkdjockodneaa