
/-
  Next.
-/
import Derived.Test.YtglbobobifejmaaQW3
namespace Go.Proofs.Ytglbobobifejmaa
open Go.RowKit

/-- the least first tick of the first k slots -/
def NextIs (SL : Nat → List (Int × Int)) (k : Nat) (r : Option Int) : Prop :=
  (r = none → ∀ s, s < k → SL s = []) ∧ ∀ x, r = some x → (∃ s p, s < k ∧ (SL s)[0]? = some p ∧ p.2 = x) ∧ ∀ s p, s < k → (SL s)[0]? = some p → x ≤ p.2
theorem NextIs.skip {SL : Nat → List (Int × Int)} {k : Nat} {r : Option Int} (h : NextIs SL k r) (e : SL k = []) : NextIs SL (k + 1) r := by
  refine ⟨fun hr s hs => ?_, fun x hx => ⟨?_, fun s p hs hp => ?_⟩⟩
  · by_cases e2 : s = k
    · rw [e2]; exact e
    · exact h.1 hr s (by omega)
  · obtain ⟨s, p, h1, h2⟩ := (h.2 x hx).1
    exact ⟨s, p, by omega, h2⟩
  · by_cases e2 : s = k
    · rw [e2, e] at hp; simp at hp
    · exact (h.2 x hx).2 s p (by omega) hp
theorem NextIs.take {SL : Nat → List (Int × Int)} {k : Nat} {r : Option Int} (h : NextIs SL k r) {p : Int × Int} (hp : (SL k)[0]? = some p) (hx : ∀ x, r = some x → p.2 < x) : NextIs SL (k + 1) (some p.2) := by
  refine ⟨fun e => (by cases e), fun x e => ?_⟩
  cases e
  refine ⟨⟨k, p, by omega, hp, rfl⟩, fun s q hs hq => ?_⟩
  by_cases e2 : s = k
  · rw [e2, hp] at hq; rw [Option.some.inj hq]; exact Int.le_refl _
  · cases r with
    | none => rw [h.1 rfl s (by omega)] at hq; simp at hq
    | some x => have h1 := (h.2 x rfl).2 s q (by omega) hq; have h2 := hx x rfl; omega
theorem NextIs.keep {SL : Nat → List (Int × Int)} {k : Nat} {x : Int} (h : NextIs SL k (some x)) {p : Int × Int} (hp : (SL k)[0]? = some p) (hx : ¬ p.2 < x) : NextIs SL (k + 1) (some x) := by
  refine ⟨fun e => (by cases e), fun y e => ?_⟩
  cases e
  obtain ⟨⟨s, q, h1, h2⟩, h3⟩ := h.2 x rfl
  refine ⟨⟨s, q, by omega, h2⟩, fun s q hs hq => ?_⟩
  by_cases e2 : s = k
  · rw [e2, hp] at hq; rw [← Option.some.inj hq]; omega
  · exact h3 s q (by omega) hq

section
variable {ρ : Nat → Nat} {w : World} {b : Nat} {now : Int} {V : Nat → Value} {SL : Nat → List (Int × Int)}
set_option maxRecDepth 100000 in
set_option maxHeartbeats 4000000 in
theorem wNext_any (h : WhAt ρ w b now V SL) : Calls Try.prog 20 #[.pointer (some ⟨b, 0, none⟩)] w fun e w' => ∃ r, e = .returned (.tuple #[.int .i64 (r.getD 0), .bool r.isSome]) ∧ NextIs SL 64 r ∧ w' = w := by
  have H := hide h
  have RG := hide h.range
  have IX : Hid (∀ s : Nat, s < 64 → ∀ w, (Instr.index 55 (.agg (slotsOf V).toArray) (.int .i64 (s : Int))).run Try.prog w = .ok (V s) w) := fun s hs w => index_run V s hs h.slices w
  have LN := hide (slots_len V)
  clear h
  generalize slotsOf V = cs at *
  go_enter Try.func20, Try.ntmps20
  go_wp2_with (refine wpList_load_mid rfl _ _ rfl b 1 rfl cs _ RG.out arr_u rfl (by rw [LN.out]; exact arr_i) ?_)
  go_loopw [4, 5, 12] (fun v4 v5 u wr => ∃ (k : Nat) (x : Int) (i : Bool), v4 = .int .i64 x ∧ v5 = .bool i ∧ u = .int .i64 (k : Int) ∧ k ≤ 64 ∧ Hid (wr = w) ∧ Hid ((i = false → x = 0) ∧ NextIs SL k (if i = true then some x else none))) (fun _ _ u _ => 64 - (intOf u).toNat)
  case atStart => exact ⟨0, 0, false, rfl, rfl, rfl, by omega, rfl, fun _ => rfl, fun _ s hs => by omega, fun x e => by simp at e⟩
  case round =>
    obtain ⟨k, x, i, rfl, rfl, rfl, hk, hW, hN⟩ := hrel
    have hW := hW.out
    subst hW
    by_cases hlt : k < 64
    · have zk : (k : Int) < 64 := by omega
      have ix := IX.out k hlt
      have hr := H.out.row k hlt
      have hl := H.out.len k hlt
      obtain ⟨a, c, e, hg⟩ := hr.shape
      have HR := hide hr
      rw [e] at ix HR
      clear e hr
      by_cases h0 : (SL k).length = 0
      · have hnil : SL k = [] := List.eq_nil_of_length_eq_zero h0
        have NN := hide (hN.out.2.skip hnil)
        have X0 := hide hN.out.1
        rw [h0] at ix
        clear hnil h0
        go_wp2
        go_roundw
        case rel => exact ⟨k + 1, x, i, rfl, rfl, by go_num, by omega, trivial, X0.out, NN.out⟩
        case measure => simp [intOf]; omega
      · obtain ⟨p, hp⟩ : ∃ p, (SL k)[0]? = some p := ⟨_, List.getElem?_eq_getElem (by omega)⟩
        obtain ⟨g, rfl⟩ := hg (by omega)
        have c1 := (HR.out.at hp).2
        obtain ⟨p0, p1⟩ := p
        simp only at c1
        have z0 : (0 : Int) < ((SL k).length : Int) := by omega
        have HP := hide hp
        clear hp hg h0
        cases i with
        | false =>
          have NN := hide (NextIs.take hN.out.2 HP.out (fun y e => by simp at e))
          go_wp2
          go_roundw
          case rel => exact ⟨k + 1, p1, true, rfl, rfl, by go_num, by omega, trivial, (fun e => by cases e), NN.out⟩
          case measure => simp [intOf]; omega
        | true =>
          by_cases hx : p1 < x
          · have NN := hide (NextIs.take hN.out.2 HP.out (fun y e => by simp at e; rw [← e]; exact hx))
            go_wp2
            go_roundw
            case rel => exact ⟨k + 1, p1, true, rfl, rfl, by go_num, by omega, trivial, (fun e => by cases e), NN.out⟩
            case measure => simp [intOf]; omega
          · have NN := hide (NextIs.keep hN.out.2 HP.out hx)
            go_wp2
            go_roundw
            case rel => exact ⟨k + 1, x, true, rfl, rfl, by go_num, by omega, trivial, (fun e => by cases e), NN.out⟩
            case measure => simp [intOf]; omega
    · obtain rfl : k = 64 := by omega
      go_wp2
      refine bodyPost_ret (v := .tuple #[.int .i64 x, .bool i]) (by simp [results, asAddr, go_sem]) rfl ?_
      cases i with
      | false => exact ⟨none, by rw [hN.out.1 rfl]; rfl, hN.out.2, rfl⟩
      | true => exact ⟨some x, rfl, hN.out.2, rfl⟩
end
end Go.Proofs.Ytglbobobifejmaa
