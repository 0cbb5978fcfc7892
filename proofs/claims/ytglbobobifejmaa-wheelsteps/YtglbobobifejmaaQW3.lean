
/-
  Due.
-/
import Derived.Test.YtglbobobifejmaaQW2
namespace Go.Proofs.Ytglbobobifejmaa
open Go.RowKit

/-- what Due tells: the tick of a timer of that number, or that there is none -/
def DueIs (SL : Nat → List (Int × Int)) (id : Int) (r : Option Int) : Prop :=
  (r = none → ∀ s, s < 64 → ∀ p ∈ SL s, p.1 ≠ id) ∧ ∀ x, r = some x → ∃ s, s < 64 ∧ (id, x) ∈ SL s
theorem fnd_no {l : List (Int × Int)} {x : Int} (h : ¬ 0 ≤ fnd l x) : ∀ p ∈ l, p.1 ≠ x := by
  unfold fnd idx at h
  split at h
  · omega
  · rename_i e
    intro p hp hx
    have := List.findIdx?_eq_none_iff.1 e p hp
    simp [hx] at this
theorem fnd_yes {l : List (Int × Int)} {x : Int} (h : 0 ≤ fnd l x) : ∃ (k : Nat) (t : Int), fnd l x = (k : Int) ∧ l[k]? = some (x, t) := by
  unfold fnd idx at h ⊢
  split at h
  · rename_i k e
    obtain ⟨hk, hp, _⟩ := List.findIdx?_eq_some_iff_getElem.1 e
    have hp : (l[k]).1 = x := by simpa using hp
    refine ⟨k, (l[k]).2, rfl, ?_⟩
    rw [List.getElem?_eq_getElem hk, ← hp]
  · omega

section
variable {ρ : Nat → Nat} {w : World} {b : Nat} {now : Int} {V : Nat → Value} {SL : Nat → List (Int × Int)}
set_option maxRecDepth 100000 in
set_option maxHeartbeats 4000000 in
theorem wDue_any (h : WhAt ρ w b now V SL) (id : Int) : Calls Try.prog 15 #[.pointer (some ⟨b, 0, none⟩), .int .i64 id] w fun e w' => ∃ r, e = .returned (.tuple #[.int .i64 (r.getD 0), .bool r.isSome]) ∧ DueIs SL id r ∧ Below w.heap.size w w' := by
  have H := hide h
  have RG := hide h.range
  have IX : Hid (∀ s : Nat, s < 64 → ∀ w, (Instr.index 55 (.agg (slotsOf V).toArray) (.int .i64 (s : Int))).run Try.prog w = .ok (V s) w) := fun s hs w => index_run V s hs h.slices w
  have LN := hide (slots_len V)
  clear h
  generalize slotsOf V = cs at *
  go_enter Try.func15, Try.ntmps15
  go_wp2_with (refine wpList_load_mid rfl _ _ rfl b 1 rfl cs _ RG.out arr_u rfl (by rw [LN.out]; exact arr_i) ?_)
  go_loopw [13] (fun u wr => ∃ (k : Nat), u = .int .i64 (k : Int) ∧ k ≤ 64 ∧ Hid (Below w.heap.size w wr) ∧ Hid (∀ s, s < k → ∀ p ∈ SL s, p.1 ≠ id)) (fun u _ => 64 - (intOf u).toNat)
  case atStart => exact ⟨0, rfl, by omega, Below.refl _ _, fun s hs => by omega⟩
  case round =>
    obtain ⟨k, rfl, hk, hB, hN⟩ := hrel
    by_cases hlt : k < 64
    · have zk : (k : Int) < 64 := by omega
      have ix := IX.out k hlt
      have hr := (H.out.later hB.out).row k hlt
      have hl := H.out.len k hlt
      have X := hide (find_any hr (by omega) id)
      obtain ⟨a, c, e, hg⟩ := hr.shape
      have HR := hide hr
      rw [e] at ix X HR
      clear e hr
      go_wp2_with fail
      refine X.out.mono ?_
      rintro _ w3 ⟨rfl, hb3⟩
      have B3 := hide (hB.out.trans (hb3.mono hB.out.size))
      have R3 := hide (HR.out.later hb3)
      clear hb3 X ix
      by_cases hf : 0 ≤ fnd (SL k) id
      · obtain ⟨j, t, ej, hj⟩ := fnd_yes hf
        have hjl := (List.getElem?_eq_some_iff.1 hj).1
        obtain ⟨g, rfl⟩ := hg (by omega)
        have c1 := (R3.out.at hj).2
        simp only at c1
        rw [ej]
        have zj : (j : Int) < ((SL k).length : Int) := by omega
        have HJ : Hid (DueIs SL id (some t)) := ⟨fun e => (by cases e), fun x e => ⟨k, hlt, by cases e; exact List.mem_of_getElem? hj⟩⟩
        clear hf ej hj hg
        go_wp2
        refine bodyPost_ret (v := .tuple #[.int .i64 t, .bool true]) (by simp [results, asAddr, go_sem]) rfl ?_
        exact ⟨some t, rfl, HJ.out, B3.out⟩
      · have HNF := hide (fnd_no hf)
        generalize fnd (SL k) id = ff at *
        have zf : ¬ (0 : Int) ≤ ff := hf
        go_wp2
        go_roundw
        case rel => exact ⟨k + 1, by go_num, by omega, B3.out, fun s hs => by
          by_cases e : s = k
          · rw [e]; exact HNF.out
          · exact hN.out s (by omega)⟩
        case measure => simp [intOf]; omega
    · obtain rfl : k = 64 := by omega
      have HJ : Hid (DueIs SL id none) := ⟨fun _ => hN.out, fun x e => (by cases e)⟩
      go_wp2
      refine bodyPost_ret (v := .tuple #[.int .i64 0, .bool false]) (by simp [results, asAddr, go_sem]) rfl ?_
      exact ⟨none, rfl, HJ.out, hB.out⟩
end
end Go.Proofs.Ytglbobobifejmaa
