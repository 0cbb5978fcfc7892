
/-
  Arm, Cancel, Len by the timers in the order in which they were armed.
-/
import Derived.Test.YtglbobobifejmaaQR2
import Derived.Deep.DeepCutAuto
namespace Go.Proofs.Ytglbobobifejmaa
open Go.RowKit

/-- a wheel that holds the timers L -/
def Wh (ρ : Nat → Nat) (w : World) (b : Nat) (now : Int) (L : List (Int × Int)) : Prop := ∃ V SL, WhAt ρ w b now V SL ∧ Rel L SL ∧ L.length ≤ 64
/-- what a call leaves -/
def WEnd (ρ : Nat → Nat) (w : World) (b : Nat) (now : Int) (L : List (Int × Int)) (w' : World) : Prop := ∃ ρ', Wh ρ' w' b now L ∧ Ext ρ ρ' w.heap.size ∧ But (fun g => ρ g ≠ 0) w w'

def has (L : List (Int × Int)) (id : Int) : Bool := L.any (fun p => decide (p.1 = id))
theorem has_no {L : List (Int × Int)} {id : Int} (h : ∀ p ∈ L, p.1 ≠ id) : has L id = false := by
  unfold has; rw [List.any_eq_false]; exact fun p hp => by simpa using h p hp
theorem has_yes {L : List (Int × Int)} {id t : Int} (h : (id, t) ∈ L) : has L id = true := by
  unfold has; rw [List.any_eq_true]; exact ⟨_, h, by simp⟩
def noId (L : List (Int × Int)) (id : Int) : List (Int × Int) := L.filter (fun p => decide (p.1 ≠ id))
def arBad (now id t : Int) : Bool := decide (id < 0) || decide (t ≤ now) || decide (1099511627776 < t)
def arE (now : Int) (L : List (Int × Int)) (id t : Int) : Int := if arBad now id t = true then 1 else if has L id = false ∧ L.length = 64 then 6 else 0
def arL (now : Int) (L : List (Int × Int)) (id t : Int) : List (Int × Int) := if arE now L id t = 0 then noId L id ++ [(id, t)] else L

section
variable {ρ : Nat → Nat} {w : World} {b : Nat} {now : Int} {L : List (Int × Int)}
theorem cancel_any (h : Wh ρ w b now L) (id : Int) : Calls Try.prog 13 #[.pointer (some ⟨b, 0, none⟩), .int .i64 id] w fun e w' => e = .returned (.int .i64 (if has L id = true then 0 else 7)) ∧ Wh ρ w' b now (noId L id) ∧ But (fun g => ρ g ≠ 0) w w' := by
  obtain ⟨V, SL, hW, hR, hl⟩ := h
  refine (wCancel_any hW id).mono ?_
  rintro e w' (⟨rfl, hn, ⟨V', hW'⟩, hb⟩ | ⟨s, j, t, rfl, hs, hj, ⟨V', hW'⟩, hb⟩)
  · have hn' := hR.none hn
    refine ⟨by rw [has_no hn', if_neg (by simp)], ⟨V', SL, hW', ?_, ?_⟩, hb⟩
    · unfold noId; rw [filter_same hn']; exact hR
    · unfold noId; rw [filter_same hn']; exact hl
  · have hm := hR.of_slot hs (List.mem_of_getElem? hj)
    refine ⟨by rw [has_yes hm, if_pos rfl], ⟨V', _, hW', hR.cancel hs hj, ?_⟩, hb⟩
    have := filter_len hR.uniq hm
    unfold noId
    omega
theorem len_any (h : Wh ρ w b now L) : Calls Try.prog 23 #[.pointer (some ⟨b, 0, none⟩)] w fun e w' => e = .returned (.int .i64 (L.length : Int)) ∧ w' = w := by
  obtain ⟨V, SL, hW, hR, _⟩ := h
  refine (wLen_any hW).mono ?_
  rintro e w' ⟨rfl, rfl⟩
  exact ⟨by rw [hR.count], rfl⟩
theorem addl_any (h : Wh ρ w b now L) (id t : Int) (ht : 0 ≤ t) (hn : ∀ p ∈ L, p.1 ≠ id) (hl : L.length < 64) : Calls Try.prog 24 #[.pointer (some ⟨b, 1 + (t % 64).toNat, none⟩), .agg #[.int .i64 id, .int .i64 t]] w fun e w' => e = .returned (.tuple #[]) ∧ WEnd ρ w b now (L ++ [(id, t)]) w' := by
  obtain ⟨V, SL, hW, hR, _⟩ := h
  have s64 := t64 t ht
  refine (add_any hW (t % 64).toNat s64 id t (by have := len_le_tot SL 64 _ s64; have := hR.count; omega)).mono ?_
  rintro e w' ⟨rfl, ρ', V', hW', hρ, hb⟩
  exact ⟨rfl, ρ', ⟨V', _, hW', hR.arm id t ht hn, by rw [List.length_append]; simp; omega⟩, hρ, hb⟩
theorem noId_none (L : List (Int × Int)) (id : Int) : ∀ p ∈ noId L id, p.1 ≠ id := fun p hp => by
  have := (List.mem_filter.1 hp).2
  simpa using this

set_option maxRecDepth 100000 in
set_option maxHeartbeats 4000000 in
theorem arm_any (h : Wh ρ w b now L) (h0 : 0 ≤ now) (id t : Int) : Calls Try.prog 11 #[.pointer (some ⟨b, 0, none⟩), .int .i64 id, .int .i64 t] w fun e w' => e = .returned (.int .i64 (arE now L id t)) ∧ WEnd ρ w b now (arL now L id t) w' := by
  have c0 : w.cell? ⟨b, 0, none⟩ = some (.int .i64 now) := by obtain ⟨V, SL, hW, _⟩ := h; exact hW.now
  have H := hide h
  have CA := hide (cancel_any h id)
  have hl : L.length ≤ 64 := by obtain ⟨_, _, _, _, hl⟩ := h; exact hl
  have HL : Hid (L.length ≤ 64 ∧ 0 ≤ now) := ⟨hl, h0⟩
  obtain ⟨bd, hbd⟩ : ∃ B, arBad now id t = B := ⟨_, rfl⟩
  have EB := hide hbd
  have BB := hide (show bd = (decide (id < 0) || decide (t ≤ now) || decide (1099511627776 < t)) from hbd.symm)
  clear h hl h0 hbd
  go_enter Try.func11, Try.ntmps11
  go_upto_region 1 with fail
  go_cut [20] (fun c wc => c = .bool bd ∧ w = wc)
  case first =>
    by_cases h1 : id < 0
    · go_wp2
      go_meet
      case rel => exact ⟨by rw [BB.out, decide_eq_true h1]; simp, rfl⟩
    · by_cases h2 : t ≤ now
      · go_wp2
        go_meet
        case rel => exact ⟨by rw [BB.out, decide_eq_true h2]; simp, rfl⟩
      · go_wp2
        go_meet
        case rel => exact ⟨by rw [BB.out, decide_eq_false (show ¬ id < 0 by omega), decide_eq_false (show ¬ t ≤ now by omega)]; simp, rfl⟩
  case rest =>
    obtain ⟨rfl, hw⟩ := hcut
    subst hw
    cases bd
    · have E1 : Hid (arE now L id t = if has L id = false ∧ L.length = 64 then 6 else 0) := by show _ = _; rw [arE, EB.out, if_neg (by simp)]
      have ht : 0 ≤ t := by
        have h1 := BB.out
        have h2 := HL.out.2
        simp only [Bool.false_eq, Bool.or_eq_false_iff, decide_eq_false_iff_not] at h1
        omega
      go_wp2_with fail
      refine CA.out.mono ?_
      rintro e w1 ⟨rfl, h1, b1⟩
      generalize (if has L id = true then (0 : Int) else 7) = ce
      have LN := hide (len_any h1)
      have H1 := hide h1
      have B1 := hide b1
      clear h1 b1 CA
      go_wp2_with fail
      refine LN.out.mono ?_
      rintro e w2 ⟨rfl, rfl⟩
      clear LN
      by_cases hf : (noId L id).length = 64
      · have hf2 : (((noId L id).length : Int) == 64) = true := by rw [hf]; rfl
        have e1 : noId L id = L := by
          have : (noId L id).length = L.length := by
            have h1 := List.length_filter_le (fun p : Int × Int => decide (p.1 ≠ id)) L
            have h2 := HL.out.1
            unfold noId at hf ⊢
            omega
          exact List.Sublist.eq_of_length (List.filter_sublist) this
        have e2 : has L id = false := has_no (fun p hp => noId_none L id p (by rw [e1]; exact hp))
        have e3 : arE now L id t = 6 := by rw [E1.out, if_pos ⟨e2, by rw [← e1]; exact hf⟩]
        have FIN : Hid (Ending.returned (.int .i64 6) = .returned (.int .i64 (arE now L id t)) ∧ WEnd ρ w b now (arL now L id t) w2) := by
          refine ⟨by rw [e3], ρ, ?_, Ext.refl _ _, B1.out⟩
          rw [arL, e3, if_neg (by decide), ← e1]
          exact H1.out
        clear e1 e2 e3 hf
        go_wp2
        go_ret
        exact FIN.out
      · have hf2 : (((noId L id).length : Int) == 64) = false := by rw [beq_eq_false_iff_ne]; omega
        have e3 : arE now L id t = 0 := by
          rw [E1.out, if_neg]
          rintro ⟨h1, h2⟩
          apply hf
          have : noId L id = L := filter_same (fun p hp => by
            have := List.any_eq_false.1 h1 p hp
            simpa using this)
          rw [this]; exact h2
        have hlt : (noId L id).length < 64 := by
          have h1 := List.length_filter_le (fun p : Int × Int => decide (p.1 ≠ id)) L
          have h2 := HL.out.1
          unfold noId at hf ⊢
          omega
        have AD := hide (addl_any H1.out id t ht (noId_none L id) hlt)
        obtain ⟨s, hs⟩ : ∃ s, (t % 64).toNat = s := ⟨_, rfl⟩
        rw [hs] at AD
        have hs2 : t % 64 = (s : Int) := by omega
        have hs3 : (s : Int) < 64 := by omega
        have hs4 : (0 : Int) ≤ (s : Int) := by omega
        have FIN : Hid (∀ w', WEnd ρ w2 b now (noId L id ++ [(id, t)]) w' → (Ending.returned (.int .i64 0) = .returned (.int .i64 (arE now L id t)) ∧ WEnd ρ w b now (arL now L id t) w')) := fun w' hw' => by
          obtain ⟨ρ', k1, k2, k3⟩ := hw'
          refine ⟨by rw [e3], ρ', ?_, k2.mono B1.out.size, B1.out.trans k3⟩
          rw [arL, e3, if_pos rfl]
          exact k1
        clear hf e3 hlt hs
        go_wp2_with fail
        refine AD.out.mono ?_
        rintro e w3 ⟨rfl, hE⟩
        have E3 := hide (FIN.out w3 hE)
        clear hE FIN AD
        go_wp2
        go_ret
        exact E3.out
    · have FIN : Hid (Ending.returned (.int .i64 1) = .returned (.int .i64 (arE now L id t)) ∧ WEnd ρ w b now (arL now L id t) w) := by
        have e3 : arE now L id t = 1 := by rw [arE, EB.out, if_pos rfl]
        refine ⟨by rw [e3], ρ, ?_, Ext.refl _ _, But.refl _ _⟩
        rw [arL, e3, if_neg (by decide)]
        exact H.out
      go_wp2
      go_ret
      exact FIN.out
end
end Go.Proofs.Ytglbobobifejmaa
