
/-
  The document's answer for options: Right.
-/
import Derived.Test.YtiglejmmdghmgaaI24
namespace Go.Proofs.Ytiglejmmdghmgaa
open Go.RowKit Go.Shelf

def lenV : Value → Nat
  | .slice _ n _ => n
  | _ => 0
theorem isB_drop {n0 : Nat} {W : World} {g off n c : Nat} {L : List Int} (h : IsB n0 W (.slice (some ⟨g, off, none⟩) n c) L) (k : Nat) (hk : k ≤ L.length) (ad : Option Addr) (had : ad = if c = k then some (⟨g, off, none⟩ : Addr) else some ⟨g, off + k, none⟩) : IsB n0 W (.slice ad (n - k) (c - k)) (L.drop k) := by
  obtain ⟨a', c', e, hl, _, hc⟩ := h
  simp only [Value.slice.injEq] at e
  obtain ⟨rfl, rfl, rfl⟩ := e
  have e : (L.drop k).length = L.length - k := List.length_drop
  refine ⟨ad, c - k, by rw [e], by omega, ?_, fun h0 => ?_⟩
  · intro h; rw [had] at h; split at h <;> cases h
  · obtain ⟨b, o, e1, hb, hcs⟩ := hc (by omega)
    cases e1
    rw [if_neg (by omega)] at had
    refine ⟨g, off + k, had, hb, fun j hj => ?_⟩
    rw [Nat.add_assoc, hcs (k + j) (by omega), List.getElem?_drop]
theorem okO_zero {L : List Int} (h : 0 < L.length) (h0 : nb L 0 = 0) : okO L = L.all (fun x => decide (x = 0)) := by
  have h0' : L[0]?.getD 0 = 0 := h0
  rw [okO_step L h, if_pos h0']
theorem okO_else {L : List Int} (h : 0 < L.length) (h0 : nb L 0 ≠ 0) : okO L = if szO L = 0 then false else okO (L.drop (szO L)) := by
  have h0' : ¬ L[0]?.getD 0 = 0 := h0
  rw [okO_step L h, if_neg h0']
theorem szO_more {L : List Int} (h0 : nb L 0 ≠ 0) (h1 : nb L 0 ≠ 1) : szO L = if L.length < 2 then 0 else if nb L 1 < 2 ∨ (L.length : Int) < nb L 1 then 0 else (nb L 1).toNat := by
  have h0' : ¬ L[0]?.getD 0 = 0 := h0
  have h1' : ¬ L[0]?.getD 0 = 1 := h1
  unfold szO
  rw [if_neg h0', if_neg h1']
  rfl
set_option maxRecDepth 100000 in
set_option maxHeartbeats 4000000 in
theorem rRight_any (v : Value) (bs : List Int) (w : World) (hb : IsB w.heap.size w v bs) (hB : Bytes bs) (hl : (bs.length : Int) ≤ 4611686018427387904) : Calls Try.prog 25 #[v] w fun e w' => e = .returned (.bool (okO bs)) ∧ w' = w := by
  obtain ⟨a, c, rfl, _⟩ := hb.shape
  have HB := hide hb
  have BY := hide hB
  obtain ⟨r, hr⟩ : ∃ r, r = okO bs := ⟨_, rfl⟩
  rw [← hr]
  have HR := hide hr
  clear hr hb hB
  go_enter Try.func25, Try.ntmps25
  go_wp2
  go_loop [0] (fun v0 => ∃ (L : List Int) (n : Nat) (a : Option Addr) (c : Nat), v0 = .slice a n c ∧ n = L.length ∧ n ≤ bs.length ∧ n ≤ c ∧ Hid (IsB w.heap.size w (.slice a n c) L) ∧ Hid (Bytes L) ∧ Hid (r = okO L)) (fun v0 => lenV v0)
  case atStart => exact ⟨bs, bs.length, a, c, rfl, rfl, Nat.le_refl _, by assumption, HB, BY, HR⟩
  case round =>
    obtain ⟨L, n, a1, c1, rfl, hn, hle, hc1, IL, BL, RL⟩ := hrel
    have HN := hide hn
    by_cases hn0 : 0 < n
    · obtain ⟨g, off, rfl, hcs⟩ := isB_cells IL.out (by omega)
      have x0 := hcs 0 (by omega)
      rw [Nat.add_zero] at x0
      obtain ⟨t0, ht0⟩ : ∃ t0, t0 = nb L 0 := ⟨_, rfl⟩
      rw [← ht0] at x0
      have zn : (0 : Int) < (n : Int) := by omega
      by_cases q0 : t0 = 0
      · have RA : Hid (r = L.all (fun x => decide (x = 0))) := by unfold Hid; rw [RL.out]; exact okO_zero (by omega) (by omega)
        have CS := hide hcs
        rw [q0] at x0
        clear q0 ht0 RL BL hcs hn
        go_wp2
        go_loop [3] (fun v3 => ∃ k : Nat, v3 = .int .i64 (k : Int) ∧ k ≤ n ∧ Hid ((L.take k).all (fun x => decide (x = 0)) = true)) (fun v3 => n - (intOf v3).toNat)
        case atStart => exact ⟨0, rfl, by omega, rfl⟩
        case round =>
          obtain ⟨k, rfl, hk, AK⟩ := hrel
          by_cases hkn : k < n
          · have xk := CS.out k (by rw [← HN.out]; exact hkn)
            obtain ⟨tk, htk⟩ : ∃ tk, tk = nb L k := ⟨_, rfl⟩
            rw [← htk] at xk
            have zk : (k : Int) < (n : Int) := by omega
            have TK : L.take (k + 1) = L.take k ++ [nb L k] := by
              rw [List.take_add_one]
              unfold nb
              rw [List.getElem?_eq_getElem (by have := HN.out; omega)]
              rfl
            by_cases qk : tk = 0
            · have q : (tk != 0) = false := by rw [qk]; rfl
              have A2 : Hid ((L.take (k + 1)).all (fun x => decide (x = 0)) = true) := by
                unfold Hid
                rw [TK, List.all_append, AK.out, ← htk, qk]
                rfl
              clear qk htk TK
              go_wp2
              go_round
              case rel => exact ⟨k + 1, by simp, by omega, A2.out⟩
              case measure => simp [intOf]; omega
            · have q : (tk != 0) = true := by simpa using qk
              have E : Hid (r = false) := by
                unfold Hid
                rw [RA.out]
                have : L = L.take (k + 1) ++ L.drop (k + 1) := (List.take_append_drop _ _).symm
                rw [this, TK, List.all_append, List.all_append, ← htk]
                simp [qk]
              clear qk htk TK
              go_wp2
              go_ret
              exact ⟨by rw [E.out]; rfl, rfl⟩
          · have ek : k = n := by omega
            have E : Hid (r = true) := by
              unfold Hid
              have := AK.out
              rw [ek, HN.out, List.take_length] at this
              rw [RA.out, this]
            have zk : ¬ (k : Int) < (n : Int) := by omega
            clear ek
            go_wp2
            go_ret
            exact ⟨by rw [E.out]; rfl, rfl⟩
      · have qz : (t0 == 0) = false := by simpa using q0
        have EL := okO_else (L := L) (by omega) (by omega)
        by_cases q1 : t0 = 1
        · have qo : (t0 == 1) = true := by rw [q1]; rfl
          have es : szO L = 1 := by
            have h0' : ¬ L[0]?.getD 0 = 0 := by intro h; apply q0; rw [ht0]; exact h
            have h1' : L[0]?.getD 0 = 1 := by rw [← q1, ht0]; rfl
            unfold szO
            rw [if_neg h0', if_pos h1']
          rw [es, if_neg (by decide)] at EL
          have R2 : Hid (r = okO (L.drop 1)) := by unfold Hid; rw [RL.out, EL]
          have I2 := isB_drop IL.out 1 (by omega) _ rfl
          have z1 : (1 : Int) ≤ (n : Int) := by omega
          have B2 := hide (BL.out.drop 1)
          by_cases hcc : c1 = 1
          · rw [if_pos hcc, show c1 - 1 = 0 by omega] at I2
            have I2 := hide I2
            clear q0 q1 ht0 hcs es EL RL hn
            go_wp2
            go_round
            case rel => exact ⟨L.drop 1, n - 1, _, _, rfl, by rw [List.length_drop, ← HN.out], by omega, by omega, I2, B2, R2⟩
            case measure => simp [lenV]; omega
          · rw [if_neg hcc] at I2
            have I2 := hide I2
            clear q0 q1 ht0 hcs es EL RL hn
            go_wp2
            go_round
            case rel => exact ⟨L.drop 1, n - 1, _, _, rfl, by rw [List.length_drop, ← HN.out], by omega, by omega, I2, B2, R2⟩
            case measure => simp [lenV]; omega
        · have qo : (t0 == 1) = false := by simpa using q1
          have es := szO_more (L := L) (by rw [← ht0]; exact q0) (by rw [← ht0]; exact q1)
          by_cases h2 : n < 2
          · have E : Hid (r = false) := by unfold Hid; rw [RL.out, EL, if_pos (by rw [es, if_pos (by omega)])]
            have z2 : (n : Int) < 2 := by omega
            clear q0 q1 ht0 hcs es EL RL hn
            go_wp2
            go_ret
            exact ⟨by rw [E.out]; rfl, rfl⟩
          · rw [if_neg (by omega)] at es
            have z2 : ¬ (n : Int) < 2 := by omega
            have z12 : (1 : Int) < (n : Int) := by omega
            have x1 := hcs 1 (by omega)
            obtain ⟨t1, ht1⟩ : ∃ t1, t1 = nb L 1 := ⟨_, rfl⟩
            rw [← ht1] at x1 es
            obtain ⟨u0, u1⟩ := nb_bd BL.out 1
            rw [← ht1] at u0 u1
            have hwr : IntKind.i64.wrap t1 = t1 := wrapI _ (by omega) (by omega)
            rw [← HN.out] at es
            by_cases h3 : t1 < 2
            · have E : Hid (r = false) := by unfold Hid; rw [RL.out, EL, if_pos (by rw [es, if_pos (.inl h3)])]
              clear q0 q1 ht0 hcs es EL RL ht1 hn
              go_wp2
              go_ret
              exact ⟨by rw [E.out]; rfl, rfl⟩
            by_cases h4 : (n : Int) < t1
            · have E : Hid (r = false) := by unfold Hid; rw [RL.out, EL, if_pos (by rw [es, if_pos (.inr h4)])]
              clear q0 q1 ht0 hcs es EL RL ht1 hn
              go_wp2
              go_ret
              exact ⟨by rw [E.out]; rfl, rfl⟩
            rw [if_neg (by omega)] at es
            obtain ⟨m, rfl⟩ := Int.eq_ofNat_of_zero_le u0
            have es : szO L = m := by rw [es]; rfl
            rw [es, if_neg (by omega)] at EL
            have R2 : Hid (r = okO (L.drop m)) := by unfold Hid; rw [RL.out, EL]
            have I2 := isB_drop IL.out m (by omega) _ rfl
            have B2 := hide (BL.out.drop m)
            by_cases hcc : c1 = m
            · rw [if_pos hcc, show c1 - m = 0 by omega] at I2
              have I2 := hide I2
              clear q0 q1 ht0 hcs es EL RL ht1 hn
              go_wp2
              go_round
              case rel => exact ⟨L.drop m, n - m, _, _, rfl, by rw [List.length_drop, ← HN.out], by omega, by omega, I2, B2, R2⟩
              case measure => simp [lenV]; omega
            · rw [if_neg hcc] at I2
              have I2 := hide I2
              clear q0 q1 ht0 hcs es EL RL ht1 hn
              go_wp2
              go_round
              case rel => exact ⟨L.drop m, n - m, _, _, rfl, by rw [List.length_drop, ← HN.out], by omega, by omega, I2, B2, R2⟩
              case measure => simp [lenV]; omega
    · have E : Hid (r = true) := by
        have : L = [] := List.eq_nil_of_length_eq_zero (by omega)
        unfold Hid
        rw [RL.out, this, okO_nil]
      have zn : ¬ (0 : Int) < (n : Int) := by omega
      clear hn
      go_wp2
      go_ret
      exact ⟨by rw [E.out]; rfl, rfl⟩
end Go.Proofs.Ytiglejmmdghmgaa
