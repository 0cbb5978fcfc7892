
/-
  A wheel in memory; Now, Len.
-/
import Derived.Test.YtglbobobifejmaaQW1
import Derived.Deep.MidRow
namespace Go.Proofs.Ytglbobobifejmaa
open Go.RowKit

/-- A WHEEL: its tick, its slots' slice values and what they hold; roles of blocks: 1 the wheel's, 100 + s the slot s's -/
structure WhAt (ρ : Nat → Nat) (w : World) (b : Nat) (now : Int) (V : Nat → Value) (SL : Nat → List (Int × Int)) : Prop where
  lt : ∀ g, ρ g ≠ 0 → g < w.heap.size
  rb : ρ b = 1
  now : w.cell? ⟨b, 0, none⟩ = some (.int .i64 now)
  cell : ∀ s, s < 64 → w.cell? ⟨b, 1 + s, none⟩ = some (V s)
  row : ∀ s, s < 64 → RowL w (V s) (SL s)
  role : ∀ s, s < 64 → ∀ k, (V s).ownBlock = some k → ρ k = 100 + s
  fz : ∀ i, w.frozen? ⟨b, i, none⟩ = false
  len : ∀ s, s < 64 → (SL s).length ≤ 64
theorem WhAt.blt {ρ : Nat → Nat} {w : World} {b : Nat} {now : Int} {V : Nat → Value} {SL : Nat → List (Int × Int)} (h : WhAt ρ w b now V SL) : b < w.heap.size := h.lt b (by rw [h.rb]; omega)
theorem WhAt.later {ρ : Nat → Nat} {w w' : World} {b : Nat} {now : Int} {V : Nat → Value} {SL : Nat → List (Int × Int)} (h : WhAt ρ w b now V SL) (hb : Below w.heap.size w w') : WhAt ρ w' b now V SL :=
  ⟨fun g e => Nat.lt_of_lt_of_le (h.lt g e) hb.size, h.rb, (hb.cell (p := ⟨b, 0, none⟩) h.blt).trans h.now, fun s hs => (hb.cell (p := ⟨b, 1 + s, none⟩) h.blt).trans (h.cell s hs), fun s hs => (h.row s hs).later hb, h.role, fun i => ((But.of_below (K := fun _ => False) hb).frozen (p := ⟨b, i, none⟩) h.blt id).trans (h.fz i), h.len⟩

/-- the 64 slots as they are loaded -/
def slotsOf (V : Nat → Value) : List Value := (List.range 64).map V
theorem slots_at (V : Nat → Value) (s : Nat) (h : s < 64) : (slotsOf V)[s]? = some (V s) := by
  unfold slotsOf; rw [List.getElem?_map, List.getElem?_range h]; rfl
theorem slots_len (V : Nat → Value) : (slotsOf V).length = 64 := by unfold slotsOf; simp
theorem WhAt.range {ρ : Nat → Nat} {w : World} {b : Nat} {now : Int} {V : Nat → Value} {SL : Nat → List (Int × Int)} (h : WhAt ρ w b now V SL) : w.rangeAt b 1 (slotsOf V) := fun j v hv => by
  have hj := (List.getElem?_eq_some_iff.1 hv).1
  rw [slots_len] at hj
  rw [slots_at V j hj] at hv
  rw [← Option.some.inj hv]; exact h.cell j hj
theorem arr_u : Try.prog.underlying 55 = some (.array 64 54) := by kernel_rfl
theorem arr_i : (Try.prog.info? 55).map (·.size) = some 64 := by kernel_rfl
theorem arr_e : (Try.prog.info? 54).map (fun i => (i.size)) = some 1 := by kernel_rfl
theorem index_run (V : Nat → Value) (s : Nat) (h : s < 64) (h1 : ∀ s, s < 64 → ∃ a n c, V s = .slice a n c) (w : World) : (Instr.index 55 (.agg (slotsOf V).toArray) (.int .i64 (s : Int))).run Try.prog w = .ok (V s) w := by
  obtain ⟨a, n, c, e⟩ := h1 s h
  have hs := slots_at V s h
  rw [e] at hs ⊢
  simp [Instr.index, run_underlying arr_u, asIntOf, part, sizeOf, typeInfo]
  rw [if_pos h]
  cases hq : Try.prog.info? 54 with
  | none => have := arr_e; rw [hq] at this; cases this
  | some i =>
    have hi : i.size = 1 := by have := arr_e; rw [hq] at this; simpa using this
    simp [hi, hs]

/-- how many are armed in the first k slots -/
def tot (SL : Nat → List (Int × Int)) : Nat → Nat
  | 0 => 0
  | k + 1 => tot SL k + (SL k).length
theorem tot_le {SL : Nat → List (Int × Int)} (h : ∀ s, s < 64 → (SL s).length ≤ 64) (k : Nat) (hk : k ≤ 64) : tot SL k ≤ 4096 := by
  have : ∀ k, k ≤ 64 → tot SL k ≤ k * 64 := by
    intro k
    induction k with
    | zero => intro _; exact Nat.le_refl _
    | succ k ih => intro hk; have h1 := ih (by omega); have h2 := h k (by omega); unfold tot; omega
  have := this k hk
  omega

section
variable {ρ : Nat → Nat} {w : World} {b : Nat} {now : Int} {V : Nat → Value} {SL : Nat → List (Int × Int)}
set_option maxRecDepth 100000 in
theorem wNow_any (h : WhAt ρ w b now V SL) : Calls Try.prog 22 #[.pointer (some ⟨b, 0, none⟩)] w fun e w' => e = .returned (.int .i64 now) ∧ w' = w := by
  have c := h.now
  go_enter Try.func22, Try.ntmps22
  go_wp2
  go_ret
  exact ⟨rfl, rfl⟩
theorem WhAt.slices (h : WhAt ρ w b now V SL) : ∀ s, s < 64 → ∃ a n c, V s = .slice a n c := fun s hs => by
  obtain ⟨a, c, e, _⟩ := (h.row s hs).shape
  exact ⟨a, _, c, e⟩
set_option maxRecDepth 100000 in
set_option maxHeartbeats 4000000 in
theorem wLen_any (h : WhAt ρ w b now V SL) : Calls Try.prog 23 #[.pointer (some ⟨b, 0, none⟩)] w fun e w' => e = .returned (.int .i64 (tot SL 64 : Int)) ∧ w' = w := by
  have H := hide h
  have RG := hide h.range
  have TL := hide (tot_le h.len)
  have IX : Hid (∀ s : Nat, s < 64 → ∀ w, (Instr.index 55 (.agg (slotsOf V).toArray) (.int .i64 (s : Int))).run Try.prog w = .ok (V s) w) := fun s hs w => index_run V s hs h.slices w
  have LN := hide (slots_len V)
  clear h
  generalize slotsOf V = cs at *
  go_enter Try.func23, Try.ntmps23
  go_wp2_with (refine wpList_load_mid rfl _ _ rfl b 1 rfl cs _ RG.out arr_u rfl (by rw [LN.out]; exact arr_i) ?_)
  go_loopw [3, 10] (fun v u wr => ∃ (k : Nat), v = .int .i64 (tot SL k : Int) ∧ u = .int .i64 (k : Int) ∧ k ≤ 64 ∧ Hid (wr = w)) (fun _ u _ => 64 - (intOf u).toNat)
  case atStart => exact ⟨0, rfl, rfl, by omega, rfl⟩
  case round =>
    obtain ⟨k, rfl, rfl, hk, hW⟩ := hrel
    have hW := hW.out
    subst hW
    by_cases hlt : k < 64
    · have zk : (k : Int) < 64 := by omega
      have ix := IX.out k hlt
      have t1 := TL.out k (by omega)
      have t2 := TL.out (k + 1) (by omega)
      have HT : Hid (tot SL (k + 1) = tot SL k + (SL k).length) := rfl
      obtain ⟨a, c, e, _⟩ := (H.out.row k hlt).shape
      rw [e] at ix
      have zt : (tot SL k : Int) ≤ 4096 := by omega
      have zs : ((SL k).length : Int) ≤ 64 := by have := H.out.len k hlt; omega
      clear e
      go_wp2
      go_roundw
      case rel => exact ⟨k + 1, by rw [HT.out]; go_num, by go_num, by omega, trivial⟩
      case measure => simp [intOf]; omega
    · obtain rfl : k = 64 := by omega
      go_wp2
      go_ret
      exact ⟨rfl, rfl⟩
end
end Go.Proofs.Ytglbobobifejmaa
