
/-
  Advance: what comes, in order, and what stays.
-/
import Derived.Test.YtglbobobifejmaaQU
import Derived.Test.YtglbobobifejmaaQV1
import Derived.Test.YtglbobobifejmaaQM
import Derived.Test.YtglbobobifejmaaQ11
namespace Go.Proofs.Ytglbobobifejmaa
open Go.RowKit

theorem cells2_flt (f : Nat → Tg) (n : Nat) : cells2 f n = flt (listF f n) := by
  induction n with
  | zero => rfl
  | succ n ih =>
    show cells2 f n ++ _ = _
    rw [ih]
    unfold listF
    rw [List.range_succ, List.map_append, flt_append]
    rfl
theorem listF_len (f : Nat → Tg) (n : Nat) : (listF f n).length = n := by unfold listF; simp

set_option maxRecDepth 100000 in
theorem insertion_nil (w : World) :
    Calls Try.prog 39 #[.slice none 0 0, .int .i64 0, .int .i64 0, .func (.func 30) #[] #[]] w fun e w' => e = .returned (.tuple #[]) ∧ w' = w := by
  go_enter Try.func39, Try.ntmps39
  go_wp2
  go_loopw [8] (fun v wr => v = .int .i64 1 ∧ wr = w) (fun _ _ => 0)
  case atStart => exact ⟨rfl, rfl⟩
  case round =>
    obtain ⟨rfl, rfl⟩ := hrel
    go_wp2
    go_end0
    exact ⟨rfl, rfl⟩
set_option maxRecDepth 100000 in
theorem stable_nil (w : World) :
    Calls Try.prog 35 #[.slice none 0 0, .int .i64 0, .func (.func 30) #[] #[]] w fun e w' => e = .returned (.tuple #[]) ∧ w' = w := by
  have X := hide (insertion_nil w)
  go_enter Try.func35, Try.ntmps35
  go_wp2
  go_loopw [7, 8] (fun v u wr => v = .int .i64 0 ∧ u = .int .i64 20 ∧ wr = w) (fun _ _ _ => 0)
  case atStart => exact ⟨rfl, rfl, rfl⟩
  case round =>
    obtain ⟨rfl, rfl, rfl⟩ := hrel
    go_wp2_with fail
    refine X.out.mono ?_
    rintro _ w6 ⟨rfl, rfl⟩
    clear X
    go_wp2
    go_loopw [6] (fun v wq => v = .int .i64 20 ∧ wq = w6) (fun _ _ => 0)
    case atStart => exact ⟨rfl, rfl⟩
    case round =>
      obtain ⟨rfl, rfl⟩ := hrel
      go_wp2
      go_end0
      exact ⟨rfl, rfl⟩
set_option maxRecDepth 100000 in
theorem sort_nil (w : World) :
    Calls Try.prog 29 #[.slice none 0 0, .func (.func 30) #[] #[]] w fun e w' => e = .returned (.tuple #[]) ∧ w' = w := by
  have X := hide (stable_nil w)
  go_enter Try.func29, Try.ntmps29
  go_wp2_with fail
  refine X.out.mono ?_
  rintro _ w3 ⟨rfl, rfl⟩
  clear X
  go_wp2
  go_end0
  exact ⟨rfl, rfl⟩

/-- SORTSTABLEFUNC of what was taken -/
theorem sort_own {B : Nat} {w : World} {v : Value} {C : List (Int × Int)} (h : w.ownsRow B 49 2 v C.length (flt C)) (hl : C.length ≤ 64) :
    Calls Try.prog 29 #[v, .func (.func 30) #[] #[]] w fun e w' => e = .returned (.tuple #[]) ∧ ∃ O, O.Pairwise (fun p q => p.2 ≤ q.2) ∧ (∀ τ, O.filter (fun p => decide (p.2 = τ)) = C.filter (fun p => decide (p.2 = τ))) ∧ w'.ownsRow B 49 2 v O.length (flt O) ∧ But (fun k => v.ownBlock = some k) w w' := by
  rcases h.2 with ⟨rfl, h0⟩ | ⟨g, cap, cur, rfl, _⟩
  · refine (sort_nil w).mono ?_
    rintro e w' ⟨rfl, rfl⟩
    have : C = [] := List.length_eq_zero_iff.1 h0
    subst this
    exact ⟨rfl, [], List.Pairwise.nil, fun _ => rfl, h, But.refl _ _⟩
  · have hR : RowT B w g C.length cap (tagF C) := by
      show w.ownsRow B _ _ _ _ _
      rw [cells2_flt, listF_tag]; exact h
    refine (sort_any hR hl (fun i j hij _ => by show (i : Nat) < j; exact hij)).mono ?_
    rintro e w' ⟨rfl, f', h1, h2, h3, h4⟩
    obtain ⟨s1, s2⟩ := sorted_out h3 h4
    refine ⟨rfl, listF f' C.length, s1, s2, ?_, h2.mono (fun k (e : k = g) => by rw [e]; rfl)⟩
    have h1 : w'.ownsRow B 49 2 _ C.length (cells2 f' C.length) := h1
    rw [cells2_flt] at h1
    rw [listF_len]
    exact h1

section
variable {ρ : Nat → Nat} {w : World} {b : Nat} {now : Int} {V : Nat → Value} {SL : Nat → List (Int × Int)} {L : List (Int × Int)}
theorem WhAt.tick (h : WhAt ρ w b now V SL) (t : Int) : WhAt ρ (w.setCell ⟨b, 0, none⟩ (.int .i64 t)) b t V SL := by
  have hb2 : But (Only b) w (w.setCell ⟨b, 0, none⟩ (.int .i64 t)) := (But.refl (Only b) w).setCell (p := ⟨b, 0, none⟩) (.inr rfl) _
  have cb : ∀ j, j ≠ 0 → (w.setCell ⟨b, 0, none⟩ (.int .i64 t)).cell? ⟨b, j, none⟩ = w.cell? ⟨b, j, none⟩ := fun j hj =>
    World.cell?_setCell_other _ _ _ _ (by intro q; cases q; exact hj rfl)
  refine ⟨fun g e => Nat.lt_of_lt_of_le (h.lt g e) hb2.size, h.rb, World.cell?_setCell_same' _ _ _ (by rw [h.now]; rfl), fun s hs => (cb (1 + s) (by omega)).trans (h.cell s hs), fun s hs => (h.row s hs).keep hb2 (fun k hk c => by have c : k = b := c; rw [c] at hk; have h1 := h.role s hs b hk; have h2 := h.rb; omega), h.role, fun i => by rw [World.frozen?_setCell]; exact h.fz i, h.len⟩

def adBad (now t : Int) : Bool := decide (t < now) || decide (1099511627776 < t)
def stay (L : List (Int × Int)) (t : Int) : List (Int × Int) := L.filter (fun p => decide (t < p.2))
def AdEnd (ρ : Nat → Nat) (w : World) (b : Nat) (now : Int) (L : List (Int × Int)) (t : Int) (e : Ending) (w' : World) : Prop :=
  (adBad now t = true ∧ e = .returned (.tuple #[.slice none 0 0, .int .i64 1]) ∧ w' = w) ∨
  (adBad now t = false ∧ ∃ O v, e = .returned (.tuple #[v, .int .i64 0]) ∧ OutOf L t O ∧ w'.ownsRow w.heap.size 49 2 v O.length (flt O) ∧ Wh ρ w' b t (stay L t) ∧ But (fun g => ρ g ≠ 0) w w')

set_option maxRecDepth 100000 in
set_option maxHeartbeats 4000000 in
theorem advance_any (h : Wh ρ w b now L) (t : Int) : Calls Try.prog 17 #[.pointer (some ⟨b, 0, none⟩), .int .i64 t] w (AdEnd ρ w b now L t) := by
  obtain ⟨V, SL, hW, hR, hl⟩ := h
  have c0 := hW.now
  have f0 := hW.fz 0
  have bl := hW.blt
  obtain ⟨bd, hbd⟩ : ∃ B, adBad now t = B := ⟨_, rfl⟩
  have EB := hide hbd
  have BB := hide (show bd = (decide (t < now) || decide (1099511627776 < t)) from hbd.symm)
  obtain ⟨W1, eW1⟩ : ∃ W, w.setCell ⟨b, 0, none⟩ (.int .i64 t) = W := ⟨_, rfl⟩
  have H1 : Hid (WhAt ρ W1 b t V SL) := by rw [← eW1]; exact hW.tick t
  have B1 : Hid (But (fun g => ρ g ≠ 0) w W1) := by
    rw [← eW1]
    exact (But.refl _ _).setCell (p := ⟨b, 0, none⟩) (.inr (by show ρ b ≠ 0; rw [hW.rb]; omega)) _
  have S1 : Hid (W1.heap.size = w.heap.size) := by rw [← eW1]; exact World.size_setCell _ _ _
  have h64 : tot SL 64 ≤ 64 := by have := hR.count; omega
  have TK := hide (take_any H1.out hR.srt h64 t)
  have HR := hide hR
  have LT := hide hW.lt
  have HL := hide hl
  have H64 := hide h64
  have E1 := hide eW1
  clear hW hR hl hbd h64 eW1
  go_enter Try.func17, Try.ntmps17
  go_upto_region 1 with fail
  go_cut [16] (fun c wc => c = .bool bd ∧ w = wc)
  case first =>
    by_cases h1 : t < now
    · go_wp2
      go_meet
      case rel => exact ⟨by rw [BB.out, decide_eq_true h1]; simp, rfl⟩
    · go_wp2
      go_meet
      case rel => exact ⟨by rw [BB.out, decide_eq_false (show ¬ t < now by omega)]; simp, rfl⟩
  case rest =>
    obtain ⟨rfl, hw⟩ := hcut
    subst hw
    cases bd
    · go_wp2_with fail
      rw [E1.out]
      refine TK.out.mono ?_
      rintro e w2 ⟨v, rfl, ho, ⟨V', hW'⟩, b2⟩
      rw [S1.out] at ho
      have lC : (cmK SL t 64).length ≤ 64 := Nat.le_trans (cm_len SL t 64) H64.out
      have SO := hide (sort_own ho lC)
      have HO := hide ho
      have W2 := hide hW'
      have B2 := hide (B1.out.trans b2)
      clear ho hW' b2 lC TK
      go_wp2_with fail
      refine SO.out.mono ?_
      rintro e w3 ⟨rfl, O, o1, o2, o3, b3⟩
      have KZ : ∀ g, v.ownBlock = some g → ρ g = 0 := fun g e => Classical.byContradiction fun hc => by
        have := LT.out g hc
        have := (row_own_ge HO.out g e).1
        omega
      have W3 := W2.out.but b3 KZ
      have B3 : But (fun g => ρ g ≠ 0) w w3 := B2.out.trans' b3 (fun g hg e => by
        have := (row_own_ge HO.out g e).1
        omega)
      have FIN : Hid (AdEnd ρ w b now L t (.returned (.tuple #[v, .int .i64 0])) w3) :=
        .inr ⟨EB.out, O, v, rfl, ⟨o1, fun τ => (o2 τ).trans (HR.out.cm t τ)⟩, o3, ⟨V', _, W3, HR.out.rest t, Nat.le_trans (List.length_filter_le _ _) HL.out⟩, B3⟩
      clear o1 o2 o3 b3 KZ W3 B3 SO HO
      go_wp2
      go_ret2
      exact FIN.out
    · have FIN : Hid (AdEnd ρ w b now L t (.returned (.tuple #[.slice none 0 0, .int .i64 1])) w) := .inl ⟨EB.out, rfl, rfl⟩
      go_wp2
      go_ret2
      exact FIN.out
end
end Go.Proofs.Ytglbobobifejmaa
