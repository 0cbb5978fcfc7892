
/-
  Package wire: Tick, New.
-/
import Derived.Test.YtghojbgjmpjhgaaW16
namespace Go.Proofs.Ytghojbgjmpjhgaa
open Go.RowKit Go.Shelf
attribute [local go_sem] Oper.semAt_some

theorem wNew_any (d0 d1 : Nat) (w : World) : Calls Try.prog 29 #[.pointer (some ⟨d0, 0, none⟩), .pointer (some ⟨d1, 0, none⟩)] w fun e w' => e = .returned (.pointer (some ⟨w.heap.size, 0, none⟩)) ∧ w' = w.alloc (.cells #[.int .i64 0, .pointer (some ⟨d0, 0, none⟩), .pointer (some ⟨d1, 0, none⟩), .slice none 0 0, .slice none 0 0] 84) := by
  go_enter Try.func29, Try.ntmps29
  go_wp2
  go_ret
  exact ⟨rfl, rfl⟩

section
variable {ρ : Nat → Nat} {w : World} {b : Nat} {dv : Nat → Nat} {ck : Int} {L : Nat → List (Value × Frm)} {D : Nat → Dev}
theorem Net.setClock (h : Net ρ w b dv ck L D) (c : Int) : Net ρ (w.setCell ⟨b, 0, none⟩ (.int .i64 c)) b dv c L D := by
  have hb : But (Only b) w (w.setCell ⟨b, 0, none⟩ (.int .i64 c)) := (But.refl (Only b) w).setCell (p := ⟨b, 0, none⟩) (.inr rfl) _
  have cb : ∀ j, j ≠ 0 → (w.setCell ⟨b, 0, none⟩ (.int .i64 c)).cell? ⟨b, j, none⟩ = w.cell? ⟨b, j, none⟩ := fun j hj => World.cell?_setCell_other _ _ _ _ (by intro q; have q : (0 : Nat) = j := congrArg Addr.off q; omega)
  refine ⟨fun g e => Nat.lt_of_lt_of_le (h.lt g e) hb.size, h.rb, h.rd, World.cell?_setCell_same' _ _ _ (by rw [h.clock]; rfl), fun i hi => (cb _ (by omega)).trans (h.ends i hi), fun i => by rw [World.frozen?_setCell]; exact h.fz i, fun i hi => ?_, fun i hi => ?_, h.ok, h.fl⟩
  · obtain ⟨v, hv, hL⟩ := h.ls i hi
    exact ⟨v, (cb _ (by omega)).trans hv, hL.but hb (fun g e => by have e : g = b := e; rw [e, h.rb]; omega) (fun _ _ => rfl)⟩
  · exact (h.dev i hi).ext hb (fun g e => by have e : g = b := e; rw [e, h.rb]; omega) (fun e => by have e : dv i = b := e; have h1 := h.rd i hi; rw [e, h.rb] at h1; omega) (fun _ _ => rfl)

def tiD (D : Nat → Dev) (ck : Int) : Nat → Dev := upd (upd D 0 (lg 16 ck (D 0).tick)) 1 (lg 16 ck (D 1).tick)
def tiA (l : Nat → List Frm) (ck : Int) : Nat → List Frm := upd (upd l 0 ((l 0).filter (fun f => !old ck f.tick))) 1 ((l 1).filter (fun f => !old ck f.tick))
theorem map_youngs (ck : Int) (l : List (Value × Frm)) : (youngs ck l).map Prod.snd = (l.map Prod.snd).filter (fun f => !old ck f.tick) := by
  unfold youngs
  induction l with
  | nil => rfl
  | cons p l ih =>
    simp only [List.filter_cons, List.map_cons, fresh]
    split <;> simp_all

set_option maxRecDepth 100000 in
set_option maxHeartbeats 4000000 in
theorem wTick_any (h : Net ρ w b dv ck L D) (hck : 0 ≤ ck ∧ ck ≤ 4611686018427387903) (hT : ∀ i, i < 2 → ∀ j, j < 16 → 0 ≤ (D i).posted j ∧ (D i).posted j ≤ ck) (hTL : ∀ i, i < 2 → ∀ p ∈ L i, 0 ≤ p.2.tick ∧ p.2.tick ≤ ck) (hl : ∀ i, i < 2 → (L i).length ≤ 2513169434843) :
    Calls Try.prog 19 #[.pointer (some ⟨b, 0, none⟩)] w fun e w' => e = .returned (.tuple #[]) ∧ ∃ L', Did ρ w w' b dv (ck + 1) L' (tiD D (ck + 1)) ∧ ab L' = tiA (ab L) (ck + 1) := by
  have i0 : ∀ w, (Instr.index 36 (.agg #[.pointer (some ⟨dv 0, 0, none⟩), .pointer (some ⟨dv 1, 0, none⟩)]) (.int .i64 0)).run Try.prog w = .ok (.pointer (some ⟨dv 0, 0, none⟩)) w := fun _ => by kernel_rfl
  have i1 : ∀ w, (Instr.index 36 (.agg #[.pointer (some ⟨dv 0, 0, none⟩), .pointer (some ⟨dv 1, 0, none⟩)]) (.int .i64 1)).run Try.prog w = .ok (.pointer (some ⟨dv 1, 0, none⟩)) w := fun _ => by kernel_rfl
  have c0 := h.clock
  have f0 := h.fz 0
  have n1 := h.setClock (ck + 1)
  have e0 := n1.ends 0 (by omega)
  have e1 := n1.ends 1 (by omega)
  have H := hide h
  have N1 := hide n1
  have HT := hide hT
  have HTL := hide hTL
  have HL := hide hl
  have FIN : Hid (∀ W3, Net ρ W3 b dv (ck + 1) L (upd (upd D 0 (D 0).tick) 1 (D 1).tick) → Calls Try.prog 53 #[.pointer (some ⟨b, 0, none⟩)] W3 fun e W' => e = .returned (.tuple #[]) ∧ ∃ L', Did ρ W3 W' b dv (ck + 1) L' (tiD D (ck + 1)) ∧ ab L' = tiA (ab L) (ck + 1)) := by
    intro W3 n3
    have d0 : (upd (upd D 0 (D 0).tick) 1 (D 1).tick) 0 = (D 0).tick := by rw [upd_other _ _ _ _ (by omega), upd_same]
    have d1 : (upd (upd D 0 (D 0).tick) 1 (D 1).tick) 1 = (D 1).tick := upd_same _ _ _
    have key := letGo_in 4 (Nat.le_refl _) n3 ⟨by omega, by omega⟩ (fun i hi j hj => by
        have : i = 0 ∨ i = 1 := by omega
        rcases this with rfl | rfl
        · rw [d0]; have := hT 0 (by omega) j hj; exact ⟨this.1, by show (D 0).posted j ≤ ck + 1; omega⟩
        · rw [d1]; have := hT 1 (by omega) j hj; exact ⟨this.1, by show (D 1).posted j ≤ ck + 1; omega⟩) (fun i hi p hp => ⟨(hTL i hi p hp).1, by have := (hTL i hi p hp).2; omega⟩) hl
    refine (callsIn_wide.1 key).mono ?_
    rintro e W' ⟨rfl, hD⟩
    rw [d0, d1] at hD
    have eD : upd (upd (upd (upd D 0 (D 0).tick) 1 (D 1).tick) 0 (lg 16 (ck + 1) (D 0).tick)) 1 (lg 16 (ck + 1) (D 1).tick) = tiD D (ck + 1) := by
      funext k; unfold tiD upd
      by_cases e1 : k = 1
      · simp [e1]
      · by_cases e0 : k = 0
        · simp [e0]
        · simp [e0, e1]
    rw [eD] at hD
    refine ⟨rfl, _, hD, ?_⟩
    rw [ab_upd, ab_upd, map_youngs, map_youngs]; rfl
  clear h n1 hT hTL hl
  refine (callsIn_wide (n := 6)).1 ?_
  refine callsIn_of_wp Try.func19 rfl trivial ?_ rfl
  simp only [Try.ntmps19, List.size_toArray, List.length_cons, List.length_nil, Nat.reduceAdd, Nat.reduceSub, Array.replicate_succ, Array.replicate_zero, List.push_toArray, List.append_toArray, List.nil_append, List.cons_append]
  have hck2 : ck + 1 ≤ 4611686018427387904 := by omega
  gi_wp2
  generalize hw1 : w.setCell ⟨b, 0, none⟩ (.int .i64 (ck + 1)) = w1 at *
  have B1 : Hid (But (Only b) w w1) := by rw [← hw1]; exact (But.refl (Only b) w).setCell (p := ⟨b, 0, none⟩) (.inr rfl) _
  clear hw1 e0 e1
  refine wpIn_loop_rounds 3 ?_
  rw [roundsIn_succ]
  have T0 := hide (Tick_any (N1.out.dev 0 (by omega)))
  gi_wp2_with fail
  refine ⟨trivial, ?_⟩
  refine (callsIn_wide.2 T0.out).mono ?_
  rintro e w2 ⟨rfl, hd2, hb2⟩
  have N2 := hide (N1.out.acts 0 (by omega) hd2 (N1.out.ok 0 (by omega)).tick hb2)
  have B2 : Hid (But (Ro ρ) w w2) := (B1.out.mono (fun g e => by have e : g = b := e; rw [e]; unfold Ro; rw [H.out.rb]; omega)).trans' hb2 (fun g _ e => by have e : g = dv 0 := e; rw [e]; unfold Ro; rw [H.out.rd 0 (by omega)]; omega)
  clear hd2 hb2 T0
  gi_wp2
  rw [roundsIn_succ]
  have T1 := Tick_any (N2.out.dev 1 (by omega))
  rw [upd_other _ _ _ _ (by omega)] at T1
  have HT1 := hide T1
  clear T1
  gi_wp2_with fail
  refine ⟨trivial, ?_⟩
  refine (callsIn_wide.2 HT1.out).mono ?_
  rintro e w3 ⟨rfl, hd3, hb3⟩
  have ok1 : (D 1).tick.Ok := (N1.out.ok 1 (by omega)).tick
  have N3 := hide (N2.out.acts 1 (by omega) hd3 ok1 hb3)
  have B3 : Hid (But (Ro ρ) w w3) := B2.out.trans' hb3 (fun g _ e => by have e : g = dv 1 := e; rw [e]; unfold Ro; rw [H.out.rd 1 (by omega)]; omega)
  clear hd3 hb3 HT1 ok1
  gi_wp2
  rw [roundsIn_succ]
  gi_wp2_with fail
  refine ⟨trivial, ?_⟩
  refine (callsIn_wide.2 (FIN.out w3 N3.out)).mono ?_
  rintro e w4 ⟨rfl, L', hD, hA⟩
  have R := hide (And.intro hD hA)
  clear hD hA FIN
  gi_wp2
  go_end0
  exact ⟨rfl, L', did_trans (fun _ _ => rfl) B3.out R.out.1, R.out.2⟩
end
end Go.Proofs.Ytghojbgjmpjhgaa
