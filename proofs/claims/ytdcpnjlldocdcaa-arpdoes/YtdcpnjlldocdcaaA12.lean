
/-
  Package arp: slices.Clone of those that wait.
-/
import Derived.Test.YtdcpnjlldocdcaaA11
namespace Go.Proofs.Ytdcpnjlldocdcaa
open Go.RowKit

theorem Clone_any {O : Nat → Prop} {w : World} {v : Value} {P : List Int} (h : RowN O w v P) (h0 : P = [] → v = .slice none 0 0) (hl : P.length ≤ 1000) :
    Calls Try.prog 40 #[v] w fun e w' => ∃ v', e = .returned v' ∧ RowN (fun g => w.heap.size ≤ g) w' v' P ∧ (P = [] → v' = .slice none 0 0) ∧ Below w.heap.size w w' := by
  have q22 : ∀ (w : World) (a : Option Addr) (n c n' c' : Nat), (binOp .eql 54 (.slice a n c) (.slice none n' c')).run Try.prog w = .ok (.bool a.isNone) w := fun w a n c n' c' => Lib.run_eql_slice_nil w _ _ a n c n' c' Try.underlying54
  by_cases hp : P = []
  · obtain rfl := h0 hp
    subst hp
    clear h h0
    go_enter Try.func40, Try.ntmps40
    go_wp2
    go_ret
    exact ⟨_, rfl, RowN.nil _ _, fun _ => rfl, Below.refl _ _⟩
  · have hp2 : 0 < P.length := by cases P with | nil => exact absurd rfl hp | cons y R => simp
    obtain ⟨a, cap, rfl⟩ := h.shape
    obtain ⟨g, off, rfl, hg, hO, hc⟩ := h.at hp2
    have b1 : Below w.heap.size w (w.alloc (.cells #[] 3)) := (Below.refl _ w).alloc (Nat.le_refl _) _
    have r0 : RowN (fun g => w.heap.size ≤ g) (w.alloc (.cells #[] 3)) (.slice (some ⟨w.heap.size, 0, none⟩) 0 0) [] :=
      ⟨_, 0, rfl, Nat.le_refl _, Nat.zero_le _, (fun e => by cases e), fun ad e => by
        cases e
        exact ⟨w.heap.size, 0, Nat.le_refl _, by simp, fun _ => rfl, fun j hj => by omega, fun k => frozen_new w _ _ k, fun k x hx => by simp at hx⟩⟩
    have sI := src_ints (W := w.alloc (.cells #[] 3)) g off cap P (fun k x hx => (b1.cell (p := ⟨g, off + k, none⟩) hg).trans (hc k x hx))
    obtain ⟨a', c', w2, hrun, hrow, hb⟩ := r0.more _ P sI hp2 (by simp; omega)
    have b2 : Below w.heap.size w w2 := b1.trans (hb.below (by simp) (fun g hg e => by omega))
    have HW : Hid (RowN (fun g => w.heap.size ≤ g) w2 (.slice a' ([] ++ P).length c') P ∧ P ≠ [] ∧ Below w.heap.size w w2) := ⟨hrow.own (fun g _ e => e.elim id (fun e => by have := e.1; simp at this; omega)), hp, b2⟩
    have HR := hide hrun
    clear hrun hrow hb b2 sI r0 b1 hc h h0 hp hp2
    go_enter Try.func40, Try.ntmps40
    go_wp2_with (at_builtin; refine wpList_app rfl _ _ 54 54 rfl _ _ rfl rfl HR.out ?_)
    go_ret
    exact ⟨_, rfl, HW.out.1, fun e => absurd e HW.out.2.1, HW.out.2.2⟩
end Go.Proofs.Ytdcpnjlldocdcaa
