
/-
  The document's answer: Trim, See.
-/
import Derived.Test.YtjkfjijnjkpbbaaL3
namespace Go.Proofs.Ytjkfjijnjkpbbaa
open Go.RowKit

section
variable {A A' : Nat → Prop} {w : World} {b g n : Nat} {B : Nat → Buf}

theorem rSee_no (H : RPool A w b g n B) (id : Int) (hu : usd n B id = false) :
    Calls Try.prog 46 #[.pointer (some ⟨b, 0, none⟩), .int .i64 id] w fun e w' => e = .returned (.tuple #[.agg #[.int .i64 0, .slice none 0 0, .slice none 0 0], .int .i64 7]) ∧ Below w.heap.size w w' := by
  have U := hide (used_any (H.al (.cells #[.int .i64 0, .slice none 0 0, .slice none 0 0] 35)) id)
  rw [hu] at U
  clear H hu
  go_enter Try.func46, Try.ntmps46
  go_wp2_with fail
  refine U.out.mono ?_
  rintro e w1 ⟨rfl, rfl⟩
  clear U
  go_wp2
  refine bodyPost_ret (v := .tuple #[.agg #[.int .i64 0, .slice none 0 0, .slice none 0 0], .int .i64 7]) (by simp [results, asAddr, go_sem]) rfl ?_
  exact ⟨rfl, (Below.refl _ w).alloc (Nat.le_refl _) _⟩

theorem rSee_any (H : RPool A w b g n B) (id : Int) :
    Calls Try.prog 46 #[.pointer (some ⟨b, 0, none⟩), .int .i64 id] w fun e w' => ∃ hv dv, e = .returned (.tuple #[.agg #[.int .i64 ((seX n B id).refs : Int), hv, dv], .int .i64 (hoE n B id)]) ∧ IsF A w' hv (seX n B id).head ∧ IsF A w' dv (seX n B id).data ∧ Below w.heap.size w w' := by
  unfold seX hoE
  cases hu : usd n B id with
  | false =>
    rw [if_neg (by simp), if_neg (by simp)]
    exact (rSee_no H id hu).mono (fun e w' h => ⟨_, _, h.1, IsF.nil _ _, IsF.nil _ _, h.2⟩)
  | true =>
    obtain ⟨i, rfl, hi, hr⟩ := usd_yes hu
    rw [if_pos rfl, if_pos rfl, Int.toNat_natCast]
    exact rSee_yes H i hi hr

end

end Go.Proofs.Ytjkfjijnjkpbbaa
