
/-
  Package frag: mayBe.
-/
import Derived.Test.YtgempelfamjabaaF1
namespace Go.Proofs.Ytgempelfamjabaa
open Go.RowKit Go.Shelf

/-- may a piece of n bytes be part of any datagram? -/
def myb (p : Pk) (n : Nat) : Bool := decide (0 ≤ p.off) && (decide (p.off.tmod 8 = 0) && ((!p.more || (decide (n ≠ 0) && decide (n % 8 = 0))) && decide ((n : Int) ≤ 1024 - p.off)))
set_option maxHeartbeats 1000000 in
theorem fMay_any (p : Pk) (ov : Value) (ba : Option Addr) (n c : Nat) (w : World) (h0 : -9223372036854775808 ≤ p.off) (h1 : p.off ≤ 9223372036854775807) (hn : n ≤ 140737488355328) : Calls Try.prog 33 #[.agg (p.cells ov).toArray, .slice ba n c] w fun e w' => e = .returned (.bool (myb p n)) ∧ Below w.heap.size w w' := by
  rw [show (Value.agg (p.cells ov).toArray) = .agg #[.int .u8 p.src.a, .int .u8 p.src.b, .int .u8 p.src.c, .int .u8 p.src.d, .int .u8 p.dst.a, .int .u8 p.dst.b, .int .u8 p.dst.c, .int .u8 p.dst.d, .int .i64 p.proto, .int .i64 p.ttl, .int .i64 p.id, .int .i64 p.tos, .bool p.whole, .bool p.more, .int .i64 p.off, ov] from rfl]
  obtain ⟨w1, s, hs, hw, c1, f1, b1, l1⟩ := boxP w p ov
  have k13 : w1.cell? ⟨s, 13, none⟩ = some (.bool p.more) := c1 13 _ rfl
  have k14 : w1.cell? ⟨s, 14, none⟩ = some (.int .i64 p.off) := c1 14 _ rfl
  obtain ⟨mo, hmo⟩ : ∃ mo, mo = p.more := ⟨_, rfl⟩
  obtain ⟨po, hpo⟩ : ∃ po, po = p.off := ⟨_, rfl⟩
  have FE : Hid (myb p n = (decide (0 ≤ po) && (decide (po.tmod 8 = 0) && ((!mo || (decide (n ≠ 0) && decide (n % 8 = 0))) && decide ((n : Int) ≤ 1024 - po))))) := by rw [hmo, hpo]; exact rfl
  rw [← hmo] at k13 hw ⊢
  rw [← hpo] at k14 hw h0 h1 ⊢
  have hs' := hs.symm
  have hw' := hw.symm
  have B1 := hide b1
  have B2 : Hid (Below s w w1) := by rw [hs]; exact b1
  have zn : (n : Int) ≤ 140737488355328 := by omega
  have zn0 : (0 : Int) ≤ n := by omega
  clear hs hw c1 f1 b1 hmo hpo
  go_enter Try.func33, Try.ntmps33
  by_cases e0 : po < 0
  · have R : Hid (myb p n = false) := by rw [FE.out, decide_eq_false (show ¬ 0 ≤ po by omega)]; exact rfl
    clear FE
    go_wp2
    go_ret
    first | exact ⟨by rw [R.out]; rfl, B1.out⟩ | exact ⟨by rw [R.out]; rfl, B2.out⟩
  obtain ⟨r, hr⟩ : ∃ r, r = po.tmod 8 := ⟨_, rfl⟩
  have hr' := hr.symm
  by_cases e1 : r = 0
  case neg =>
    have R : Hid (myb p n = false) := by rw [FE.out, ← hr, decide_eq_false e1, Bool.false_and, Bool.and_false]; exact rfl
    have q1 : (r != 0) = true := by simpa using e1
    clear FE hr e1
    go_wp2
    go_ret
    first | exact ⟨by rw [R.out]; rfl, B1.out⟩ | exact ⟨by rw [R.out]; rfl, B2.out⟩
  have q1 : (r != 0) = false := by simpa using e1
  have T : Hid (myb p n = ((!mo || (decide (n ≠ 0) && decide (n % 8 = 0))) && decide ((n : Int) ≤ 1024 - po))) := by rw [FE.out, ← hr, decide_eq_true (show 0 ≤ po by omega), decide_eq_true e1]; exact rfl
  have e0' : 0 ≤ po := by omega
  have d1 : (n : Int).tmod 8 = ((n % 8 : Nat) : Int) := by rw [Int.tmod_eq_emod_of_nonneg (by omega)]; omega
  obtain ⟨m8, hm8⟩ : ∃ m8, m8 = n % 8 := ⟨_, rfl⟩
  rw [← hm8] at d1
  clear FE hr
  subst e1
  cases mo with
  | false =>
    have R : Hid (myb p n = decide ((n : Int) ≤ 1024 - po)) := by rw [T.out]; exact rfl
    clear T d1 hm8
    go_wp2
    go_ret
    first | exact ⟨by rw [R.out]; rfl, B1.out⟩ | exact ⟨by rw [R.out]; rfl, B2.out⟩
  | true =>
    by_cases en : n = 0
    · subst en
      have R : Hid (myb p 0 = false) := by rw [T.out]; exact rfl
      clear T d1 hm8
      go_wp2
      go_ret
      first | exact ⟨by rw [R.out]; rfl, B1.out⟩ | exact ⟨by rw [R.out]; rfl, B2.out⟩
    have qn : ((n : Int) == 0) = false := by simpa using en
    by_cases e8 : m8 = 0
    · subst e8
      have R : Hid (myb p n = decide ((n : Int) ≤ 1024 - po)) := by rw [T.out, ← hm8, decide_eq_true (show n ≠ 0 from en)]; exact rfl
      clear T hm8
      go_wp2
      go_ret
      first | exact ⟨by rw [R.out]; rfl, B1.out⟩ | exact ⟨by rw [R.out]; rfl, B2.out⟩
    · have R : Hid (myb p n = false) := by rw [T.out, ← hm8, decide_eq_false e8, Bool.and_false]; exact rfl
      have q8 : ((m8 : Int) != 0) = true := by simpa using e8
      clear T hm8
      go_wp2
      go_ret
      first | exact ⟨by rw [R.out]; rfl, B1.out⟩ | exact ⟨by rw [R.out]; rfl, B2.out⟩
end Go.Proofs.Ytgempelfamjabaa
