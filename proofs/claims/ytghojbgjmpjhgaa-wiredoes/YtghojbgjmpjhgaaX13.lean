
/-
  WireDoes: its walk.
-/
import Derived.Test.YtghojbgjmpjhgaaX7
import Derived.Test.YtghojbgjmpjhgaaX10
import Derived.Test.YtghojbgjmpjhgaaX12
namespace Go.Proofs.Ytghojbgjmpjhgaa
open Go.RowKit

set_option maxRecDepth 100000 in
set_option maxHeartbeats 8000000 in
theorem Does_walk (v : Value) (l : List OpV) (W : World) (hI : IsO W.heap.size W v l) (hl : l.length ≤ 2513169434843) :
    Calls Try.prog 3 #[v] W fun e W' => e = .returned (.bool true) ∧ Below W.heap.size W W' := by
  have HI := hide hI
  obtain ⟨a, cap, rfl, _, _⟩ := hI
  go_enter Try.func3, Try.ntmps3
  go_wp2_with fail
  refine (awake_any W).mono ?_
  rintro e w1 ⟨rfl, hb1⟩
  go_wp2_with fail
  refine (begun_any w1).mono ?_
  rintro e w2 ⟨rfl, ⟨b, rb, dv, rdv, h2⟩, hb2⟩
  obtain ⟨P, hP⟩ : ∃ P : Pl, P = ⟨w1.heap.size, b, rb, dv, rdv, w1.heap.size⟩ := ⟨_, rfl⟩
  have hPx : w1.heap.size = P.x := by rw [hP]
  have HPN : Hid (W.heap.size ≤ P.n₀) := by rw [hP]; exact hb1.size
  rw [← hP] at h2
  rw [hPx]
  have R2 := hide h2
  have B2 := hide (hb1.trans (hb2.mono hb1.size))
  clear h2 hb1 hb2 hP hPx
  go_wp2
  go_loopw [5] (fun vi wr => ∃ (i : Nat) (ρ : Nat → Nat) (ck : Int) (L R : Nat → List (Value × Frm)) (D : Nat → Dev) (T F : Nat → Nat), vi = .int .i64 (i : Int) ∧ i ≤ l.length ∧ Hid (Rig P ρ wr ck L R D T F i) ∧ Hid (Below W.heap.size W wr)) (fun vi _ => l.length - (intOf vi).toNat)
  case atStart => exact ⟨0, _, _, _, _, _, _, _, rfl, Nat.zero_le _, R2.out, B2.out⟩
  case round =>
    obtain ⟨i, ρ, ck, L, R, D, T, F, rfl, hi, hR, hB⟩ := hrel
    clear R2 B2
    by_cases hlt : i < l.length
    · obtain ⟨a', cap', e', hc, hf⟩ := HI.out.below hB.out
      simp only [Value.slice.injEq] at e'
      obtain ⟨rfl, _, rfl⟩ := e'
      obtain ⟨gl, off, rfl, hgl, hcs⟩ := hc (by omega)
      obtain ⟨o, ho⟩ : ∃ o, l[i]? = some o := ⟨l[i], List.getElem?_eq_getElem hlt⟩
      obtain ⟨q0, q1, q2, q3, q4⟩ := hcs i o ho
      obtain ⟨hbv, hbl, hby⟩ := hf o (List.mem_of_getElem? ho)
      obtain ⟨dd, dc, ed, _, _⟩ := hbv.shape
      obtain ⟨kd, od, ok, ot, odv, ods⟩ := o
      simp only at q0 q1 q2 q3 q4 hbv hbl ed
      subst ed
      have zi : (i : Int) < (l.length : Int) := by omega
      have zl : (l.length : Int) ≤ 2513169434843 := by omega
      have DA := hide (does_any hR.out (by omega) kd od ok ot dd dc ods (hbv.avoid (fun g hg e => Nat.le_trans HPN.out e)) hbl (hide hby))
      clear hcs hf hc ho hbv hbl hby
      go_wp2_with fail
      refine DA.out.mono ?_
      rintro e w4 ⟨rfl, ck', L', R', D', T', F', ⟨ρ', hr4, he4, hb4⟩, _⟩
      have R4 := hide hr4
      have B4 := hide (below_mine hB.out hb4 (fun g e => Nat.le_trans HPN.out (hR.out.low g e)))
      have AL := hide (alike_any hr4 (by omega))
      clear hr4 he4 hb4 DA q0 q1 q2 q3 q4
      go_wp2_with fail
      refine AL.out.mono ?_
      rintro e w5 ⟨rfl, hb5⟩
      have R5 := hide (R4.out.later hb5)
      have B5 := hide (B4.out.trans (hb5.mono B4.out.size))
      clear hb5 AL R4 B4
      go_wp2
      go_roundw
      case rel => exact ⟨i + 1, ρ', ck', L', R', D', T', F', by go_num, by omega, R5.out, B5.out⟩
      case measure => simp [intOf]; omega
    · obtain rfl : i = l.length := by omega
      go_wp2
      go_ret
      exact ⟨rfl, hB.out⟩
end Go.Proofs.Ytghojbgjmpjhgaa
