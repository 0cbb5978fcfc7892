
/-
  PoolDoes: its walk.
-/
import Derived.Test.YtkadapjcnonbiaaPDoes
namespace Go.Proofs.Ytkadapjcnonbiaa
open Go.RowKit

set_option maxRecDepth 100000 in
theorem doesw_small (many : Int) (v : Value) (W : World) (hm : many < 1 ∨ 4096 < many) :
    Calls Try.prog 3 #[.int .i64 many, v] W fun e W' => e = .returned (.bool true) ∧ Below W.heap.size W W' := by
  have hN := hide (fun w => New_no w many hm)
  have hR := hide (fun w => rNew_no w many hm)
  clear hm
  go_enter Try.func3, Try.ntmps3
  go_wp2_with fail
  refine (awake_any W).mono ?_
  rintro e w1 ⟨rfl, hb1⟩
  go_wp2_with fail
  refine (hN.out w1).mono ?_
  rintro e w2 ⟨rfl, rfl⟩
  go_wp2_with fail
  refine (hR.out _).mono ?_
  rintro e w2 ⟨rfl, rfl⟩
  go_wp2
  go_ret
  exact ⟨rfl, hb1⟩

set_option maxRecDepth 100000 in
set_option maxHeartbeats 4000000 in
theorem doesw_loop (n : Nat) (v : Value) (l : List OpV) (W : World) (h0 : 0 < n) (h1 : n ≤ 4096) (hI : IsO W.heap.size W v l) (hl : l.length ≤ 2513169434843) :
    Calls Try.prog 3 #[.int .i64 (n : Int), v] W fun e W' => e = .returned (.bool true) ∧ Below W.heap.size W W' := by
  have HI := hide hI
  obtain ⟨a, cap, rfl, _, _⟩ := hI
  go_enter Try.func3, Try.ntmps3
  go_wp2_with fail
  refine (awake_any W).mono ?_
  rintro e w1 ⟨rfl, hb1⟩
  go_wp2_with fail
  refine (New_yes w1 n h0 h1).mono ?_
  rintro e w2 ⟨b, rfl, p2, hb2, hgb⟩
  obtain ⟨g, hg⟩ : ∃ g, g = w1.heap.size := ⟨_, rfl⟩
  rw [← hg] at p2 hgb
  have HW : Hid (W.heap.size ≤ g) := by have := hb1.size; show _ ≤ _; omega
  have B2 := hide (hb1.trans (hb2.mono hb1.size))
  have P2 := hide p2
  have HGB := hide hgb
  clear hb1 hb2 p2 hg hgb
  go_wp2_with fail
  refine (rNew_yes w2 n h0 h1).mono ?_
  rintro e w3 ⟨rb, rfl, r3, hb3, hrb⟩
  obtain ⟨rg, hrg⟩ : ∃ rg, rg = w2.heap.size := ⟨_, rfl⟩
  rw [← hrg] at r3 hrb
  have OR : Hid (g < rg ∧ b < rg ∧ rg < rb) := by have h1 := P2.out.glt; have h2 := P2.out.blt; exact ⟨by omega, by omega, by omega⟩
  have R3 := hide (r3 (Two g rg) (.inr rfl))
  have P3 := hide (P2.out.later hb3)
  have B3 := hide (B2.out.trans (hb3.mono B2.out.size))
  have KP : Hid (∀ X Y : World, Below W.heap.size W X → But (Two g rg) X Y → Below W.heap.size W Y) := fun X Y h k => h.trans (k.below h.size (fun x hx e => by have h1 := HW.out; have h2 := OR.out; rcases e with e | e <;> omega))
  clear P2 B2 r3 hb3 hrg hrb
  go_wp2
  go_loopw [10] (fun vi wr => ∃ (i : Nat) (B : Nat → Buf), vi = .int .i64 i ∧ i ≤ l.length ∧ Hid (PoolAt wr b g n B) ∧ Hid (RPool (Two g rg) wr rb rg n B) ∧ Hid (Most B i) ∧ Hid (Below W.heap.size W wr)) (fun vi _ => l.length - (intOf vi).toNat)
  case atStart => exact ⟨0, none4, rfl, Nat.zero_le _, P3.out, R3.out, fun k => Nat.le_refl _, B3.out⟩
  case round =>
    obtain ⟨i, B, rfl, hi, hP, hR, hM, hB⟩ := hrel
    clear P3 R3 B3
    by_cases hlt : i < l.length
    · obtain ⟨a', cap', e', hc, hf⟩ := HI.out.below hB.out
      simp only [Value.slice.injEq] at e'
      obtain ⟨rfl, _, rfl⟩ := e'
      obtain ⟨gl, off, rfl, hgl, hcs⟩ := hc (by omega)
      obtain ⟨o, ho⟩ : ∃ o, l[i]? = some o := ⟨l[i], List.getElem?_eq_getElem hlt⟩
      obtain ⟨q0, q1, q2, q3, q4⟩ := hcs i o ho
      obtain ⟨hbv, hbl⟩ := hf o (List.mem_of_getElem? ho)
      obtain ⟨dd, dc, ed, _, _⟩ := hbv.shape
      obtain ⟨kd, oi, oa, ob, odv, ods⟩ := o
      simp only at q0 q1 q2 q3 q4 hbv hbl ed
      subst ed
      have D := hide (does_any (n₀ := W.heap.size) hP.out hR.out (fun x e => by rcases e with e | e; rw [e]; exact hP.out.glt; rw [e]; exact hR.out.glt) (.inl rfl) (.inr rfl) (by have := OR.out; omega) (by have := OR.out; omega) (by have := OR.out; omega) HW.out (by have h1 := OR.out; have h2 := HW.out; omega) hM.out (by omega) kd oi oa ob dd dc ods hbv hbl)
      have HGL := hide hgl
      clear hcs hf hc ho hbv hbl hgl
      go_wp2_with fail
      refine D.out.mono ?_
      rintro e w4 ⟨rfl, B', p4, r4, m4, b4⟩
      have P4 := hide p4
      have R4 := hide r4
      have M4 := hide m4
      have B4 := hide (KP.out _ _ hB.out b4)
      have q1' := (b4.cell (p := ⟨gl, off + i * 5 + 1, none⟩) (World.block_lt_of_cell? _ _ q1) (fun e => by have h1 := HGL.out; have h2 := HW.out; have h3 := OR.out; rcases e with e | e <;> (simp at e; omega))).trans q1
      have SA := hide (same_any p4 r4 oi)
      clear D p4 r4 m4 b4 q0 q1 q2 q3 q4
      go_wp2_with fail
      refine SA.out.mono ?_
      rintro e w5 ⟨rfl, b5⟩
      have P5 := hide (P4.out.later b5)
      have R5 := hide (R4.out.later b5)
      have B5 := hide (B4.out.trans (b5.mono B4.out.size))
      have L5 := hide (Left_any P5.out)
      have RL5 := hide (rLeft_any R5.out)
      have Z5 := hide (Size_any P5.out)
      clear SA b5 P4 R4 B4 q1'
      generalize (lft B' n : Int) = lf at *
      go_wp2_with fail
      refine L5.out.mono ?_
      rintro e w6 ⟨rfl, rfl⟩
      clear L5
      go_wp2_with fail
      refine RL5.out.mono ?_
      rintro e w6 ⟨rfl, rfl⟩
      clear RL5
      go_wp2_with fail
      refine Z5.out.mono ?_
      rintro e w6 ⟨rfl, rfl⟩
      clear Z5
      go_wp2
      go_roundw
      case rel => exact ⟨i + 1, B', by go_num, by omega, P5.out, R5.out, M4.out, B5.out⟩
      case measure => simp [intOf]; omega
    · obtain rfl : i = l.length := by omega
      go_wp2
      go_loopw [13] (fun vi wr => ∃ (k : Nat), vi = .int .i64 ((k : Int) - 1) ∧ k ≤ 21 ∧ Hid (PoolAt wr b g n B) ∧ Hid (RPool (Two g rg) wr rb rg n B) ∧ Hid (Below W.heap.size W wr)) (fun vi _ => (20 - intOf vi).toNat)
      case atStart => exact ⟨0, rfl, by omega, hP.out, hR.out, hB.out⟩
      case round =>
        obtain ⟨k, rfl, hk, hP2, hR2, hB2⟩ := hrel
        by_cases hk2 : k < 21
        · have SA := hide (same_any hP2.out hR2.out ((k : Int) - 1))
          have z1 : (k : Int) - 1 < 20 := by omega
          go_wp2_with fail
          refine SA.out.mono ?_
          rintro e w5 ⟨rfl, b5⟩
          have P5 := hide (hP2.out.later b5)
          have R5 := hide (hR2.out.later b5)
          have B5 := hide (hB2.out.trans (b5.mono hB2.out.size))
          clear SA b5
          go_wp2
          go_roundw
          case rel => exact ⟨k + 1, by refine val_int ?_; omega, by omega, P5.out, R5.out, B5.out⟩
          case measure => simp [intOf]; omega
        · obtain rfl : k = 21 := by omega
          go_wp2
          go_ret
          exact ⟨rfl, hB2.out⟩

theorem Does_walk (many : Int) (v : Value) (l : List OpV) (W : World) (_ : -9223372036854775808 ≤ many) (_ : many ≤ 9223372036854775807) (hI : IsO W.heap.size W v l) (hl : l.length ≤ 2513169434843) :
    Calls Try.prog 3 #[.int .i64 many, v] W fun e W' => e = .returned (.bool true) ∧ Below W.heap.size W W' := by
  by_cases hm : many < 1 ∨ 4096 < many
  · exact doesw_small many v W hm
  · obtain ⟨n, rfl⟩ : ∃ n : Nat, many = n := ⟨many.toNat, by omega⟩
    exact doesw_loop n v l W (by omega) (by omega) hI hl

end Go.Proofs.Ytkadapjcnonbiaa
