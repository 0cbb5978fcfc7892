
/-
  slices.Grow of nil, slices.Concat of two.
-/
import Derived.Test.YtjkfjijnjkpbbaaG6
namespace Go.Proofs.Ytjkfjijnjkpbbaa
open Go.RowKit

theorem wrapG (n : Int) (h0 : -9223372036854775808 ≤ n) (h1 : n ≤ 9223372036854775807) : IntKind.i64.wrap n = n := by simp [IntKind.wrap, IntKind.bits, IntKind.signed]; omega
theorem int_u : Try.prog.underlying 3 = some (.int .i64) := by kernel_rfl

set_option maxRecDepth 100000 in
/-- append(nil, make([]byte, m)...) -/
theorem run_append_zeros (w : World) (m : Nat) (h0 : 0 < m) (hm : m ≤ 1000) :
    ∃ (C : Nat) (Z : List Value), (Builtin.append_ #[27, 3] 27 #[.slice none 0 0, .int .i64 m]).run Try.prog w =
      .ok (.slice (some ⟨w.heap.size, 0, none⟩) m C) (w.drew.alloc (.cells Z.toArray 5)) ∧ m ≤ C ∧ C ≤ maxLen ∧ Z.length = C := by
  obtain ⟨i, hi, hz, hsz, hby⟩ := info_parts info_u8
  have hn : ¬ (m = 0) := by omega
  have hw : IntKind.i64.wrap (m : Int) = m := wrapG _ (by omega) (by omega)
  have h63' : ¬ (9223372036854775807 < (m : Int)) := by omega
  have hfit : Builtin.nextslicecap m 0 * i.bytes ≤ 281474976710656 := growslice_fits (by omega) (by rw [hby]; omega)
  have h48' : ¬ (281474976710656 < Builtin.nextslicecap m 0 * i.bytes) := by omega
  have h48i : ¬ (281474976710656 < (m : Int) * (i.bytes : Int)) := by rw [hby]; omega
  have hneg : ¬ ((m : Int) < 0) := by omega
  have hge := grownCap_ge w m 0 5
  have hle : grownCap w m 0 5 ≤ maxLen := grownCap_le_maxLen w m 0 5 (by unfold maxLen; omega)
  refine ⟨grownCap w m 0 5, (Builtin.zeroCells #[.int .u8 0] m).toList ++ (Builtin.zeroCells #[.int .u8 0] (grownCap w m 0 5 - m)).toList, ?_, hge, hle, ?_⟩
  · simp [Builtin.append_, run_underlying Try.underlying27, run_underlying int_u, sizeOf, typeInfo, zeroValue, hi, hz, hsz, asInt, asIntOf, hw, hn, hneg, h63', h48', h48i, Question.forced, Builtin.firstCells, newRow, grownCap, Value.cells]
    congr 2
    apply Array.ext'
    simp
  · rw [List.length_append, Array.length_toList, Array.length_toList, size_zeroCells, size_zeroCells]
    show m * 1 + (grownCap w m 0 5 - m) * 1 = _
    omega

set_option maxRecDepth 100000 in
theorem Grow_nil (w : World) (m : Nat) (hm : m ≤ 1000) : Calls Try.prog 82 #[.slice none 0 0, .int .i64 (m : Int)] w fun e w' => ∃ v, e = .returned v ∧ Gro w.heap.size w' v [] ∧ Below w.heap.size w w' := by
  have z : (m : Int) ≤ 1000 := by omega
  by_cases h0 : m = 0
  · subst h0
    go_enter Try.func82, Try.ntmps82
    go_wp2
    go_ret
    exact ⟨_, rfl, Gro.nil _ _, Below.refl _ _⟩
  · obtain ⟨C, Z, hrun, h1, h2, h3⟩ := run_append_zeros w m (by omega) hm
    have z0 : (0 : Int) < m := by omega
    have HR := hide hrun
    have G1 : Hid (Gro w.heap.size (w.drew.alloc (.cells Z.toArray 5)) (.slice (some ⟨w.heap.size, 0, none⟩) 0 C) []) := ⟨by simp, .inr ⟨w.heap.size, C, Z.toArray, rfl, Nat.le_refl _, heap_alloc_new w.drew _, Nat.zero_le _, h2, by simp [h3], by simp⟩⟩
    have B1 : Hid (Below w.heap.size w (w.drew.alloc (.cells Z.toArray 5))) := (undrew ((Below.refl _ w.drew).alloc (Nat.le_refl _) _))
    clear hrun h3
    generalize w.drew.alloc (.cells Z.toArray 5) = w1 at *
    go_enter Try.func82, Try.ntmps82
    go_wp2_with (at_builtin; refine wpList_app rfl _ _ 27 3 rfl _ _ rfl rfl HR.out ?_)
    go_wp2
    go_ret
    exact ⟨_, rfl, G1.out, B1.out⟩

/-- two byte texts, one behind the other -/
def two (k : Nat) (H T : List Int) : List Int := match k with
  | 0 => []
  | 1 => H
  | _ => H ++ T

set_option maxRecDepth 100000 in
set_option maxHeartbeats 4000000 in
theorem Concat_any {A : Nat → Prop} {w : World} {b : Nat} {hv tv : Value} {H T : List Int} (c0 : w.cell? ⟨b, 0, none⟩ = some hv) (c1 : w.cell? ⟨b, 1, none⟩ = some tv) (ih : IsF A w hv H) (it : IsF A w tv T) (hH : H.length ≤ 400) (hT : T.length ≤ 400) :
    Calls Try.prog 53 #[.slice (some ⟨b, 0, none⟩) 2 2] w fun e w' => ∃ a c, e = .returned (.slice a (H ++ T).length c) ∧ Gro w.heap.size w' (.slice a (H ++ T).length c) (H ++ T) ∧ Below w.heap.size w w' := by
  obtain ⟨ha, hc, rfl, hhc, _⟩ := ih.shape
  obtain ⟨ta, tc, rfl, htc, _⟩ := it.shape
  have IH := hide ih
  have IT := hide it
  have hb := World.block_lt_of_cell? w _ c0
  have CC : Hid (∀ W : World, Below w.heap.size w W → W.cell? ⟨b, 0, none⟩ = some (.slice ha H.length hc) ∧ W.cell? ⟨b, 1, none⟩ = some (.slice ta T.length tc)) := fun W hB => ⟨(hB.cell (p := ⟨b, 0, none⟩) hb).trans c0, (hB.cell (p := ⟨b, 1, none⟩) hb).trans c1⟩
  have zh : (H.length : Int) ≤ 400 := by omega
  have zt : (T.length : Int) ≤ 400 := by omega
  have L0 : ([] : List Int).length + H.length ≤ 140737488355328 := by simp; omega
  have L1 : H.length + T.length ≤ 140737488355328 := by omega
  have GR := hide (Grow_nil w (H.length + T.length) (by omega))
  clear ih it
  go_enter Try.func53, Try.ntmps53
  go_wp2
  go_loopw [3, 11] (fun v3 v11 wr => Hid (wr = w) ∧ ((v11 = .int .i64 0 ∧ v3 = .int .i64 0) ∨ (v11 = .int .i64 1 ∧ v3 = .int .i64 (H.length : Int)) ∨ (v11 = .int .i64 2 ∧ v3 = .int .i64 ((H.length : Int) + (T.length : Int))))) (fun _ v11 _ => 2 - (intOf v11).toNat)
  case atStart => exact ⟨rfl, .inl ⟨rfl, rfl⟩⟩
  case round =>
    obtain ⟨hww, ⟨rfl, rfl⟩ | ⟨rfl, rfl⟩ | ⟨rfl, rfl⟩⟩ := hrel
    all_goals have hwe := hww.out.symm
    all_goals subst hwe
    · go_wp2
      go_roundw
      case rel => exact ⟨by unfold Hid; trivial, .inr (.inl ⟨rfl, rfl⟩)⟩
      case measure => decide
    · go_wp2
      go_roundw
      case rel => exact ⟨by unfold Hid; trivial, .inr (.inr ⟨rfl, rfl⟩)⟩
      case measure => decide
    · rw [show ((H.length : Int) + (T.length : Int)) = ((H.length + T.length : Nat) : Int) by omega]
      go_wp2_with fail
      refine GR.out.mono ?_
      rintro _ w1 ⟨v, rfl, hG, hB⟩
      obtain ⟨ga, gc, rfl, _⟩ := hG.shape
      have HG := hide hG
      have HB := hide hB
      clear hG hB GR c0 c1
      have EL : Hid ((H ++ T).length = H.length + T.length) := List.length_append
      go_wp2
      go_loopw [6, 27] (fun v6 v27 wr => ∃ k : Nat, k ≤ 2 ∧ v27 = .int .i64 (k : Int) ∧ (∃ a c, v6 = .slice a (two k H T).length c ∧ Hid (Gro w.heap.size wr (.slice a (two k H T).length c) (two k H T))) ∧ Hid (Below w.heap.size w wr)) (fun _ v27 _ => 2 - (intOf v27).toNat)
      case atStart => exact ⟨0, by omega, rfl, ⟨_, _, rfl, HG.out⟩, HB.out⟩
      case round =>
        obtain ⟨k, hk, rfl, ⟨a1, cp1, rfl, g1⟩, hb1⟩ := hrel
        obtain ⟨d0, d1⟩ := CC.out _ hb1.out
        have hk3 : k = 0 ∨ k = 1 ∨ k = 2 := by omega
        rcases hk3 with rfl | rfl | rfl
        · go_wp2_with (at_builtin; refine wpList_grow rfl _ _ rfl rfl w.heap.size A _ _ [] H rfl rfl g1.out (IH.out.later hb1.out) hb1.out.size L0 H (List.nil_append _) ?_)
          intro a2 c2 w2 _ hg2 hb2
          have G2 := hide hg2
          have B2 := hide (hb1.out.trans hb2)
          clear hg2 hb2
          go_wp2
          go_roundw
          case rel => exact ⟨1, by omega, rfl, ⟨_, _, rfl, G2.out⟩, B2.out⟩
          case measure => decide
        · go_wp2_with (at_builtin; refine wpList_grow rfl _ _ rfl rfl w.heap.size A _ _ H T rfl rfl g1.out (IT.out.later hb1.out) hb1.out.size L1 (H ++ T) rfl ?_)
          intro a2 c2 w2 _ hg2 hb2
          have G2 := hide hg2
          have B2 := hide (hb1.out.trans hb2)
          clear hg2 hb2
          go_wp2
          go_roundw
          case rel => exact ⟨2, by omega, rfl, ⟨a2, c2, by rw [show (two 2 H T).length = H.length + T.length from List.length_append], by rw [show (two 2 H T).length = H.length + T.length from List.length_append]; exact G2.out⟩, B2.out⟩
          case measure => decide
        · go_wp2
          go_ret
          exact ⟨_, _, rfl, g1.out, hb1.out⟩
end Go.Proofs.Ytjkfjijnjkpbbaa
