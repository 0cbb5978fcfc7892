
/-
  Package ip4: the contract of join.
-/
import Derived.Test.YtggadchhkenipaaI7
namespace Go.Proofs.Ytggadchhkenipaa
open Go.RowKit Go.Shelf

set_option maxRecDepth 100000 in
set_option maxHeartbeats 4000000 in
theorem join_any (pv : Value) (ps : List (List Int)) (w : World) (hI : IsP w.heap.size w pv ps) (hn : (ps.length : Int) ≤ 1000) (hto : ps.flatten.length ≤ 140737488355328) :
    Calls Try.prog 51 #[pv] w fun e w' => ∃ v, e = .returned v ∧ Gro w.heap.size w' v ps.flatten ∧ Below w.heap.size w w' := by
  obtain ⟨i0, hi, hz0, hz1, hz2⟩ := info_parts info_u8
  have HI := hide hI
  obtain ⟨a, cap, vs, rfl, hvl, hvc, hvb⟩ := hI
  obtain ⟨m, hm⟩ : ∃ m, m = vs.length := ⟨_, rfl⟩
  rw [← hm] at hvl hvc hvb ⊢
  have HVL := hide hvl
  have HV := hide hvc
  have HB := hide hvb
  have zm : (m : Int) ≤ 1000 := by omega
  have part : ∀ i, i < m → ((ps.take (i + 1)).flatten).length = ((ps.take i).flatten).length + (ps[i]?.getD []).length ∧ ((ps.take (i + 1)).flatten).length ≤ 140737488355328 := fun i hi => by
    refine ⟨by rw [flat_succ ps i (by omega), List.length_append], ?_⟩
    have h3 : ((ps.take (i + 1)).flatten).length ≤ ps.flatten.length := by rw [flat_split ps (i + 1)]; simp
    omega
  have PT := hide part
  have FULL : Hid ((ps.take m).flatten = ps.flatten) := by unfold Hid; rw [hvl, List.take_length]
  have HTO := hide hto
  clear hvl hvc hvb part hm HI hn hto
  go_enter Try.func51, Try.ntmps51
  go_wp2
  go_loop [3, 11] (fun v3 v11 => ∃ (i q : Nat), v11 = .int .i64 (i : Int) ∧ v3 = .int .i64 (q : Int) ∧ i ≤ m ∧ Hid (q = ((ps.take i).flatten).length) ∧ q ≤ 140737488355328) (fun _ v11 => m - (intOf v11).toNat)
  case atStart => exact ⟨0, 0, rfl, rfl, Nat.zero_le _, by simp [Hid], by omega⟩
  case round =>
    obtain ⟨i, q, rfl, rfl, hi', hq, hq2⟩ := hrel
    by_cases hlt : i < m
    · obtain ⟨b, off, rfl, hb, hcs⟩ := HV.out (by omega)
      have x0 := hcs i hlt
      obtain ⟨ax, cx, ex, hlx, _, _⟩ := HB.out i hlt
      rw [ex] at x0
      obtain ⟨n, hn⟩ : ∃ n, n = (ps[i]?.getD []).length := ⟨_, rfl⟩
      obtain ⟨p1, p2⟩ := PT.out i hlt
      rw [← hn] at x0 p1
      have zi : (i : Int) < (m : Int) := by omega
      have hqn : q + n ≤ 140737488355328 := by have := hq.out; omega
      have zq : (q : Int) + (n : Int) ≤ 140737488355328 := by omega
      have HP : Hid (q + n = ((ps.take (i + 1)).flatten).length) := by have := hq.out; unfold Hid; omega
      clear hcs ex hlx hn p1 p2
      go_wp2
      go_round
      case rel => exact ⟨i + 1, q + n, by go_num, by go_num, hlt, HP.out, hqn⟩
      case measure => simp [intOf]; omega
    · obtain rfl : i = m := by omega
      have zi : ¬ (i : Int) < (i : Int) := by omega
      have HQ := hide (hq.out.trans (by rw [FULL.out]))
      clear hq
      go_wp2_with (at_make; refine wpList_make_own _ rfl _ _ 24 rfl w.heap.size 5 i0 (.int .u8 0) 1 Try.underlying24 hi hz0 hz1 .i64 .i64 _ q rfl rfl rfl (by rw [hz2]; omega) (by unfold maxLen; omega) (Nat.le_refl _) ?_)
      intro w2 hown hg
      have b2 : Below w.heap.size w w2 := (Below.refl _ w).grown hg (Nat.le_refl _) (fun k e => by cases e)
      have G2 : Hid (Gro w.heap.size w2 (.slice (some ⟨w.heap.size, 0, none⟩) 0 q) []) := hown
      have HB2 := hide b2
      clear hown hg b2
      go_wp2
      go_loopw [6, 24] (fun v6 v24 wr => ∃ (j : Nat) (L : List Int) (ao : Option Addr) (co : Nat), v24 = .int .i64 (j : Int) ∧ v6 = .slice ao L.length co ∧ j ≤ i ∧ Hid (L = (ps.take j).flatten) ∧ Hid (Gro w.heap.size wr (.slice ao L.length co) L) ∧ Hid (Below w.heap.size w wr)) (fun _ v24 _ => i - (intOf v24).toNat)
      case atStart => exact ⟨0, [], _, q, rfl, rfl, Nat.zero_le _, by simp [Hid], G2.out, HB2.out⟩
      case round =>
        obtain ⟨j, L, ao, co, rfl, rfl, hj, hL, hG, hBw⟩ := hrel
        by_cases hlt : j < i
        · obtain ⟨b, off, rfl, hb, hcs⟩ := HV.out (by omega)
          have x0 : wr.cell? ⟨b, off + j, none⟩ = some (vs[j]?.getD undef) := (hBw.out.cell (p := ⟨b, off + j, none⟩) hb).trans (hcs j hlt)
          have ib := (HB.out j hlt).below hBw.out
          obtain ⟨ax, cx, ex, _⟩ := ib
          have ib := ((HB.out j hlt).below hBw.out).mono hBw.out.size
          rw [ex] at x0 ib
          obtain ⟨ys, hys⟩ : ∃ ys, ys = ps[j]?.getD [] := ⟨_, rfl⟩
          rw [← hys] at x0 ib
          obtain ⟨p1, p2⟩ := PT.out j hlt
          obtain ⟨L2, hL2⟩ : ∃ L2, L ++ ys = L2 := ⟨_, rfl⟩
          have hll : L.length + ys.length ≤ 140737488355328 := by rw [hL.out, hys, ← p1]; exact p2
          have HL2 : Hid (L2 = (ps.take (j + 1)).flatten) := by
            unfold Hid
            rw [← hL2, hL.out, hys, flat_succ ps j (by have := HVL.out; omega)]
          obtain ⟨yn, hyn⟩ : ∃ yn, yn = ys.length := ⟨_, rfl⟩
          rw [← hyn] at x0
          have IB := hide ib
          have E2 := hide hL2
          have HYN := hide hyn
          have HLL := hide hll
          have zi2 : (j : Int) < (i : Int) := by omega
          clear hcs ex hys p1 p2 hL2 ib hyn hll
          rw [← HYN.out] at IB
          go_wp2_with (at_builtin; refine wpList_growB rfl _ _ rfl rfl w.heap.size _ _ L ys rfl rfl hG.out IB.out hBw.out.size HLL.out L2 E2.out ?_)
          intro a4 c4 w4 hc4 g4 b4
          have G4 := hide g4
          have B4 := hide (hBw.out.trans b4)
          clear g4 b4 x0 hc4
          go_wp2
          go_roundw
          case rel => exact ⟨j + 1, L2, a4, c4, by go_num, rfl, hlt, HL2.out, G4.out, B4.out⟩
          case measure => simp [intOf]; omega
        · obtain rfl : j = i := by omega
          have zi2 : ¬ (j : Int) < (j : Int) := by omega
          have G5 : Hid (Gro w.heap.size wr (.slice ao L.length co) ps.flatten) := by
            have := hG.out
            rw [show L = ps.flatten by rw [hL.out, FULL.out]] at this ⊢
            exact this
          go_wp2
          go_ret
          exact ⟨_, rfl, G5.out, hBw.out⟩
theorem join_lit (vs : List Value) (ps : List (List Int)) (w : World) (hl : vs.length = ps.length) (h : ∀ j, j < vs.length → IsB w.heap.size w (vs[j]?.getD undef) (ps[j]?.getD [])) (hn : (ps.length : Int) ≤ 1000) (hto : ps.flatten.length ≤ 140737488355328) :
    Calls Try.prog 51 #[.slice (some ⟨w.heap.size, 0, none⟩) vs.length vs.length] (w.alloc (.cells vs.toArray 24)) fun e w' => ∃ v, e = .returned v ∧ Gro w.heap.size w' v ps.flatten ∧ Below w.heap.size w w' := by
  have hp : IsP (w.alloc (.cells vs.toArray 24)).heap.size (w.alloc (.cells vs.toArray 24)) (.slice (some ⟨w.heap.size, 0, none⟩) vs.length vs.length) ps := by
    rw [World.size_alloc]
    exact IsP_new vs ps hl h
  refine (join_any _ ps _ hp hn hto).mono ?_
  rintro e w' ⟨v, rfl, hG, hB⟩
  refine ⟨v, rfl, ?_, (later_alloc w _).trans (hB.mono (by simp))⟩
  obtain ⟨h1, h2 | ⟨g, cap, cur, e, hg, r⟩⟩ := hG
  · exact ⟨h1, .inl h2⟩
  · exact ⟨h1, .inr ⟨g, cap, cur, e, by rw [World.size_alloc] at hg; omega, r⟩⟩
end Go.Proofs.Ytggadchhkenipaa
