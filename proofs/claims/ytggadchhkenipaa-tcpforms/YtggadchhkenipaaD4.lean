
/-
  slices.Concat at bytes; package tcp: Encode.
-/
import Derived.Test.YtggadchhkenipaaD3
namespace Go.Proofs.Ytggadchhkenipaa
open Go.RowKit Go.Shelf

theorem wpList_ap2 {w : World} {ops : Array Oper} {rest : List Oper} {o : Oper} {a : Act} {Q : Exit → Act → World → Prop} (hgd : o.guard = none) (d s : Operand) (t t' : TypeId)
    (ho : o.op = .call { callee := .builtin .append, args := #[d, s], argTypes := #[t, t'] }) (v u : Value) (hd : a.eval d = v) (hs : a.eval s = u) {v' : Value} {w' : World}
    (hr : (Builtin.append_ #[t, t'] o.type #[v, u]).run Try.prog w = .ok v' w') (h : wpList Try.prog ops Q rest (a.put o.dst v') w') : wpList Try.prog ops Q (o :: rest) a w :=
  wpList_plain hgd fun _ hK => by
    unfold Oper.wp execOp
    simp only [ho, resolve, invoke, builtin, Sem.run_bind, Sem.run_pure, Result.andThen_ok, List.map_toArray, List.map_cons, List.map_nil, hd, hs, hr]
    exact hK _ _ h

theorem int_uT : Try.prog.underlying 3 = some (.int .i64) := by kernel_rfl
set_option maxRecDepth 100000 in
/-- append(nil, make([]byte, m)...) -/
theorem run_zerosT (w : World) (m : Nat) (h0 : 0 < m) (hm : m ≤ 1000000) :
    ∃ (C : Nat) (Z : List Value), (Builtin.append_ #[24, 3] 24 #[.slice none 0 0, .int .i64 m]).run Try.prog w =
      .ok (.slice (some ⟨w.heap.size, 0, none⟩) m C) (w.drew.alloc (.cells Z.toArray 5)) ∧ m ≤ C ∧ C ≤ maxLen ∧ Z.length = C := by
  obtain ⟨i, hi, hz, hsz, hby⟩ := info_parts info_u8
  have hn : ¬ (m = 0) := by omega
  have hw : IntKind.i64.wrap (m : Int) = m := wrapI _ (by omega) (by omega)
  have h63' : ¬ (9223372036854775807 < (m : Int)) := by omega
  have hfit : Builtin.nextslicecap m 0 * i.bytes ≤ 281474976710656 := growslice_fits (by omega) (by rw [hby]; omega)
  have h48' : ¬ (281474976710656 < Builtin.nextslicecap m 0 * i.bytes) := by omega
  have h48i : ¬ (281474976710656 < (m : Int) * (i.bytes : Int)) := by rw [hby]; omega
  have hneg : ¬ ((m : Int) < 0) := by omega
  have hge := grownCap_ge w m 0 5
  have hle : grownCap w m 0 5 ≤ maxLen := grownCap_le_maxLen w m 0 5 (by unfold maxLen; omega)
  refine ⟨grownCap w m 0 5, (Builtin.zeroCells #[.int .u8 0] m).toList ++ (Builtin.zeroCells #[.int .u8 0] (grownCap w m 0 5 - m)).toList, ?_, hge, hle, ?_⟩
  · simp [Builtin.append_, run_underlying Try.underlying24, run_underlying int_uT, sizeOf, typeInfo, zeroValue, hi, hz, hsz, asInt, asIntOf, hw, hn, hneg, h63', h48', h48i, Question.forced, Builtin.firstCells, newRow, grownCap, Value.cells]
    congr 2
    apply Array.ext'
    simp
  · rw [List.length_append, Array.length_toList, Array.length_toList, size_zeroCells, size_zeroCells]
    show m * 1 + (grownCap w m 0 5 - m) * 1 = _
    omega

set_option maxRecDepth 100000 in
theorem GrowT_nil (w : World) (m : Nat) (hm : m ≤ 1000000) : Calls Try.prog 48 #[.slice none 0 0, .int .i64 (m : Int)] w fun e w' => ∃ v, e = .returned v ∧ Gro w.heap.size w' v [] ∧ Below w.heap.size w w' := by
  have z : (m : Int) ≤ 1000000 := by omega
  by_cases h0 : m = 0
  · subst h0
    go_enter Try.func48, Try.ntmps48
    go_wp2
    go_ret
    exact ⟨_, rfl, Gro.nil _ _, Below.refl _ _⟩
  · obtain ⟨C, Z, hrun, h1, h2, h3⟩ := run_zerosT w m (by omega) hm
    have z0 : (0 : Int) < m := by omega
    have HR := hide hrun
    have G1 : Hid (Gro w.heap.size (w.drew.alloc (.cells Z.toArray 5)) (.slice (some ⟨w.heap.size, 0, none⟩) 0 C) []) := ⟨by simp, .inr ⟨w.heap.size, C, Z.toArray, rfl, Nat.le_refl _, heap_alloc_new w.drew _, Nat.zero_le _, h2, by simp [h3], by simp⟩⟩
    have B1 : Hid (Below w.heap.size w (w.drew.alloc (.cells Z.toArray 5))) := ((Below.refl _ w).drew.trans ((Below.refl _ w.drew).alloc (Nat.le_refl _) _))
    clear hrun h3
    generalize w.drew.alloc (.cells Z.toArray 5) = w1 at *
    go_enter Try.func48, Try.ntmps48
    go_wp2_with (at_builtin; refine wpList_ap2 rfl _ _ 24 3 rfl _ _ rfl rfl HR.out ?_)
    go_wp2
    go_ret
    exact ⟨_, rfl, G1.out, B1.out⟩


set_option maxRecDepth 100000 in
set_option maxHeartbeats 4000000 in
theorem ConcatT_any (pv : Value) (ps : List (List Int)) (w : World) (hI : IsP w.heap.size w pv ps) (hn : (ps.length : Int) ≤ 1000) (hto : ps.flatten.length ≤ 1000000) :
    Calls Try.prog 31 #[pv] w fun e w' => ∃ v, e = .returned v ∧ Gro w.heap.size w' v ps.flatten ∧ Below w.heap.size w w' := by
  have HI := hide hI
  obtain ⟨a, cap, vs, rfl, hvl, hvc, hvb⟩ := hI
  obtain ⟨m, hm⟩ : ∃ m, m = vs.length := ⟨_, rfl⟩
  rw [← hm] at hvl hvc hvb ⊢
  have HVL := hide hvl
  have HV := hide hvc
  have HB := hide hvb
  have zm : (m : Int) ≤ 1000 := by omega
  have part : ∀ i, i < m → ((ps.take (i + 1)).flatten).length = ((ps.take i).flatten).length + (ps[i]?.getD []).length ∧ ((ps.take (i + 1)).flatten).length ≤ 1000000 := fun i hi => by
    refine ⟨by rw [flat_succ ps i (by omega), List.length_append], ?_⟩
    have h3 : ((ps.take (i + 1)).flatten).length ≤ ps.flatten.length := by rw [flat_split ps (i + 1)]; simp
    omega
  have PT := hide part
  have FULL : Hid ((ps.take m).flatten = ps.flatten) := by unfold Hid; rw [hvl, List.take_length]
  have HTO := hide hto
  clear hvl hvc hvb part hm HI hn hto
  go_enter Try.func31, Try.ntmps31
  go_wp2
  go_loop [3, 5, 11] (fun v3 _ v11 => ∃ (i q : Nat), v11 = .int .i64 (i : Int) ∧ v3 = .int .i64 (q : Int) ∧ i ≤ m ∧ Hid (q = ((ps.take i).flatten).length) ∧ q ≤ 1000000) (fun _ _ v11 => m - (intOf v11).toNat)
  case atStart => exact ⟨0, 0, rfl, rfl, Nat.zero_le _, by simp [Hid], by omega⟩
  case round =>
    obtain ⟨i, q, rfl, rfl, hi', hq, hq2⟩ := hrel
    by_cases hlt : i < m
    · obtain ⟨b, off, rfl, hb, hcs⟩ := HV.out (by omega)
      have x0 := hcs i hlt
      obtain ⟨ax, cx, ex, hlx, _, _⟩ := HB.out i hlt
      rw [ex] at x0
      obtain ⟨n, hn⟩ : ∃ n, n = (ps[i]?.getD []).length := ⟨_, rfl⟩
      obtain ⟨p1, p2⟩ := PT.out i hlt
      rw [← hn] at x0 p1
      have zi : (i : Int) < (m : Int) := by omega
      have hqn : q + n ≤ 1000000 := by have := hq.out; omega
      have zq : (q : Int) + (n : Int) ≤ 1000000 := by omega
      have HP : Hid (q + n = ((ps.take (i + 1)).flatten).length) := by have := hq.out; unfold Hid; omega
      clear hcs ex hlx hn p1 p2
      go_wp2
      go_round
      case rel => exact ⟨i + 1, q + n, by go_num, by go_num, hlt, HP.out, hqn⟩
      case measure => simp [intOf]; omega
    · obtain rfl : i = m := by omega
      have zi : ¬ (i : Int) < (i : Int) := by omega
      have GR := hide (GrowT_nil w q hq2)
      clear hq
      go_wp2_with fail
      refine GR.out.mono ?_
      rintro _ w2 ⟨v2, rfl, g2, b2⟩
      obtain ⟨a2, c2, rfl, _⟩ := g2.isB.shape
      have G2 := hide g2
      have HB2 := hide b2
      clear g2 b2 GR
      go_wp2
      go_loopw [6, 8, 27] (fun v6 _ v27 wr => ∃ (j : Nat) (L : List Int) (ao : Option Addr) (co : Nat), v27 = .int .i64 (j : Int) ∧ v6 = .slice ao L.length co ∧ j ≤ i ∧ Hid (L = (ps.take j).flatten) ∧ Hid (Gro w.heap.size wr (.slice ao L.length co) L) ∧ Hid (Below w.heap.size w wr)) (fun _ _ v27 _ => i - (intOf v27).toNat)
      case atStart => exact ⟨0, [], _, c2, rfl, rfl, Nat.zero_le _, by simp [Hid], G2.out, HB2.out⟩
      case round =>
        obtain ⟨j, L, ao, co, rfl, rfl, hj, hL, hG, hBw⟩ := hrel
        by_cases hlt : j < i
        · obtain ⟨b, off, rfl, hb, hcs⟩ := HV.out (by omega)
          have x0 : wr.cell? ⟨b, off + j, none⟩ = some (vs[j]?.getD undef) := (hBw.out.cell (p := ⟨b, off + j, none⟩) hb).trans (hcs j hlt)
          have ib := (HB.out j hlt).below hBw.out
          obtain ⟨ax, cx, ex, _⟩ := ib
          have ib := ((HB.out j hlt).below hBw.out).mono hBw.out.size
          rw [ex] at x0 ib
          obtain ⟨ys, hys⟩ : ∃ ys, ys = ps[j]?.getD [] := ⟨_, rfl⟩
          rw [← hys] at x0 ib
          obtain ⟨p1, p2⟩ := PT.out j hlt
          obtain ⟨L2, hL2⟩ : ∃ L2, L ++ ys = L2 := ⟨_, rfl⟩
          have hll : L.length + ys.length ≤ 140737488355328 := by rw [hL.out, hys, ← p1]; omega
          have HL2 : Hid (L2 = (ps.take (j + 1)).flatten) := by
            unfold Hid
            rw [← hL2, hL.out, hys, flat_succ ps j (by have := HVL.out; omega)]
          obtain ⟨yn, hyn⟩ : ∃ yn, yn = ys.length := ⟨_, rfl⟩
          rw [← hyn] at x0
          have IB := hide ib
          have E2 := hide hL2
          have HYN := hide hyn
          have HLL := hide hll
          have zi2 : (j : Int) < (i : Int) := by omega
          clear hcs ex hys p1 p2 hL2 ib hyn hll
          rw [← HYN.out] at IB
          go_wp2_with (at_builtin; refine wpList_growB rfl _ _ rfl rfl w.heap.size _ _ L ys rfl rfl hG.out IB.out hBw.out.size HLL.out L2 E2.out ?_)
          intro a4 c4 w4 hc4 g4 b4
          have G4 := hide g4
          have B4 := hide (hBw.out.trans b4)
          clear g4 b4 x0 hc4
          go_wp2
          go_roundw
          case rel => exact ⟨j + 1, L2, a4, c4, by go_num, rfl, hlt, HL2.out, G4.out, B4.out⟩
          case measure => simp [intOf]; omega
        · obtain rfl : j = i := by omega
          have zi2 : ¬ (j : Int) < (j : Int) := by omega
          have G5 : Hid (Gro w.heap.size wr (.slice ao L.length co) ps.flatten) := by
            have := hG.out
            rw [show L = ps.flatten by rw [hL.out, FULL.out]] at this ⊢
            exact this
          go_wp2
          go_ret
          exact ⟨_, rfl, G5.out, hBw.out⟩
theorem concat_lit (vs : List Value) (ps : List (List Int)) (w : World) (hl : vs.length = ps.length) (h : ∀ j, j < vs.length → IsB w.heap.size w (vs[j]?.getD undef) (ps[j]?.getD [])) (hn : (ps.length : Int) ≤ 1000) (hto : ps.flatten.length ≤ 1000000) :
    Calls Try.prog 31 #[.slice (some ⟨w.heap.size, 0, none⟩) vs.length vs.length] (w.alloc (.cells vs.toArray 24)) fun e w' => ∃ v, e = .returned v ∧ Gro w.heap.size w' v ps.flatten ∧ Below w.heap.size w w' := by
  have hp : IsP (w.alloc (.cells vs.toArray 24)).heap.size (w.alloc (.cells vs.toArray 24)) (.slice (some ⟨w.heap.size, 0, none⟩) vs.length vs.length) ps := by
    rw [World.size_alloc]
    exact IsP_new vs ps hl h
  refine (ConcatT_any _ ps _ hp hn hto).mono ?_
  rintro e w' ⟨v, rfl, hG, hB⟩
  exact ⟨v, rfl, hG.low (by simp), (later_alloc w _).trans (hB.mono (by simp))⟩
end Go.Proofs.Ytggadchhkenipaa
