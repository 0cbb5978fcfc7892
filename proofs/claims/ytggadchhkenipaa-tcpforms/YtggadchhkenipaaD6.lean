
/-
  Package tcp: options are told one by one.
-/
import Derived.Test.YtggadchhkenipaaD5
namespace Go.Proofs.Ytggadchhkenipaa
open Go.RowKit Go.Shelf
attribute [local go_sem] Oper.semAt_some

/-- how many bytes belong to the option that they begin with -/
def szT (b : List Int) : Nat := if b[0]?.getD 0 = 0 then 1 else if b[0]?.getD 0 = 1 then 1 else if b.length < 2 then 0 else if b[1]?.getD 0 < 2 ∨ (b.length : Int) < b[1]?.getD 0 then 0 else (b[1]?.getD 0).toNat
theorem szT_le (b : List Int) (h : 0 < b.length) : szT b ≤ b.length := by
  unfold szT
  split
  · omega
  · split
    · omega
    · split
      · omega
      · split
        · omega
        · omega
set_option maxHeartbeats 1000000 in
theorem sizeOfT_any (g off cap : Nat) (bs : List Int) (w : World) (hc : ∀ j, j < bs.length → w.cell? ⟨g, off + j, none⟩ = some (.int .u8 (bs[j]?.getD 0))) (hl : (bs.length : Int) ≤ 4611686018427387904) (h0 : 0 < bs.length) (hB : Bytes bs) :
    Calls Try.prog 69 #[.slice (some ⟨g, off, none⟩) bs.length cap] w fun e w' => e = .returned (.int .i64 (szT bs)) ∧ w' = w := by
  have x0 := hc 0 h0
  obtain ⟨X0, X1⟩ := hB.getD 0
  have SZ : Hid (szT bs = if bs[0]?.getD 0 = 0 then 1 else if bs[0]?.getD 0 = 1 then 1 else if bs.length < 2 then 0 else if bs[1]?.getD 0 < 2 ∨ (bs.length : Int) < bs[1]?.getD 0 then 0 else (bs[1]?.getD 0).toNat) := rfl
  obtain ⟨z, hz⟩ : ∃ z, z = szT bs := ⟨_, rfl⟩
  rw [← hz] at SZ ⊢
  have x1 : 2 ≤ bs.length → w.cell? ⟨g, off + 1, none⟩ = some (.int .u8 (bs[1]?.getD 0)) := fun h => hc 1 (by omega)
  obtain ⟨Y0, Y1⟩ := hB.getD 1
  generalize bs[0]?.getD 0 = x at *
  generalize bs[1]?.getD 0 = y at *
  generalize bs.length = n at *
  simp only [Nat.add_zero] at x0
  have zn : (0 : Int) < (n : Int) := by omega
  have HX1 := hide x1
  clear hz hc x1 hB
  go_enter Try.func69, Try.ntmps69
  by_cases e0 : x = 0
  · have q0 : (x == 0) = true := by rw [e0]; rfl
    have E : Hid (z = 1) := by unfold Hid; rw [SZ.out, if_pos e0]
    clear e0
    go_wp2
    go_ret
    exact ⟨ret_int (by rw [E.out]; rfl), rfl⟩
  · have q0 : (x == 0) = false := by simpa using e0
    by_cases e1 : x = 1
    · have q1 : (x == 1) = true := by rw [e1]; rfl
      have E : Hid (z = 1) := by unfold Hid; rw [SZ.out, if_neg e0, if_pos e1]
      clear e0 e1
      go_wp2
      go_ret
      exact ⟨ret_int (by rw [E.out]; rfl), rfl⟩
    · have q1 : (x == 1) = false := by simpa using e1
      by_cases e2 : n < 2
      · have zn2 : (n : Int) < 2 := by omega
        have E : Hid (z = 0) := by unfold Hid; rw [SZ.out, if_neg e0, if_neg e1, if_pos e2]
        clear e0 e1
        go_wp2
        go_ret
        exact ⟨ret_int (by rw [E.out]; rfl), rfl⟩
      · have zn2 : ¬ (n : Int) < 2 := by omega
        have zn3 : (1 : Int) < (n : Int) := by omega
        have y1 := HX1.out (by omega)
        by_cases e3 : y < 2
        · have E : Hid (z = 0) := by unfold Hid; rw [SZ.out, if_neg e0, if_neg e1, if_neg e2, if_pos (.inl e3)]
          clear e0 e1
          go_wp2
          go_ret
          exact ⟨ret_int (by rw [E.out]; rfl), rfl⟩
        · by_cases e4 : (n : Int) < y
          · have E : Hid (z = 0) := by unfold Hid; rw [SZ.out, if_neg e0, if_neg e1, if_neg e2, if_pos (.inr e4)]
            clear e0 e1
            go_wp2
            go_ret
            exact ⟨ret_int (by rw [E.out]; rfl), rfl⟩
          · have E : Hid (z = y.toNat) := by unfold Hid; rw [SZ.out, if_neg e0, if_neg e1, if_neg e2, if_neg (by omega)]
            clear e0 e1
            go_wp2
            go_ret
            exact ⟨ret_int (by rw [E.out]; omega), rfl⟩
theorem optionsT_in (n : Nat) (a : Option Addr) (len cap : Nat) (w : World) :
    CallsIn Fence.wide n Try.prog 59 #[.slice a len cap] w fun e w' => e = .returned (.func (.func 68) #[] #[.pointer (some ⟨w.heap.size, 0, none⟩)]) ∧ w' = w.alloc (.cells #[.slice a len cap] 24) := by
  refine callsIn_of_wp Try.func59 rfl trivial ?_ rfl
  simp only [Try.ntmps59, List.size_toArray, List.length_cons, List.length_nil, Nat.reduceAdd, Nat.reduceSub, Array.replicate_succ, Array.replicate_zero, List.push_toArray, List.append_toArray, List.nil_append, List.cons_append]
  gi_wp2
  go_ret
  exact ⟨rfl, rfl⟩
set_option maxRecDepth 100000 in
set_option maxHeartbeats 4000000 in
theorem optionsT_tells (n : Nat) (hn : 1 ≤ n) (Bc g off N C : Nat) (a0 : Option Addr) (bs : List Int) (hN : bs.length = N) (hNC : N ≤ C) (ha : 0 < N → a0 = some ⟨g, off, none⟩) (hB : Bytes bs) (hlb : (N : Int) ≤ 4611686018427387904) (I : Nat × Bool → World → Prop)
    (hI : ∀ s W, I s W → W.cell? ⟨Bc, 0, none⟩ = some (.slice a0 N C) ∧ ∀ j, j < N → W.cell? ⟨g, off + j, none⟩ = some (.int .u8 (bs[j]?.getD 0))) (hId : ∀ s W, I s W → I s W.drew) :
    Tells n 68 #[.pointer (some ⟨Bc, 0, none⟩)] I (fun s args => s.2 = false ∧ s.1 < N ∧ ∃ c, args = #[.int .u8 (bs[s.1]?.getD 0), .slice (some ⟨g, off + s.1, none⟩) (szT (bs.drop s.1)) c] ∧ szT (bs.drop s.1) ≤ c) (fun s _ s' => s' = (s.1 + szT (bs.drop s.1), decide (szT (bs.drop s.1) = 0))) (fun s => s.2 = true ∨ s.1 = N) (0, false) := by
  intro lp B Bx W hBa hXa hBd hXd hY h0 hB0
  obtain ⟨q1, q2⟩ := hI _ W h0
  have KEY := hide hI
  have HY := hide hY
  have HA := hide ha
  have I0 := hide h0
  have B0 := hide hB0
  have HBD := hide hBd
  have HID := hide hId
  have HN := hide hN
  have HBY := hide hB
  clear hI hY h0 hB0 hBa hXa hBd hXd ha q2 hId hN hB
  refine callsIn_of_wp Try.func68 rfl trivial ?_ rfl
  simp only [Try.ntmps68, List.size_toArray, List.length_cons, List.length_nil, Nat.reduceAdd, Nat.reduceSub, Array.replicate_succ, Array.replicate_zero, List.push_toArray, List.append_toArray, List.nil_append, List.cons_append]
  gi_wp2
  clear q1
  gi_loopw [3] (fun va wr => ∃ (k m c : Nat) (ar : Option Addr), va = .slice ar m c ∧ Hid (k + m = N) ∧ m ≤ c ∧ c ≤ C ∧ Hid (0 < m → ar = some ⟨g, off + k, none⟩) ∧ Hid (I (k, false) wr) ∧ Hid (B wr)) (fun va _ => match va with | .slice _ m _ => m | _ => 0)
  case atStart => exact ⟨0, N, C, a0, rfl, Nat.zero_add _, hNC, Nat.le_refl _, fun h => by rw [HA.out h, Nat.add_zero], I0.out, B0.out⟩
  case round =>
    obtain ⟨k, m, c, ar, rfl, hkm, hmc, hcC, har, hIm, hBm⟩ := hrel
    by_cases h0 : 0 < m
    · have ear := har.out h0
      subst ear
      have zm : (0 : Int) < (m : Int) := by omega
      have hl : (bs.drop k).length = m := by rw [List.length_drop]; have := HN.out; have := hkm.out; omega
      obtain ⟨q1, q2⟩ := KEY.out _ wr hIm.out
      have hcs : ∀ j, j < (bs.drop k).length → wr.cell? ⟨g, off + k + j, none⟩ = some (.int .u8 ((bs.drop k)[j]?.getD 0)) := fun j hj => by
        rw [List.getElem?_drop, Nat.add_assoc]
        exact q2 (k + j) (by have := hkm.out; omega)
      have SZ := sizeOfT_any g (off + k) c (bs.drop k) wr hcs (by have := hkm.out; omega) (by omega) (HBY.out.drop k)
      have zle := szT_le (bs.drop k) (by omega)
      rw [hl] at SZ zle
      have xk : wr.drew.cell? ⟨g, off + k, none⟩ = some (.int .u8 (bs[k]?.getD 0)) := q2 k (by have := hkm.out; omega)
      obtain ⟨z, hz⟩ : ∃ z, z = szT (bs.drop k) := ⟨_, rfl⟩
      rw [← hz] at SZ zle
      obtain ⟨fn, tmps, assign, body, hy, hR⟩ := HY.out (k, false) wr.drew #[.int .u8 (bs[k]?.getD 0), .slice (some ⟨g, off + k, none⟩) z c] (HID.out _ _ hIm.out) (HBD.out _ hBm.out) ⟨rfl, by have := hkm.out; show k < N; omega, c, by rw [hz], by rw [← hz]; omega⟩
      obtain ⟨x, hx⟩ : ∃ x, x = bs[k]?.getD 0 := ⟨_, rfl⟩
      rw [← hx] at xk hy
      have HZ := hide hz
      have HSZ := hide SZ
      have HRd := hide hR
      have HYR := hide hy
      have HXK := hide xk
      clear hz SZ hR hcs q1 q2 hl hx hy xk
      gi_wp2_with fail
      refine ⟨trivial, ?_⟩
      refine (callsIn_wide.2 HSZ.out).mono ?_
      rintro _ w2 ⟨rfl, e2⟩
      rw [e2]
      clear e2
      gi_wp2_with fail
      refine wpIn_region_any (by kernel_rfl) ?_
      show wpAnyIn _ _ _ _ _ _ _ _ _ wr.drew
      refine takeW (i := 0) (v := .func (.yield lp) #[] #[]) 11 rfl rfl (by kernel_rfl) (by kernel_rfl) (by kernel_rfl) (fun _ _ _ h => h) (.inl ⟨by rfl, fun W => exec_move _ _ rfl rfl⟩) (fun _ => rfl) ?_
      try simp only [Act.put, List.setIfInBounds_toArray, List.set_cons_zero, List.set_cons_succ]
      refine takeW (i := 1) (v := .slice (some ⟨g, off + k, none⟩) m c) 12 rfl rfl (by kernel_rfl) (by kernel_rfl) (by kernel_rfl) (fun _ _ _ h => h) (.inl ⟨by rfl, fun W => exec_move _ _ rfl rfl⟩) (fun _ => rfl) ?_
      try simp only [Act.put, List.setIfInBounds_toArray, List.set_cons_zero, List.set_cons_succ]
      refine takeW (i := 2) (v := .pointer (some ⟨g, off + k, none⟩)) 13 rfl rfl (by kernel_rfl) (by kernel_rfl) (by kernel_rfl) (fun _ _ _ h => h) (.inl ⟨by rfl, fun W => exec_ixU _ _ g (off + k) m c 0 rfl rfl rfl h0⟩) (fun _ => rfl) ?_
      try simp only [Act.put, List.setIfInBounds_toArray, List.set_cons_zero, List.set_cons_succ]
      refine takeW (i := 4) (v := .slice (some ⟨g, off + k, none⟩) m c) 15 rfl rfl (by kernel_rfl) (by kernel_rfl) (by kernel_rfl) (fun _ _ _ h => h) (.inl ⟨by rfl, fun W => exec_move _ _ rfl rfl⟩) (fun _ => rfl) ?_
      try simp only [Act.put, List.setIfInBounds_toArray, List.set_cons_zero, List.set_cons_succ]
      refine takeW (i := 5) (v := .int .i64 (z : Int)) 16 rfl rfl (by kernel_rfl) (by kernel_rfl) (by kernel_rfl) (fun _ _ _ h => h) (.inl ⟨by rfl, fun W => exec_move _ _ rfl rfl⟩) (fun _ => rfl) ?_
      try simp only [Act.put, List.setIfInBounds_toArray, List.set_cons_zero, List.set_cons_succ]
      refine takeW (i := 6) (v := .slice (some ⟨g, off + k, none⟩) z c) 17 rfl rfl (by kernel_rfl) (by kernel_rfl) (by kernel_rfl) (fun _ _ _ h => h) (.inl ⟨by rfl, fun W => exec_slU _ _ _ m c z rfl rfl rfl (by omega)⟩) (fun _ => rfl) ?_
      try simp only [Act.put, List.setIfInBounds_toArray, List.set_cons_zero, List.set_cons_succ]
      refine nextW (w' := wr.drew) 3 14 (.int .u8 x) (by kernel_rfl) rfl rfl (by rfl) (exec_load1 5 oneU _ rfl g (off + k) rfl _ HXK.out) ?_
      try simp only [Act.put, List.setIfInBounds_toArray, List.set_cons_zero, List.set_cons_succ]
      refine roundW 7 18 (by kernel_rfl) rfl rfl (by rfl) (exec_yield _ _ _ _ _ lp _ _ _ rfl rfl rfl rfl HYR.out) HRd.out ?_
      rintro e W4 (⟨rfl, s', hs', hI4, hB4⟩ | ⟨rfl, hX⟩)
      · refine ⟨_, rfl, ?_⟩
        simp only [Act.put, List.setIfInBounds_toArray, List.set_cons_zero, List.set_cons_succ]
        have hs' : s' = (k + szT (bs.drop k), decide (szT (bs.drop k) = 0)) := hs'
        rw [← HZ.out] at hs'
        subst hs'
        by_cases hz0 : z = 0
        · subst hz0
          refine takeW (i := 8) (v := .bool false) 19 rfl rfl (by kernel_rfl) (by kernel_rfl) (by kernel_rfl) (fun _ _ _ h => h) (.inl ⟨by rfl, fun W => exec_not _ _ true rfl rfl⟩) (fun _ => rfl) ?_
          try simp only [Act.put, List.setIfInBounds_toArray, List.set_cons_zero, List.set_cons_succ]
          refine takeW (i := 9) (v := .bool false) 20 rfl rfl (by kernel_rfl) (by kernel_rfl) (by kernel_rfl) (fun _ _ _ h => h) (.inl ⟨by rfl, fun W => exec_move _ _ rfl rfl⟩) (fun _ => rfl) ?_
          try simp only [Act.put, List.setIfInBounds_toArray, List.set_cons_zero, List.set_cons_succ]
          refine takeW (i := 10) (v := .int .i64 ((0 : Nat) : Int)) 21 rfl rfl (by kernel_rfl) (by kernel_rfl) (by kernel_rfl) (fun _ _ _ h => h) (.inl ⟨by rfl, fun W => exec_move _ _ rfl rfl⟩) (fun _ => rfl) ?_
          try simp only [Act.put, List.setIfInBounds_toArray, List.set_cons_zero, List.set_cons_succ]
          refine takeW (i := 11) (v := .bool true) 22 rfl rfl (by kernel_rfl) (by kernel_rfl) (by kernel_rfl) (fun _ _ _ h => h) (.inl ⟨by rfl, fun W => exec_eqi _ _ _ _ _ _ rfl rfl rfl rfl⟩) (fun _ => rfl) ?_
          try simp only [Act.put, List.setIfInBounds_toArray, List.set_cons_zero, List.set_cons_succ]
          refine takeW (i := 12) (v := .bool true) 23 rfl rfl (by kernel_rfl) (by kernel_rfl) (by kernel_rfl) (fun _ _ _ h => h) (.inl ⟨by rfl, fun W => exec_pick _ _ _ false _ rfl rfl rfl⟩) (fun _ => rfl) ?_
          try simp only [Act.put, List.setIfInBounds_toArray, List.set_cons_zero, List.set_cons_succ]
          refine wpAnyIn_done (by kernel_rfl) ?_ _
          have HI4 := hide hI4
          have HB4 := hide hB4
          clear hI4 hB4
          gi_wp2
          show bodyPost Try.prog Try.f68 _ Exit.ret _ _
          refine bodyPost_ret (v := .tuple #[]) (results_none rfl _ _ _) rfl ?_
          exact ⟨⟨_, rfl⟩, .inl ⟨_, .inl ⟨HI4.out, HB4.out⟩⟩⟩
        · have q0 : ((z : Int) == 0) = false := by simpa using hz0
          refine takeW (i := 8) (v := .bool false) 19 rfl rfl (by kernel_rfl) (by kernel_rfl) (by kernel_rfl) (fun _ _ _ h => h) (.inl ⟨by rfl, fun W => exec_not _ _ true rfl rfl⟩) (fun _ => rfl) ?_
          try simp only [Act.put, List.setIfInBounds_toArray, List.set_cons_zero, List.set_cons_succ]
          refine takeW (i := 9) (v := .bool false) 20 rfl rfl (by kernel_rfl) (by kernel_rfl) (by kernel_rfl) (fun _ _ _ h => h) (.inl ⟨by rfl, fun W => exec_move _ _ rfl rfl⟩) (fun _ => rfl) ?_
          try simp only [Act.put, List.setIfInBounds_toArray, List.set_cons_zero, List.set_cons_succ]
          refine takeW (i := 10) (v := .int .i64 (z : Int)) 21 rfl rfl (by kernel_rfl) (by kernel_rfl) (by kernel_rfl) (fun _ _ _ h => h) (.inl ⟨by rfl, fun W => exec_move _ _ rfl rfl⟩) (fun _ => rfl) ?_
          try simp only [Act.put, List.setIfInBounds_toArray, List.set_cons_zero, List.set_cons_succ]
          refine takeW (i := 11) (v := .bool false) 22 rfl rfl (by kernel_rfl) (by kernel_rfl) (by kernel_rfl) (fun _ _ _ h => h) (.inl ⟨by rfl, fun W => exec_eqi _ _ _ _ _ _ rfl rfl rfl q0⟩) (fun _ => rfl) ?_
          try simp only [Act.put, List.setIfInBounds_toArray, List.set_cons_zero, List.set_cons_succ]
          refine takeW (i := 12) (v := .bool false) 23 rfl rfl (by kernel_rfl) (by kernel_rfl) (by kernel_rfl) (fun _ _ _ h => h) (.inl ⟨by rfl, fun W => exec_pick _ _ _ false _ rfl rfl rfl⟩) (fun _ => rfl) ?_
          try simp only [Act.put, List.setIfInBounds_toArray, List.set_cons_zero, List.set_cons_succ]
          refine wpAnyIn_done (by kernel_rfl) ?_ _
          have HI4 := hide hI4
          have HB4 := hide hB4
          have zz : (z : Int) ≤ (m : Int) := by omega
          clear hI4 hB4 q0
          gi_wp2
          have hkm' := hkm.out
          refine ⟨⟨k + z, m - z, c - z, _, rfl, (by show k + z + (m - z) = N; omega), by omega, by omega, fun h => ?_, ?_, HB4.out⟩, ?_⟩
          · rw [if_neg (by omega), Nat.add_assoc]
          · have := HI4.out
            rw [decide_eq_false hz0] at this
            exact this
          · show m - z < m
            omega
      · refine ⟨_, rfl, ?_⟩
        simp only [Act.put, List.setIfInBounds_toArray, List.set_cons_zero, List.set_cons_succ]
        refine takeW (i := 8) (v := .bool true) 19 rfl rfl (by kernel_rfl) (by kernel_rfl) (by kernel_rfl) (fun _ _ _ h => h) (.inl ⟨by rfl, fun W => exec_not _ _ false rfl rfl⟩) (fun _ => rfl) ?_
        try simp only [Act.put, List.setIfInBounds_toArray, List.set_cons_zero, List.set_cons_succ]
        refine takeW (i := 9) (v := .bool true) 20 rfl rfl (by kernel_rfl) (by kernel_rfl) (by kernel_rfl) (fun _ _ _ h => h) (.inl ⟨by rfl, fun W => exec_move _ _ rfl rfl⟩) (fun _ => rfl) ?_
        try simp only [Act.put, List.setIfInBounds_toArray, List.set_cons_zero, List.set_cons_succ]
        refine takeW (i := 10) (v := undef) 21 rfl rfl (by kernel_rfl) (by kernel_rfl) (by kernel_rfl) (fun _ _ _ h => h) (.inr ⟨by rfl, rfl⟩) (fun _ => rfl) ?_
        try simp only [Act.put, List.setIfInBounds_toArray, List.set_cons_zero, List.set_cons_succ]
        refine takeW (i := 11) (v := undef) 22 rfl rfl (by kernel_rfl) (by kernel_rfl) (by kernel_rfl) (fun _ _ _ h => h) (.inr ⟨by rfl, rfl⟩) (fun _ => rfl) ?_
        try simp only [Act.put, List.setIfInBounds_toArray, List.set_cons_zero, List.set_cons_succ]
        refine takeW (i := 12) (v := .bool true) 23 rfl rfl (by kernel_rfl) (by kernel_rfl) (by kernel_rfl) (fun _ _ _ h => h) (.inl ⟨by rfl, fun W => exec_pick _ _ _ true _ rfl rfl rfl⟩) (fun _ => rfl) ?_
        try simp only [Act.put, List.setIfInBounds_toArray, List.set_cons_zero, List.set_cons_succ]
        refine wpAnyIn_done (by kernel_rfl) ?_ _
        have HX := hide hX
        clear hX
        gi_wp2
        show bodyPost Try.prog Try.f68 _ Exit.ret _ _
        refine bodyPost_ret (v := .tuple #[]) (results_none rfl _ _ _) rfl ?_
        exact ⟨⟨_, rfl⟩, .inr HX.out⟩
    · obtain rfl : m = 0 := by omega
      gi_wp2
      go_end0
      exact ⟨⟨_, rfl⟩, .inl ⟨_, .inr (by have := hkm.out; show k = N; omega), hIm.out, hBm.out⟩⟩
end Go.Proofs.Ytggadchhkenipaa
