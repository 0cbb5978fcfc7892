
/-
  The document's Diff, Within, Has, Size, First.
-/
import Derived.Test.YtgdcdgofahhfdaaO11
namespace Go.Proofs.Ytgdcdgofahhfdaa
open Go.RowKit Go.Shelf

theorem tmod_if (n m : Int) : n.tmod m = if 0 ≤ n then n % m else -((-n) % m) := by
  split
  · exact Int.tmod_eq_emod_of_nonneg (by assumption)
  · have e : n = -(-n) := by omega
    rw [e, Int.neg_tmod, Int.tmod_eq_emod_of_nonneg (by omega)]
    simp
theorem hasR (f n : Int) (hf : f = 1 ∨ f = 2 ∨ f = 4 ∨ f = 8 ∨ f = 16) : decide (f ≤ (wrap64 (n.tmod (2 * f) + 2 * f)).tmod (2 * f)) = hasB n f := by
  unfold hasB
  have hb : 0 ≤ n.tmod (2 * f) + 2 * f ∧ n.tmod (2 * f) + 2 * f < 4 * f := by
    rw [tmod_if]
    rcases hf with rfl | rfl | rfl | rfl | rfl <;> split <;> omega
  rw [show wrap64 (n.tmod (2 * f) + 2 * f) = n.tmod (2 * f) + 2 * f by unfold wrap64; rcases hf with rfl | rfl | rfl | rfl | rfl <;> omega, Int.tmod_eq_emod_of_nonneg hb.1, tmod_if]
  rw [decide_eq_decide]
  rcases hf with rfl | rfl | rfl | rfl | rfl <;> split <;> omega
set_option maxHeartbeats 1000000 in
theorem rHas_any (s : Sg) (gv dv : Value) (f : Int) (hf : f = 1 ∨ f = 2 ∨ f = 4 ∨ f = 8 ∨ f = 16) (w : World) : Calls Try.prog 35 #[.agg (s.cells gv dv).toArray, .int .i64 f] w fun e w' => e = .returned (.bool (hasB s.flg f)) ∧ Below w.heap.size w w' := by
  have HB := hasR f s.flg hf
  rw [show (Value.agg (s.cells gv dv).toArray) = .agg #[.int .i64 s.src, .int .i64 s.dst, .int .u32 s.seq, .int .u32 s.ack, .int .i64 s.flg, .int .i64 s.wnd, .int .i64 s.mss, .bool s.sak, gv, dv] from rfl]
  obtain ⟨w1, b, hs, hw, c1, f1, b1, l1⟩ := boxS w s gv dv
  have k4 : w1.cell? ⟨b, 4, none⟩ = some (.int .i64 s.flg) := c1 4 _ rfl
  obtain ⟨r, hr⟩ : ∃ r, r = hasB s.flg f := ⟨_, rfl⟩
  rw [← hr] at HB ⊢
  obtain ⟨fl, hfl⟩ : ∃ fl, fl = s.flg := ⟨_, rfl⟩
  rw [← hfl] at HB k4 hw ⊢
  have HBH := hide HB
  have hs' := hs.symm
  have hw' := hw.symm
  have B1 := hide b1
  clear hs hw c1 f1 b1 HB hr hfl
  rcases hf with rfl | rfl | rfl | rfl | rfl
  · go_enter Try.func35, Try.ntmps35
    go_wp2
    go_ret
    exact ⟨by rw [← HBH.out]; rfl, B1.out⟩
  · go_enter Try.func35, Try.ntmps35
    go_wp2
    go_ret
    exact ⟨by rw [← HBH.out]; rfl, B1.out⟩
  · go_enter Try.func35, Try.ntmps35
    go_wp2
    go_ret
    exact ⟨by rw [← HBH.out]; rfl, B1.out⟩
  · go_enter Try.func35, Try.ntmps35
    go_wp2
    go_ret
    exact ⟨by rw [← HBH.out]; rfl, B1.out⟩
  · go_enter Try.func35, Try.ntmps35
    go_wp2
    go_ret
    exact ⟨by rw [← HBH.out]; rfl, B1.out⟩
set_option maxHeartbeats 4000000 in
theorem rSize_any (s : Sg) (gv : Value) (da : Option Addr) (dc : Nat) (w : World) (hl : s.dat.length ≤ 1125899906842624) : Calls Try.prog 21 #[.agg (s.cells gv (.slice da s.dat.length dc)).toArray] w fun e w' => e = .returned (.int .i64 s.size) ∧ Below w.heap.size w w' := by
  obtain ⟨X, hX⟩ : ∃ X, X = s.cells gv (.slice da s.dat.length dc) := ⟨_, rfl⟩
  have H2 : Hid (∀ W, Calls Try.prog 35 #[.agg X.toArray, .int .i64 2] W fun e w' => e = .returned (.bool (hasB s.flg 2)) ∧ Below W.heap.size W w') := fun W => by rw [hX]; exact rHas_any s gv _ 2 (by decide) W
  have H1 : Hid (∀ W, Calls Try.prog 35 #[.agg X.toArray, .int .i64 1] W fun e w' => e = .returned (.bool (hasB s.flg 1)) ∧ Below W.heap.size W w') := fun W => by rw [hX]; exact rHas_any s gv _ 1 (by decide) W
  have LX : Hid (X.length = 10) := by rw [hX]; exact rfl
  obtain ⟨w1, b, hs, hw, c1, f1, b1, l1⟩ := boxS w s gv (.slice da s.dat.length dc)
  have k9 : w1.cell? ⟨b, 9, none⟩ = some (.slice da s.dat.length dc) := c1 9 _ rfl
  have C1 : Hid (CellsAt w1 b 0 X) := by rw [hX]; exact c1
  rw [show (Value.agg (s.cells gv (.slice da s.dat.length dc)).toArray) = .agg #[.int .i64 s.src, .int .i64 s.dst, .int .u32 s.seq, .int .u32 s.ack, .int .i64 s.flg, .int .i64 s.wnd, .int .i64 s.mss, .bool s.sak, gv, .slice da s.dat.length dc] from rfl]
  obtain ⟨h2, hh2⟩ : ∃ h2, h2 = hasB s.flg 2 := ⟨_, rfl⟩
  obtain ⟨h1, hh1⟩ : ∃ h1, h1 = hasB s.flg 1 := ⟨_, rfl⟩
  obtain ⟨n, hn⟩ : ∃ n, n = s.dat.length := ⟨_, rfl⟩
  have SZ : Hid (s.size = (n : Int) + (if h2 then 1 else 0) + (if h1 then 1 else 0)) := by rw [hn, hh2, hh1]; exact rfl
  rw [SZ.out]
  rw [← hn] at k9 hl hw ⊢
  rw [← hh2] at H2
  rw [← hh1] at H1
  have z : (n : Int) ≤ 1125899906842624 := by omega
  have hs' := hs.symm
  have hw' := hw.symm
  have B1 := hide b1
  clear hs hw c1 f1 b1 hX hh2 hh1 hn SZ
  go_enter Try.func21, Try.ntmps21
  go_upto_region 2 with fail
  clear hs' hw' k9
  go_wp2_with (refine wpList_loadA rfl 28 10 aggSg sizSg _ rfl b 0 rfl X LX.out C1.out ?_)
  refine (H2.out w1).mono ?_
  rintro _ w2 ⟨rfl, b2⟩
  have C2 := hide (C1.out.later l1 b2)
  have B2 := hide (later B1.out b2)
  have G1 := hide (H1.out w2)
  clear b2 C1 H1 H2
  go_wp2_with (refine wpList_loadA rfl 28 10 aggSg sizSg _ rfl b 0 rfl X LX.out C2.out ?_)
  refine G1.out.mono ?_
  rintro _ w3 ⟨rfl, b3⟩
  have B3 := hide (later B2.out b3)
  clear b3
  cases h2 with
  | false =>
    cases h1 with
    | false =>
      go_wp2
      go_ret
      exact ⟨ret_int (by simp), B3.out⟩
    | true =>
      go_wp2
      go_ret
      exact ⟨ret_int (by simp), B3.out⟩
  | true =>
    cases h1 with
    | false =>
      go_wp2
      go_ret
      exact ⟨ret_int (by simp), B3.out⟩
    | true =>
      go_wp2
      go_ret
      exact ⟨ret_int (by simp), B3.out⟩
theorem rdif_mod (a b : Int) (a0 : 0 ≤ a ∧ a < 4294967296) (b0 : 0 ≤ b ∧ b < 4294967296) : (wrap64 (wrap64 (a - b) + 4294967296)).tmod 4294967296 = (a - b) % 4294967296 := by
  rw [show wrap64 (a - b) = a - b by unfold wrap64; omega, show wrap64 (a - b + 4294967296) = a - b + 4294967296 by unfold wrap64; omega, Int.tmod_eq_emod_of_nonneg (by omega)]
  omega
set_option maxHeartbeats 1000000 in
theorem rDiff_any (a b : Int) (a0 : 0 ≤ a ∧ a < 4294967296) (b0 : 0 ≤ b ∧ b < 4294967296) (w : World) : Calls Try.prog 20 #[.int .u32 a, .int .u32 b] w fun e w' => e = .returned (.int .i64 (dif a b)) ∧ w' = w := by
  have M := rdif_mod a b a0 b0
  obtain ⟨a0, a1⟩ := a0
  obtain ⟨b0, b1⟩ := b0
  obtain ⟨m, hm⟩ : ∃ m, m = (a - b) % 4294967296 := ⟨_, rfl⟩
  have DE : Hid (dif a b = if m < 2147483648 then m else m - 4294967296) := by rw [hm]; exact rfl
  have m01 : 0 ≤ m ∧ m < 4294967296 := by omega
  obtain ⟨m0, m1⟩ := m01
  rw [← hm] at M
  rw [DE.out]
  have e1 : IntKind.i64.wrap a = a := wrapI _ (by omega) (by omega)
  have e2 : IntKind.i64.wrap b = b := wrapI _ (by omega) (by omega)
  have e3 : wrap64 (a - b) = a - b := by unfold wrap64; omega
  have e4 : wrap64 (a - b + 4294967296) = a - b + 4294967296 := by unfold wrap64; omega
  rw [e3, e4] at M
  clear hm DE
  go_enter Try.func20, Try.ntmps20
  by_cases h : m < 2147483648
  · rw [if_pos h]
    have z : ¬ (2147483648 : Int) ≤ m := by omega
    go_wp2
    go_ret
    exact ⟨rfl, rfl⟩
  · rw [if_neg h]
    have z : (2147483648 : Int) ≤ m := by omega
    go_wp2
    go_ret
    exact ⟨ret_int rfl, rfl⟩
theorem rWithin_any (n f m : Int) (n0 : 0 ≤ n ∧ n < 4294967296) (f0 : 0 ≤ f ∧ f < 4294967296) (w : World) : Calls Try.prog 22 #[.int .u32 n, .int .u32 f, .int .i64 m] w fun e w' => e = .returned (.bool (wit n f m)) ∧ w' = w := by
  have M := rdif_mod n f n0 f0
  obtain ⟨n0, n1⟩ := n0
  obtain ⟨f0, f1⟩ := f0
  obtain ⟨d, hd⟩ : ∃ d, d = (n - f) % 4294967296 := ⟨_, rfl⟩
  have WE : Hid (wit n f m = decide (d < m)) := by rw [hd]; exact rfl
  rw [← hd] at M
  rw [WE.out]
  have e3 : wrap64 (n - f) = n - f := by unfold wrap64; omega
  have e4 : wrap64 (n - f + 4294967296) = n - f + 4294967296 := by unfold wrap64; omega
  rw [e3, e4] at M
  have e1 : IntKind.i64.wrap n = n := wrapI _ (by omega) (by omega)
  have e2 : IntKind.i64.wrap f = f := wrapI _ (by omega) (by omega)
  clear hd WE
  go_enter Try.func22, Try.ntmps22
  go_wp2
  go_ret
  exact ⟨rfl, rfl⟩
theorem rFirst_any (n : Int) (w : World) : Calls Try.prog 33 #[.int .i64 n] w fun e w' => e = .returned (.int .u32 (fst32 n)) ∧ w' = w := by
  have M := tmod_if n 1048576
  obtain ⟨m, hm⟩ : ∃ m, m = n.tmod 1048576 := ⟨_, rfl⟩
  have hm' := hm.symm
  rw [← hm] at M
  have mb : -1048576 < m ∧ m < 1048576 := by rw [M]; split <;> omega
  obtain ⟨m0, m1⟩ := mb
  by_cases h : m < 0
  · have E : Hid ((m + 1048576) * 4096 = fst32 n) := by
      unfold Hid fst32
      rw [M] at h ⊢
      split at h <;> rename_i hn
      · omega
      · rw [if_neg hn]; omega
    clear M hm
    go_enter Try.func33, Try.ntmps33
    go_wp2
    go_ret
    exact ⟨ret_int E.out, rfl⟩
  · have E : Hid (m * 4096 = fst32 n) := by
      unfold Hid fst32
      rw [M] at h ⊢
      split at h <;> rename_i hn
      · rw [if_pos hn]; omega
      · rw [if_neg hn]; omega
    have z : 0 ≤ m := by omega
    clear M hm
    go_enter Try.func33, Try.ntmps33
    go_wp2
    go_ret
    exact ⟨ret_int E.out, rfl⟩
end Go.Proofs.Ytgdcdgofahhfdaa
