
/-
  IcmpTells: the walk.
-/
import Derived.Test.YteiendigcaedhaaT10
namespace Go.Proofs.Yteiendigcaedhaa
open Go.RowKit Go.Shelf

theorem xor_bit : ∀ (x : Fin 256) (j : Fin 8), (bits BinOp.xor IntKind.u8 (x.val : Int) (2 ^ j.val % 256) - (x.val : Int) = 2 ^ j.val ∨ bits BinOp.xor IntKind.u8 (x.val : Int) (2 ^ j.val % 256) - (x.val : Int) = - 2 ^ j.val) ∧
    0 ≤ bits BinOp.xor IntKind.u8 (x.val : Int) (2 ^ j.val % 256) ∧ bits BinOp.xor IntKind.u8 (x.val : Int) (2 ^ j.val % 256) ≤ 255 := by decide +kernel
theorem xor_bit' (x : Int) (j : Nat) (x0 : 0 ≤ x) (x1 : x ≤ 255) (hj : j < 8) : (bits BinOp.xor IntKind.u8 x (2 ^ j % 256) - x = 2 ^ j ∨ bits BinOp.xor IntKind.u8 x (2 ^ j % 256) - x = - 2 ^ j) ∧
    0 ≤ bits BinOp.xor IntKind.u8 x (2 ^ j % 256) ∧ bits BinOp.xor IntKind.u8 x (2 ^ j % 256) ≤ 255 := by
  obtain ⟨n, rfl⟩ := Int.eq_ofNat_of_zero_le x0
  exact xor_bit ⟨n, by omega⟩ ⟨j, hj⟩
theorem turned (a : List Int) (k j : Nat) (Ba : Bytes a) (hk : k < a.length) (hj : j < 8) : csum a ≠ csum (a.set k (bits BinOp.xor IntKind.u8 (nb a k) (2 ^ j % 256))) := by
  obtain ⟨x0, x1⟩ := Ba.getD k
  have h := xor_bit' (nb a k) j x0 x1 hj
  have e := wsum_set a k (bits BinOp.xor IntKind.u8 (nb a k) (2 ^ j % 256)) hk
  have e : wsum (a.set k (bits BinOp.xor IntKind.u8 (nb a k) (2 ^ j % 256))) = wsum a + (bits BinOp.xor IntKind.u8 (nb a k) (2 ^ j % 256) - nb a k) * (if k % 2 = 0 then 256 else 1) := e
  generalize bits BinOp.xor IntKind.u8 (nb a k) (2 ^ j % 256) = y at *
  generalize nb a k = x at *
  have hp : ∃ d : Int, (d = 1 ∨ d = 2 ∨ d = 4 ∨ d = 8 ∨ d = 16 ∨ d = 32 ∨ d = 64 ∨ d = 128) ∧ (2 : Int) ^ j = d := by
    refine ⟨2 ^ j, ?_, rfl⟩
    have : j = 0 ∨ j = 1 ∨ j = 2 ∨ j = 3 ∨ j = 4 ∨ j = 5 ∨ j = 6 ∨ j = 7 := by omega
    rcases this with rfl | rfl | rfl | rfl | rfl | rfl | rfl | rfl <;> decide
  obtain ⟨d, hd, ed⟩ := hp
  rw [ed] at h
  have m1 := foldI_mod (wsum a)
  have m2 := foldI_mod (wsum (a.set k y))
  intro hc
  unfold csum at hc
  have hf : foldI (wsum a) = foldI (wsum (a.set k y)) := by omega
  rw [hf] at m1
  by_cases hk2 : k % 2 = 0
  · rw [if_pos hk2] at e
    omega
  · rw [if_neg hk2] at e
    omega
theorem Gro.cells {B : Nat} {W : World} {v : Value} {bs : List Int} (h : Gro B W v bs) (h0 : 0 < bs.length) : ∃ g c, v = .slice (some ⟨g, 0, none⟩) bs.length c ∧ B ≤ g ∧ g < W.heap.size ∧ bs.length ≤ c ∧ (∀ j, j < bs.length → W.cell? ⟨g, j, none⟩ = some (.int .u8 (nb bs j))) ∧ ∀ j, W.frozen? ⟨g, j, none⟩ = false := by
  obtain ⟨a, c, rfl, hc⟩ := h.isB.shape
  obtain ⟨g, rfl, hg, hcs, hf⟩ := h.block h0
  exact ⟨g, c, rfl, hg, World.block_lt_of_cell? W _ (hcs 0 h0), hc, hcs, hf⟩
/-- what may come in as a message -/
structure MsOk (m : Ms) : Prop where
  data : Bytes m.d
  len : m.d.length ≤ 140737488351232
theorem icB_sum {t c i s u : Int} {ds : List Int} (h : mbI t c i s u = true) (hd : Bytes ds) : csum (icB t c i s u ds) = 0 := by
  have k := mbI_true h
  have h1 := whole_mod ([t, c] ++ rsL t i s u ds) ((two_bytes k.1 k.2.1).append (rsL_bytes t i s u hd))
  have h2 := csum_bd ([t, c] ++ rsL t i s u ds)
  have e : wsum (icB t c i s u ds) = wsum ([t, c] ++ rsL t i s u ds) + csum ([t, c] ++ rsL t i s u ds) := by
    unfold icB
    rw [wsum_append_even _ _ (by simp), wsum_append_even _ _ (by rw [put16_len]), wsum_put16 _ h2.1 h2.2, wsum_append_even _ _ (by simp)]
    omega
  have h3 : foldI (wsum (icB t c i s u ds)) = 65535 := by rw [e]; exact fold_whole _ h1.1 h1.2
  show 65535 - foldI (wsum (icB t c i s u ds)) = 0
  omega
theorem ieE_zero {t c i s u : Int} {n : Nat} (h : ieE t c i s u n = 0) : n ≤ 1016 ∧ mbI t c i s u = true := by
  unfold ieE at h
  split at h
  · cases h
  split at h
  · cases h
  exact ⟨by omega, by simp_all⟩
set_option maxRecDepth 100000 in
set_option maxHeartbeats 8000000 in
theorem Tells_walk (m : Ms) (dv : Value) (bit : Int) (w : World) (hd : IsB w.heap.size w dv m.d) (hO : MsOk m) (_ : -9223372036854775808 ≤ bit) (_ : bit ≤ 9223372036854775807) :
    Calls Try.prog 7 #[.agg (m.cells dv).toArray, .int .i64 bit] w fun e w' => e = .returned (.bool true) ∧ Below w.heap.size w w' := by
  have hB := hO.data
  clear hO
  obtain ⟨da, dc, rfl, _⟩ := hd.shape
  obtain ⟨t, c, i, s, u, ds⟩ := m
  obtain ⟨q, w1, hq, hw1, b1, l1, hc, _⟩ := boxI w t c i s u (.slice da ds.length dc)
  have HB1 := hide b1
  have HD := hide (hd.later b1)
  have C1 := hide hc
  have HBY := hide hB
  simp only [Ms.cells, imL]
  obtain ⟨dn, hdn⟩ : ∃ dn, dn = ds.length := ⟨_, rfl⟩
  have HDN := hide hdn
  simp only at HD C1 HBY hw1 ⊢
  rw [← hdn] at HD C1 hw1 ⊢
  clear b1 hc hd hB hdn
  go_enter Try.func7, Try.ntmps7
  go_wp2_with fail
  clear hq hw1
  refine (icAwake_any w1).mono ?_
  rintro _ w2 ⟨rfl, b2⟩
  have B2 := hide (later HB1.out b2)
  have D2 := HD.out.later b2
  have c2 := C1.out.later l1 b2
  obtain ⟨x0, x1, x2, x3, x4, x5⟩ := imL_cells c2
  rw [HDN.out] at D2
  have EN := icEnc_any t c i s u da dc ds w2 D2 HBY.out
  rw [← HDN.out] at EN
  have HEN := hide EN
  clear b2 D2 c2 EN HD C1 HB1
  go_wp2_with fail
  clear x0 x1 x2 x3 x4 x5
  refine HEN.out.mono ?_
  rintro _ w3 ⟨v3, rfl, g3, b3⟩
  obtain ⟨E, hE⟩ : ∃ E, E = ieE t c i s u dn := ⟨_, rfl⟩
  rw [← hE]
  have B3 := hide (later B2.out b3)
  have S2 : Hid (w.heap.size ≤ w2.heap.size) := B2.out.size
  by_cases hE0 : E = 0
  · subst hE0
    obtain ⟨m1, m2⟩ := ieE_zero hE.symm
    have eB : ieB t c i s u ds = icB t c i s u ds := by unfold ieB; rw [← HDN.out, ← hE]; rfl
    rw [eB] at g3
    have len3 := icB_len t c i s u ds
    rw [← HDN.out] at len3
    obtain ⟨gx, cx, rfl, hgx, lgx, hcx, cells4, fz4⟩ := g3.cells (by omega)
    have By := icB_bytes m2 HBY.out
    have hz := icB_sum m2 HBY.out
    obtain ⟨L0, hL0⟩ : ∃ L0, L0 = icB t c i s u ds := ⟨_, rfl⟩
    rw [← hL0] at g3 len3 cells4 By hz hcx ⊢
    obtain ⟨N, hN⟩ : ∃ N, N = L0.length := ⟨_, rfl⟩
    rw [← hN] at len3 hcx cells4 ⊢
    have g3 : Gro w2.heap.size w3 (.slice (some ⟨gx, 0, none⟩) N cx) L0 := by rw [hN]; exact g3
    have zN : (N : Int) ≤ 1024 := by omega
    have zN8 : (8 : Int) ≤ (N : Int) := by omega
    by_cases h1 : bit < 0
    · clear cells4 fz4 g3 hN len3 hL0 hE eB By hz b3
      go_wp2
      go_ret
      exact ⟨rfl, B3.out⟩
    by_cases h2 : 8 * (N : Int) ≤ bit
    · clear cells4 fz4 g3 hN len3 hL0 hE eB By hz b3
      go_wp2
      go_ret
      exact ⟨rfl, B3.out⟩
    obtain ⟨q0, rfl⟩ := Int.eq_ofNat_of_zero_le (show 0 ≤ bit by omega)
    obtain ⟨k, hk⟩ : ∃ k, k = q0 / 8 := ⟨_, rfl⟩
    obtain ⟨j, hj⟩ : ∃ j, j = q0 % 8 := ⟨_, rfl⟩
    have hkN : k < N := by omega
    have hj8 : j < 8 := by omega
    have e1 : (q0 : Int) / 8 = (k : Int) := by omega
    have e2 : (q0 : Int) % 8 = (j : Int) := by omega
    have hc := cells4 k (by omega)
    have hf := fz4 k
    obtain ⟨x0, x1⟩ := nb_bd By k
    obtain ⟨x, hx⟩ : ∃ x, x = nb L0 k := ⟨_, rfl⟩
    rw [← hx] at hc x0 x1
    obtain ⟨hy, hy0, hy1⟩ := xor_bit' x j x0 x1 hj8
    obtain ⟨w5, hw5⟩ : ∃ w5, w5 = w3.setCell ⟨gx, k, none⟩ (.int .u8 (bits BinOp.xor IntKind.u8 x (2 ^ j % 256))) := ⟨_, rfl⟩
    have g5 : Gro w2.heap.size w5 (.slice (some ⟨gx, 0, none⟩) N cx) (L0.set k (bits BinOp.xor IntKind.u8 x (2 ^ j % 256))) := by rw [hw5]; exact g3.store hN k _
    have HB5 : Hid (Below w.heap.size w w5) := by rw [hw5]; exact B3.out.setCell (p := ⟨gx, k, none⟩) (by have := S2.out; show w.heap.size ≤ gx; omega) _
    obtain ⟨L, hL⟩ : ∃ L, L = L0.set k (bits BinOp.xor IntKind.u8 x (2 ^ j % 256)) := ⟨_, rfl⟩
    have BL : Bytes L := by rw [hL]; exact By.set k _ hy0 hy1
    have lL : L.length = N := by rw [hL, List.length_set, ← hN]
    have BAD : idE L = 5 := by
      have hne : csum L ≠ 0 := fun h => turned L0 k j By (by omega) hj8 (by rw [hz, ← hx, ← hL, h])
      unfold idE
      rw [if_neg (by omega), if_neg (by omega), if_pos hne]
    rw [← hL] at g5
    have DE := icDec_any (.slice (some ⟨gx, 0, none⟩) N cx) L w5 g5.isB BL (by rw [lL]; omega)
    rw [BAD] at DE
    have HDE := hide DE
    have hw5' := hw5.symm
    have zk : (k : Int) < (N : Int) := by omega
    have zb : (q0 : Int) < 8 * (N : Int) := by omega
    have HK := hide hk
    have HJ := hide hj
    clear cells4 fz4 g3 hN len3 hL0 hE eB By hz b3 hx hw5 g5 hL BL lL DE hk hj h1 h2 hy hy0 hy1 BAD m1 m2
    go_wp2_with fail
    clear hc hf hw5'
    refine HDE.out.mono ?_
    rintro _ w6 ⟨ea, en, ec, rfl, g6, b6⟩
    have HB6 : Hid (Below w.heap.size w w6) := later HB5.out b6
    obtain ⟨Z, hZ⟩ : ∃ Z, Z = (idM L).cells (.slice ea en ec) := ⟨_, rfl⟩
    rw [← hZ]
    have lZ : Hid (Z.length = 6) := by rw [hZ]; exact rfl
    have oZ : Hid (∀ u ∈ Z, u.oneCell' = true) := by rw [hZ]; exact im_one _ _ _ _ _ _ _ _
    obtain ⟨u0, w7, hu0, hw7, cu0, fu0, c7, b7, l7⟩ := newC w6 Z lZ.out
    obtain ⟨s8, hs8⟩ : ∃ s8, s8 = w6.heap.size := ⟨_, rfl⟩
    rw [← hs8] at hw7 cu0 fu0 c7 l7
    have CU := hide cu0
    have FU := hide fu0
    have HB7 : Hid (Below w.heap.size w w7) := later HB6.out b7
    have hu0' := hu0.symm
    simp only [zIm, imL] at hu0'
    have hs8' := hs8.symm
    have hw7' := hw7.symm
    clear b6 g6 hZ hu0 hw7 cu0 fu0 c7 b7 l7 hs8 HDE
    go_upto_region 7 with (refine wpList_storeA rfl 24 6 sizC _ _ rfl s8 0 rfl Z zIm rfl lZ.out rfl CU.out FU.out oZ.out ?_; intro _; rw [hw7'])
    clear hu0' hw7' hs8' CU FU
    go_wp2
    go_ret
    exact ⟨rfl, HB7.out⟩
  · have qE : (E != 0) = true := by simpa using hE0
    obtain ⟨a3, k3, rfl, _⟩ := g3.isB.shape
    clear g3 hE hE0 b3 HEN
    go_wp2
    go_ret
    exact ⟨rfl, B3.out⟩
end Go.Proofs.Yteiendigcaedhaa
