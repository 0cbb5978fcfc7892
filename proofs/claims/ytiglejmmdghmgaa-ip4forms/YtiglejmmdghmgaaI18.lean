
/-
  Ip4Turns: the walk.
-/
import Derived.Test.YtiglejmmdghmgaaI17
namespace Go.Proofs.Ytiglejmmdghmgaa
open Go.RowKit Go.Shelf

theorem xor_bit : ∀ (x : Fin 256) (j : Fin 8), (bits BinOp.xor IntKind.u8 (x.val : Int) (2 ^ j.val % 256) - (x.val : Int) = 2 ^ j.val ∨ bits BinOp.xor IntKind.u8 (x.val : Int) (2 ^ j.val % 256) - (x.val : Int) = - 2 ^ j.val) ∧
    0 ≤ bits BinOp.xor IntKind.u8 (x.val : Int) (2 ^ j.val % 256) ∧ bits BinOp.xor IntKind.u8 (x.val : Int) (2 ^ j.val % 256) ≤ 255 := by decide +kernel
theorem xor_bit' (x : Int) (j : Nat) (x0 : 0 ≤ x) (x1 : x ≤ 255) (hj : j < 8) : (bits BinOp.xor IntKind.u8 x (2 ^ j % 256) - x = 2 ^ j ∨ bits BinOp.xor IntKind.u8 x (2 ^ j % 256) - x = - 2 ^ j) ∧
    0 ≤ bits BinOp.xor IntKind.u8 x (2 ^ j % 256) ∧ bits BinOp.xor IntKind.u8 x (2 ^ j % 256) ≤ 255 := by
  obtain ⟨n, rfl⟩ := Int.eq_ofNat_of_zero_le x0
  exact xor_bit ⟨n, by omega⟩ ⟨j, hj⟩
theorem turned (a : List Int) (k j : Nat) (Ba : Bytes a) (hk : k < a.length) (hj : j < 8) : csum a ≠ csum (a.set k (bits BinOp.xor IntKind.u8 (nb a k) (2 ^ j % 256))) := by
  obtain ⟨x0, x1⟩ := Ba.getD k
  have h := xor_bit' (nb a k) j x0 x1 hj
  have e := wsum_set a k (bits BinOp.xor IntKind.u8 (nb a k) (2 ^ j % 256)) hk
  have e : wsum (a.set k (bits BinOp.xor IntKind.u8 (nb a k) (2 ^ j % 256))) = wsum a + (bits BinOp.xor IntKind.u8 (nb a k) (2 ^ j % 256) - nb a k) * (if k % 2 = 0 then 256 else 1) := e
  generalize bits BinOp.xor IntKind.u8 (nb a k) (2 ^ j % 256) = y at *
  generalize nb a k = x at *
  have hp : ∃ d : Int, (d = 1 ∨ d = 2 ∨ d = 4 ∨ d = 8 ∨ d = 16 ∨ d = 32 ∨ d = 64 ∨ d = 128) ∧ (2 : Int) ^ j = d := by
    refine ⟨2 ^ j, ?_, rfl⟩
    have : j = 0 ∨ j = 1 ∨ j = 2 ∨ j = 3 ∨ j = 4 ∨ j = 5 ∨ j = 6 ∨ j = 7 := by omega
    rcases this with rfl | rfl | rfl | rfl | rfl | rfl | rfl | rfl <;> decide
  obtain ⟨d, hd, ed⟩ := hp
  rw [ed] at h
  have m1 := foldI_mod (wsum a)
  have m2 := foldI_mod (wsum (a.set k y))
  intro hc
  unfold csum at hc
  have hf : foldI (wsum a) = foldI (wsum (a.set k y)) := by omega
  rw [hf] at m1
  by_cases hk2 : k % 2 = 0
  · rw [if_pos hk2] at e
    omega
  · rw [if_neg hk2] at e
    omega
theorem nb_set_ne {a : List Int} {k q : Nat} {y : Int} (h : k ≠ q) : nb (a.set k y) q = nb a q := by
  unfold nb
  rw [List.getElem?_set_ne h]
theorem nb_take {a : List Int} {k q : Nat} (h : q < k) : nb (a.take k) q = nb a q := by
  unfold nb
  rw [List.getElem?_take, if_pos h]
/-- a head of 20 bytes, one bit turned -/
theorem turn_bad {p : Pk} {b : List Int} {k j : Nat} (ho : p.opts = []) (hA : ∀ sz, Bytes (ahd p sz)) (hB : Bytes (bhd p)) (hk : k < 20) (hk0 : k ≠ 0) (hj : j < 8) : faE ((enB p b).set k (bits BinOp.xor IntKind.u8 (nb (enB p b) k) (2 ^ j % 256))) ≠ 0 := by
  intro h0
  have hn : p.opts.length = 0 := by rw [ho]; rfl
  obtain ⟨_, _, _, _, _, hc, _⟩ := faE_zero h0
  have e0 : nb (enB p b) 0 = 69 := by
    rw [enB_get p b 0 (by omega)]
    show 64 + (20 + (p.opts.length : Int)) / 4 = 69
    rw [hn]; rfl
  have hs : hsI ((enB p b).set k (bits BinOp.xor IntKind.u8 (nb (enB p b) k) (2 ^ j % 256))) = 20 := by
    unfold hsI
    rw [nb_set_ne hk0, e0]
    rfl
  unfold hdL at hc
  rw [hs, show (20 : Int).toNat = 20 from rfl, List.take_set] at hc
  have ht := enB_take p b
  rw [hn] at ht
  rw [ht] at hc
  have e1 : nb (enB p b) k = nb (hdB p (20 + ((0 : Nat) : Int) + (b.length : Int))) k := by
    have := enB_get p b k (by omega)
    rw [hn] at this
    exact this
  rw [e1] at hc
  have hz := hdB_sum hA hB (20 + ((0 : Nat) : Int) + (b.length : Int))
  exact turned _ k j (hdB_bytes hA hB _) (by rw [hdB_len]; omega) hj (hz.trans hc.symm)
/-- the options of a head in a box are laid anew -/
theorem pk_opts {W : World} {s : Nat} {p : Pk} {ov : Value} (h : CellsAt W s 0 (p.cells ov)) (l : List Int) (u : Value) : CellsAt (W.setCell ⟨s, 15, none⟩ u) s 0 (Pk.cells { p with opts := l } u) := by
  intro j v hv
  have hj : j < 16 := (List.getElem?_eq_some_iff.1 hv).1
  rw [Nat.zero_add]
  by_cases e : j = 15
  · subst e
    have h15 := h 15 _ rfl
    rw [Nat.zero_add] at h15
    have : (some u : Option Value) = some v := hv
    cases this
    exact World.cell?_setCell_same _ _ _ h15
  · rw [World.cell?_setCell_other _ _ _ _ (by intro q; cases q; exact e rfl)]
    have e2 : (p.cells ov)[j]? = some v := by
      rw [← hv]
      have h15 : j < 15 := by omega
      match j, h15 with
      | 0, _ => rfl
      | 1, _ => rfl
      | 2, _ => rfl
      | 3, _ => rfl
      | 4, _ => rfl
      | 5, _ => rfl
      | 6, _ => rfl
      | 7, _ => rfl
      | 8, _ => rfl
      | 9, _ => rfl
      | 10, _ => rfl
      | 11, _ => rfl
      | 12, _ => rfl
      | 13, _ => rfl
      | 14, _ => rfl
    have := h j v e2
    rw [Nat.zero_add] at this
    exact this
set_option maxRecDepth 100000 in
set_option maxHeartbeats 8000000 in
theorem Turns_walk (p : Pk) (ov bv : Value) (b : List Int) (bit : Int) (w : World) (_hov : IsB w.heap.size w ov p.opts) (hp : PkOk p) (hbv : IsB w.heap.size w bv b) (hB : Bytes b) (lb : b.length ≤ 140737488351232) (_ : -9223372036854775808 ≤ bit) (_ : bit ≤ 9223372036854775807) :
    Calls Try.prog 6 #[.agg (p.cells ov).toArray, bv, .int .i64 bit] w fun e w' => e = .returned (.bool true) ∧ Below w.heap.size w w' := by
  obtain ⟨ab, cb, rfl, _⟩ := hbv.shape
  obtain ⟨s, hs⟩ : ∃ s, s = w.heap.size := ⟨_, rfl⟩
  obtain ⟨X, hX⟩ : ∃ X, X = p.cells ov := ⟨_, rfl⟩
  have lX : X.length = 16 := by rw [hX]; rfl
  rw [← hX]
  obtain ⟨w1, hw1⟩ : ∃ w1, w1 = w.alloc (.cells X.toArray 26) := ⟨_, rfl⟩
  have b1 : Below w.heap.size w w1 := by rw [hw1]; exact later_alloc _ _
  have c1 : CellsAt w1 s 0 X := by rw [hw1, hs]; exact CellsAt.new w X 26
  have f1 : ∀ y, w1.frozen? ⟨s, y, none⟩ = false := fun y => by rw [hw1, hs]; exact frozen_new w _ _ _
  have l1 : s < w1.heap.size := by rw [hw1, hs]; simp
  have HB1 := hide b1
  have C1 := hide c1
  have F1 := hide f1
  have HX := hide hX
  have HBV := hide hbv
  have BY := hide hB
  have HP := hide hp
  obtain ⟨bl, hbl⟩ : ∃ bl, bl = b.length := ⟨_, rfl⟩
  rw [← hbl] at HBV lb ⊢
  have HBL := hide hbl
  clear b1 c1 f1 hX hbv hp hbl hB
  go_enter Try.func6, Try.ntmps6
  have hw1' := hw1.symm
  have hs' := hs.symm
  have HS := hide hs
  clear hw1 hs
  go_wp2_with fail
  clear hw1' hs' lX
  refine (awake_any w1).mono ?_
  rintro _ w2 ⟨rfl, b2⟩
  have HB2 : Below w.heap.size w w2 := HB1.out.trans (b2.mono HB1.out.size)
  have C2 := C1.out.later l1 b2
  have f15 : w2.frozen? ⟨s, 15, none⟩ = false := (b2.frozen (p := ⟨s, 15, none⟩) l1).trans (F1.out 15)
  have L2 : s < w2.heap.size := Nat.lt_of_lt_of_le l1 b2.size
  rw [HX.out] at C2
  have x15 : w2.cell? ⟨s, 15, none⟩ = some ov := C2 15 _ rfl
  obtain ⟨q, hq⟩ : ∃ q : Pk, q = { p with opts := [] } := ⟨_, rfl⟩
  obtain ⟨w3, hw3⟩ : ∃ w3, w3 = w2.setCell ⟨s, 15, none⟩ (.slice none 0 0) := ⟨_, rfl⟩
  have bo : But (Only s) w2 w3 := by rw [hw3]; exact (But.refl (Only s) w2).cellb (b := s) rfl 15 _
  have HB3 : Hid (Below w.heap.size w w3) := HB2.trans (bo.below HB2.size (fun g hg e => by have e : g = s := e; have := HS.out; omega))
  obtain ⟨Y, hY⟩ : ∃ Y, Y = q.cells (.slice none 0 0) := ⟨_, rfl⟩
  have C3 : Hid (CellsAt w3 s 0 Y) := by rw [hY, hq, hw3]; exact pk_opts C2 [] _
  have LY : Hid (Y.length = 16) := by rw [hY]; exact (rfl : (q.cells (.slice none 0 0)).length = 16)
  have HQ : Hid (q.opts = []) := by rw [hq]; exact rfl
  have QO : Hid (PkOk q) := by rw [hq]; exact ⟨HP.out.src, HP.out.dst, Bytes.nil, by simp⟩
  have EN := Encode_any q (.slice none 0 0) (.slice ab bl cb) b w3 (by rw [HQ.out]; exact IsB.nil _ _) (HBV.out.later HB3.out) QO.out.src QO.out.dst QO.out.opts (by rw [HQ.out]; simp) (by rw [← HBL.out]; omega)
  rw [← hY] at EN
  have HEN := hide EN
  have hw3' := hw3.symm
  clear b2 EN C1 HB1 F1 C2 hq hw3 bo hY HB2 HX
  go_wp2_with (refine wpList_loadA rfl 26 16 aggP sizP _ rfl s 0 rfl Y LY.out C3.out ?_)
  clear f15 x15 hw3'
  refine HEN.out.mono ?_
  rintro _ w4 ⟨b4, h4⟩
  have HB4 : Hid (Below w.heap.size w w4) := HB3.out.trans (b4.mono HB3.out.size)
  have S3 : Hid (w.heap.size ≤ w3.heap.size) := HB3.out.size
  clear b4 HEN C3
  rcases h4 with ⟨he, v, rfl, g4⟩ | ⟨hne, rfl⟩
  · obtain ⟨m1, m2, m3, m4, m5⟩ := enE_zero he
    have len4 := enB_len q b
    rw [HQ.out, ← HBL.out, show ([] : List Int).length = 0 from rfl] at len4
    rw [← HBL.out, HQ.out, show ([] : List Int).length = 0 from rfl] at m5
    obtain ⟨gx, cx, rfl, hgx, lgx, hcx, cells4, fz4⟩ := g4.cells (by omega)
    have By := enB_bytes QO.out he BY.out
    obtain ⟨N, hN⟩ : ∃ N, N = (enB q b).length := ⟨_, rfl⟩
    rw [← hN] at len4 hcx cells4 ⊢
    have g4 : Gro w3.heap.size w4 (.slice (some ⟨gx, 0, none⟩) N cx) (enB q b) := by rw [hN]; exact g4
    have HNN := hide hN
    have zN : ¬ (N : Int) < 20 := by omega
    by_cases h1 : bit < 0
    · clear cells4 fz4 g4 hN len4
      go_wp2
      go_ret
      exact ⟨rfl, HB4.out⟩
    by_cases h2 : 160 ≤ bit
    · clear cells4 fz4 g4 hN len4
      go_wp2
      go_ret
      exact ⟨rfl, HB4.out⟩
    obtain ⟨q0, rfl⟩ := Int.eq_ofNat_of_zero_le (show 0 ≤ bit by omega)
    obtain ⟨k, hk⟩ : ∃ k, k = q0 / 8 := ⟨_, rfl⟩
    obtain ⟨j, hj⟩ : ∃ j, j = q0 % 8 := ⟨_, rfl⟩
    have hk20 : k < 20 := by omega
    have hj8 : j < 8 := by omega
    have e1 : (q0 : Int) / 8 = (k : Int) := by omega
    have e2 : (q0 : Int) % 8 = (j : Int) := by omega
    have hc := cells4 k (by omega)
    have hf := fz4 k
    obtain ⟨x0, x1⟩ := nb_bd By k
    obtain ⟨x, hx⟩ : ∃ x, x = nb (enB q b) k := ⟨_, rfl⟩
    rw [← hx] at hc x0 x1
    obtain ⟨hy, hy0, hy1⟩ := xor_bit' x j x0 x1 hj8
    obtain ⟨w5, hw5⟩ : ∃ w5, w5 = w4.setCell ⟨gx, k, none⟩ (.int .u8 (bits BinOp.xor IntKind.u8 x (2 ^ j % 256))) := ⟨_, rfl⟩
    have g5 : Gro w3.heap.size w5 (.slice (some ⟨gx, 0, none⟩) N cx) ((enB q b).set k (bits BinOp.xor IntKind.u8 x (2 ^ j % 256))) := by rw [hw5]; exact g4.store hN k _
    have HB5 : Hid (Below w.heap.size w w5) := by rw [hw5]; exact HB4.out.setCell (p := ⟨gx, k, none⟩) (by have := S3.out; show w.heap.size ≤ gx; omega) _
    have BAD : Hid (k ≠ 0 → faE ((enB q b).set k (bits BinOp.xor IntKind.u8 x (2 ^ j % 256))) ≠ 0) := fun h => by
      rw [hx]
      exact turn_bad HQ.out (ahd_bytes m1 m2) (bhd_bytes QO.out.src QO.out.dst QO.out.opts) hk20 h hj8
    obtain ⟨L, hL⟩ : ∃ L, L = (enB q b).set k (bits BinOp.xor IntKind.u8 x (2 ^ j % 256)) := ⟨_, rfl⟩
    have BL : Bytes L := by rw [hL]; exact By.set k _ hy0 hy1
    have lL : L.length = N := by rw [hL, List.length_set, ← hN]
    rw [← hL] at g5 BAD
    have DE := Decode_any (.slice (some ⟨gx, 0, none⟩) N cx) L w5 g5.isB BL (by rw [lL]; omega)
    have HDE := hide DE
    have hw5' := hw5.symm
    have zk : (k : Int) < (N : Int) := by omega
    have HK := hide hk
    have HJ := hide hj
    clear cells4 fz4 g4 hN len4 he m1 m2 m3 m4 m5 By hx hw5 g5 hL BL lL DE hk hj h1 h2 hy hy0 hy1
    go_wp2_with fail
    clear hc hf hw5'
    refine HDE.out.mono ?_
    rintro _ w6 ⟨b6, h6⟩
    have HB6 : Hid (Below w.heap.size w w6) := HB5.out.trans (b6.mono HB5.out.size)
    rcases h6 with ⟨hne, rfl⟩ | ⟨hz, ov', dv, n1, rfl, go6, gd6, _⟩
    · obtain ⟨E, hE⟩ : ∃ E, E = faE L := ⟨_, rfl⟩
      rw [← hE] at hne ⊢
      have qE : (E != 0) = true := by simpa using hne
      obtain ⟨Z, hZ⟩ : ∃ Z, Z = zP.cells (.slice none 0 0) := ⟨_, rfl⟩
      rw [← hZ]
      have lZ : Hid (Z.length = 16) := by rw [hZ]; exact (rfl : (zP.cells (.slice none 0 0)).length = 16)
      have oZ : Hid (∀ u ∈ Z, u.oneCell' = true) := by rw [hZ]; exact pk_one _ _ _ _
      obtain ⟨u0, w7, hu0, hw7, cu0, fu0, c7, b7, l7⟩ := newP w6 Z lZ.out
      obtain ⟨s8, hs8⟩ : ∃ s8, s8 = w6.heap.size := ⟨_, rfl⟩
      rw [← hs8] at hw7 cu0 fu0 c7 l7
      have CU := hide cu0
      have FU := hide fu0
      have HB7 : Hid (Below w.heap.size w w7) := HB6.out.trans (b7.mono HB6.out.size)
      have hu0' := hu0.symm
      simp only [zP, Pk.cells, I4.vals, zI, List.cons_append, List.nil_append] at hu0'
      have hs8' := hs8.symm
      have hw7' := hw7.symm
      clear b6 hE hne hZ hu0 hw7 cu0 fu0 c7 b7 l7 hs8 HDE
      go_upto_region 8 with (refine wpList_storeA rfl 26 16 sizP _ _ rfl s8 0 rfl Z (zP.cells (.slice none 0 0)) rfl lZ.out rfl CU.out FU.out oZ.out ?_; intro _; rw [hw7'])
      clear hu0' hw7' hs8' CU FU
      go_wp2
      go_ret
      exact ⟨rfl, HB7.out⟩
    · have k0 : k = 0 := Classical.byContradiction fun h => BAD.out h hz
      subst k0
      obtain ⟨ao, co, rfl, _⟩ := go6.isB.shape
      obtain ⟨da, dc, rfl, _⟩ := gd6.isB.shape
      obtain ⟨Z, hZ⟩ : ∃ Z, Z = (deP L).cells (.slice ao ((hdL L).drop 20).length co) := ⟨_, rfl⟩
      rw [← hZ]
      have lZ : Hid (Z.length = 16) := by rw [hZ]; exact (rfl : ((deP L).cells (.slice ao ((hdL L).drop 20).length co)).length = 16)
      have oZ : Hid (∀ u ∈ Z, u.oneCell' = true) := by rw [hZ]; exact pk_one _ _ _ _
      obtain ⟨u0, w7, hu0, hw7, cu0, fu0, c7, b7, l7⟩ := newP w6 Z lZ.out
      obtain ⟨s8, hs8⟩ : ∃ s8, s8 = w6.heap.size := ⟨_, rfl⟩
      rw [← hs8] at hw7 cu0 fu0 c7 l7
      have CU := hide cu0
      have FU := hide fu0
      have HB7 : Hid (Below w.heap.size w w7) := HB6.out.trans (b7.mono HB6.out.size)
      have hu0' := hu0.symm
      simp only [zP, Pk.cells, I4.vals, zI, List.cons_append, List.nil_append] at hu0'
      have hs8' := hs8.symm
      have hw7' := hw7.symm
      obtain ⟨dl, hdl⟩ : ∃ dl, dl = (deD L).length := ⟨_, rfl⟩
      rw [← hdl]
      clear b6 hz hZ hu0 hw7 cu0 fu0 c7 b7 l7 hs8 HDE go6 gd6 hdl
      go_upto_region 8 with (refine wpList_storeA rfl 26 16 sizP _ _ rfl s8 0 rfl Z (zP.cells (.slice none 0 0)) rfl lZ.out rfl CU.out FU.out oZ.out ?_; intro _; rw [hw7'])
      clear hu0' hw7' hs8' CU FU
      go_wp2
      go_ret
      exact ⟨rfl, HB7.out⟩
  · obtain ⟨E, hE⟩ : ∃ E, E = enE q b.length := ⟨_, rfl⟩
    rw [← hE] at hne ⊢
    have qq : (E != 0) = true := by simpa using hne
    clear hE hne
    go_wp2
    go_ret
    exact ⟨rfl, HB4.out⟩
end Go.Proofs.Ytiglejmmdghmgaa
