
/-
  UdpBack: the walk.
-/
import Derived.Test.YthjeaebpboilpaaU10
namespace Go.Proofs.Ythjeaebpboilpaa
open Go.RowKit Go.Shelf

theorem vals_at (x : I4) {k : Nat} (hk : k < 4) : x.vals[k]? = some (.int .u8 (x.at k)) := by
  have : k = 0 ∨ k = 1 ∨ k = 2 ∨ k = 3 := by omega
  rcases this with rfl | rfl | rfl | rfl <;> rfl
theorem vals_put (x : I4) {k : Nat} (hk : k < 4) (v : Int) : (x.put k v).vals = x.vals.set k (.int .u8 v) := by
  have : k = 0 ∨ k = 1 ∨ k = 2 ∨ k = 3 := by omega
  rcases this with rfl | rfl | rfl | rfl <;> rfl
theorem CellsAt.one {W : World} {s : Nat} {vs : List Value} (h : CellsAt W s 0 vs) {k : Nat} (hk : k < vs.length) (v : Value) : CellsAt (W.setCell ⟨s, k, none⟩ v) s 0 (vs.set k v) := by
  intro i u hu
  rw [Nat.zero_add]
  by_cases e : i = k
  · subst e
    rw [List.getElem?_set_self hk] at hu
    cases hu
    have := h i _ (List.getElem?_eq_getElem hk)
    rw [Nat.zero_add] at this
    exact World.cell?_setCell_same _ _ _ this
  · rw [List.getElem?_set_ne (fun h => e h.symm)] at hu
    have := h i u hu
    rw [Nat.zero_add] at this
    rw [setCell_out (by simpa using e)]
    exact this
set_option maxRecDepth 100000 in
set_option maxHeartbeats 16000000 in
theorem uBack_walk (x y : I4) (f t : Int) (bv : Value) (b : List Int) (tv : Value) (tl : List Int) (bit : Int) (w : World) (hx : x.Ok) (hy : y.Ok) (_ : -9223372036854775808 ≤ f) (_ : f ≤ 9223372036854775807) (_ : -9223372036854775808 ≤ t) (_ : t ≤ 9223372036854775807) (hb : IsB w.heap.size w bv b) (hB : Bytes b) (lb : b.length ≤ 140737488351232) (ht : IsB w.heap.size w tv tl) (hT : Bytes tl) (lt : tl.length ≤ 140737488351232) (_ : -9223372036854775808 ≤ bit) (_ : bit ≤ 9223372036854775807) :
    Calls Try.prog 4 #[x.val, y.val, .int .i64 f, .int .i64 t, bv, tv, .int .i64 bit] w fun e w' => e = .returned (.bool true) ∧ Below w.heap.size w w' := by
  obtain ⟨w1, w2, s1, s2, hs1, hw1, hs2, hw2, c1, c2, b2, l1, l2, _⟩ := twoI w x y
  obtain ⟨ba, bc, rfl, _⟩ := hb.shape
  obtain ⟨ta, tc, rfl, _⟩ := ht.shape
  obtain ⟨X, hX⟩ : ∃ X, X = x.vals := ⟨_, rfl⟩
  obtain ⟨Y, hY⟩ : ∃ Y, Y = y.vals := ⟨_, rfl⟩
  have LX : Hid (X.length = 4) := by rw [hX]; exact rfl
  have LY : Hid (Y.length = 4) := by rw [hY]; exact rfl
  have OX : Hid (∀ u ∈ X, u.oneCell' = true) := by rw [hX]; exact ip_oneC _
  rw [← hX] at c1
  rw [← hY] at c2
  have XV : Hid (x.val = .agg X.toArray ∧ y.val = .agg Y.toArray) := by rw [hX, hY]; exact ⟨rfl, rfl⟩
  have XO := hide hx
  have YO := hide hy
  have BB := hide hB
  have TB := hide hT
  have B2 := hide b2
  have HB0 := hide hb
  have HT0 := hide ht
  have HX := hide hX
  have U2 : Hid (Up w2 (fun W => CellsAt W s1 0 X ∧ CellsAt W s2 0 Y)) := (c1.up l1).and (c2.up l2)
  obtain ⟨bn, hbn⟩ : ∃ bn, bn = b.length := ⟨_, rfl⟩
  obtain ⟨tn, htn⟩ : ∃ tn, tn = tl.length := ⟨_, rfl⟩
  have HBN := hide hbn
  have HTN := hide htn
  rw [← hbn] at HB0 lb ⊢
  rw [← htn] at HT0 lt ⊢
  rw [show x.val = .agg #[.int .u8 x.a, .int .u8 x.b, .int .u8 x.c, .int .u8 x.d] from rfl, show y.val = .agg #[.int .u8 y.a, .int .u8 y.b, .int .u8 y.c, .int .u8 y.d] from rfl]
  have hs1' := hs1.symm
  have hs2' := hs2.symm
  have hw1' := hw1.symm
  have hw2' := hw2.symm
  clear c1 c2 b2 hs1 hs2 hw1 hw2 hX hY hb ht hB hT hbn htn hx hy
  go_enter Try.func4, Try.ntmps4
  go_wp2_with fail
  clear hs1' hs2' hw1' hw2'
  refine (uAwake_any w2).mono ?_
  rintro _ w3 ⟨rfl, b3⟩
  have B3 := hide (later B2.out b3)
  have U3 := hide (U2.out.next b3)
  have EN := uEnc_any x y XO.out YO.out f t ba bc b w3 (by have h := HB0.out.later B3.out; rw [HBN.out] at h; exact h) BB.out (by rw [← HBN.out]; omega)
  rw [← HBN.out, XV.out.1, XV.out.2] at EN
  obtain ⟨E, hE⟩ : ∃ E, E = ueE f t bn := ⟨_, rfl⟩
  rw [← hE] at EN
  have HEN := hide EN
  have C1 := hide U3.out.now.1
  have C2 := hide U3.out.now.2
  have HE := hide hE
  clear b3 U2 EN hE
  go_upto_region 2 with fail
  go_wp2_with (first | refine wpList_loadA rfl 23 4 aggI sizI _ rfl s1 0 rfl X LX.out C1.out ?_ | refine wpList_loadA rfl 23 4 aggI sizI _ rfl s2 0 rfl Y LY.out C2.out ?_)
  refine HEN.out.mono ?_
  rintro _ w4 ⟨xv, rfl, g4, b4⟩
  have B4 := hide (later B3.out b4)
  by_cases hE0 : E = 0
  case neg =>
    have qE : (E != 0) = true := by simpa using hE0
    obtain ⟨a3, k3, rfl, _⟩ := g4.isB.shape
    clear g4 hE0 b4 HEN
    go_wp2
    go_ret
    exact ⟨rfl, B4.out⟩
  subst hE0
  have UE : Hid (ueE f t b.length = 0) := by rw [← HBN.out]; exact HE.out.symm
  have eB : ueB x y f t b = udB x y f t b := by unfold ueB; rw [if_pos UE.out]
  rw [eB] at g4
  obtain ⟨L0, hL0⟩ : ∃ L0, L0 = udB x y f t b := ⟨_, rfl⟩
  have HL0 := hide hL0
  rw [← hL0] at g4
  have len4 : L0.length = 8 + bn := by rw [hL0, udB_len, HBN.out]
  have bn16 : bn ≤ 1016 := by rw [HBN.out]; exact (ueE_zero UE.out).2.2
  obtain ⟨N, hN⟩ : ∃ N, N = L0.length := ⟨_, rfl⟩
  have HN := hide hN
  have NH : Hid (N = 8 + bn) := show N = 8 + bn by omega
  have zN1 : N ≤ 1024 := by have := NH.out; omega
  have zN2 : 8 ≤ N := by have := NH.out; omega
  obtain ⟨gx, xc, rfl, hgx, lgx, hcx, cells4, fz4⟩ := g4.cells (by omega)
  rw [← hN] at g4 hcx ⊢
  have By : Hid (Bytes L0) := by rw [hL0]; exact udB_bytes _ _ _ _ BB.out
  have G4 := hide g4
  have U4 := hide ((U3.out.next b4).and g4.isB.up)
  have Z34 : Hid (w3.heap.size ≤ w4.heap.size) := b4.size
  clear eB hL0 hN len4 cells4 fz4 g4 b4 HEN hcx
  -- put ahead of anything
  go_upto_region 5 with fail
  have bd := later_drew w4
  obtain ⟨v5, w5, run5, g5, b5⟩ := append_runB (Gro.nil w4.heap.size w4.drew) (U4.out.next bd).now.2 bd.size (by rw [← HN.out]; simp; omega)
  rw [List.nil_append] at g5
  have b45 : Below w4.heap.size w4 w5 := bd.trans (b5.mono (Nat.le_refl _))
  obtain ⟨v6, w6, run6, g6, b6⟩ := append_runB g5 (HT0.out.later (later B4.out b45)) b45.size (by rw [← HN.out, ← HTN.out]; omega)
  have b46 : Below w4.heap.size w4 w6 := b45.trans b6
  have DE := uDec_any x y XO.out YO.out v6 (L0 ++ tl) w6 g6.isB (By.out.append TB.out) (by rw [List.length_append, ← HN.out, ← HTN.out]; omega)
  obtain ⟨e1, e2, e3, e4⟩ := uf_back XO.out YO.out BB.out UE.out tl
  rw [← HL0.out] at e1 e2 e3 e4
  rw [e1, e2, e3, e4] at DE
  have Sd := (U4.out.next bd).now.1
  have S5 := (U4.out.next b45).now.1
  have S6 := (U4.out.next b46).now.1
  refine wp_region_held (S := fun W => CellsAt W s1 0 X ∧ CellsAt W s2 0 Y) (by kernel_rfl) ?_
  refine takeD (i := 0) (v := .agg X.toArray) 52 rfl rfl (by kernel_rfl) (by kernel_rfl) (by kernel_rfl) (fun _ _ _ h => h) (.inl ⟨by rfl, fun W hW => exec_loadA 23 4 aggI sizI _ rfl s1 0 rfl X LX.out hW.1⟩) (Sd) ?_
  try simp only [Act.put, List.setIfInBounds_toArray, List.set_cons_zero, List.set_cons_succ]
  refine takeD (i := 1) (v := .agg Y.toArray) 53 rfl rfl (by kernel_rfl) (by kernel_rfl) (by kernel_rfl) (fun _ _ _ h => h) (.inl ⟨by rfl, fun W hW => exec_loadA 23 4 aggI sizI _ rfl s2 0 rfl Y LY.out hW.2⟩) (Sd) ?_
  try simp only [Act.put, List.setIfInBounds_toArray, List.set_cons_zero, List.set_cons_succ]
  refine takeD (i := 2) (v := .slice (some ⟨gx, 0, none⟩) N xc) 54 rfl rfl (by kernel_rfl) (by kernel_rfl) (by kernel_rfl) (fun _ _ _ h => h) (.inl ⟨by rfl, fun W hW => exec_move _ _ rfl rfl⟩) (Sd) ?_
  try simp only [Act.put, List.setIfInBounds_toArray, List.set_cons_zero, List.set_cons_succ]
  refine takeD (i := 4) (v := .slice ta tn tc) 56 rfl rfl (by kernel_rfl) (by kernel_rfl) (by kernel_rfl) (fun _ _ _ h => h) (.inl ⟨by rfl, fun W hW => exec_move _ _ rfl rfl⟩) (Sd) ?_
  try simp only [Act.put, List.setIfInBounds_toArray, List.set_cons_zero, List.set_cons_succ]
  refine nextD (w' := w5) 3 55 (v5) (by kernel_rfl) rfl rfl (by rfl) (exec_app _ _ 24 24 rfl (.slice none 0 0) (.slice (some ⟨gx, 0, none⟩) N xc) rfl rfl 24 rfl run5) (S5) ?_
  try simp only [Act.put, List.setIfInBounds_toArray, List.set_cons_zero, List.set_cons_succ]
  refine nextD (w' := w6) 5 57 (v6) (by kernel_rfl) rfl rfl (by rfl) (exec_app _ _ 24 24 rfl v5 (.slice ta tn tc) rfl rfl 24 rfl run6) (S6) ?_
  try simp only [Act.put, List.setIfInBounds_toArray, List.set_cons_zero, List.set_cons_succ]
  refine callD 6 58 (by kernel_rfl) rfl rfl (by rfl) 11 #[.agg X.toArray, .agg Y.toArray, v6] (exec_callF _ _ _ _ rfl (map3 rfl rfl rfl) (enters_of Try.func11 (by kernel_rfl) rfl)) (fun v W' => ∃ u, v = .tuple #[.int .i64 f, .int .i64 t, u, .int .i64 0] ∧ Gro w6.heap.size W' u b ∧ Below w6.heap.size w6 W') (by
    rw [← XV.out.1, ← XV.out.2]
    refine DE.mono ?_
    rintro _ W' ⟨u, rfl, h1, h2⟩
    exact ⟨_, rfl, u, rfl, h1, h2⟩) ?_
  rintro _ w7 ⟨u7, rfl, g7, b7⟩
  have b47 : Below w4.heap.size w4 w7 := b46.trans (b7.mono b46.size)
  have S7 := (U4.out.next b47).now.1
  refine ⟨S7, ?_⟩
  simp only [Act.put, List.setIfInBounds_toArray, List.set_cons_zero, List.set_cons_succ]
  obtain ⟨ca, cc, rfl, _⟩ := g7.isB.shape
  rw [← HBN.out]
  refine takeD (i := 7) (v := .tuple #[.int .i64 f, .int .i64 t, .slice ca bn cc, .int .i64 0]) 51 rfl rfl (by kernel_rfl) (by kernel_rfl) (by kernel_rfl) (fun _ _ _ h => h) (.inl ⟨by rfl, fun W hW => exec_move _ _ rfl rfl⟩) (S7) ?_
  try simp only [Act.put, List.setIfInBounds_toArray, List.set_cons_zero, List.set_cons_succ]
  refine takeD (i := 8) (v := .int .i64 f) 59 rfl rfl (by kernel_rfl) (by kernel_rfl) (by kernel_rfl) (fun _ _ _ h => h) (.inl ⟨by rfl, fun W hW => exec_ext _ _ [.int .i64 f, .int .i64 t, .slice ca bn cc, .int .i64 0] _ rfl rfl rfl⟩) (S7) ?_
  try simp only [Act.put, List.setIfInBounds_toArray, List.set_cons_zero, List.set_cons_succ]
  refine takeD (i := 9) (v := .int .i64 t) 60 rfl rfl (by kernel_rfl) (by kernel_rfl) (by kernel_rfl) (fun _ _ _ h => h) (.inl ⟨by rfl, fun W hW => exec_ext _ _ [.int .i64 f, .int .i64 t, .slice ca bn cc, .int .i64 0] _ rfl rfl rfl⟩) (S7) ?_
  try simp only [Act.put, List.setIfInBounds_toArray, List.set_cons_zero, List.set_cons_succ]
  refine takeD (i := 10) (v := .slice ca bn cc) 61 rfl rfl (by kernel_rfl) (by kernel_rfl) (by kernel_rfl) (fun _ _ _ h => h) (.inl ⟨by rfl, fun W hW => exec_ext _ _ [.int .i64 f, .int .i64 t, .slice ca bn cc, .int .i64 0] _ rfl rfl rfl⟩) (S7) ?_
  try simp only [Act.put, List.setIfInBounds_toArray, List.set_cons_zero, List.set_cons_succ]
  refine takeD (i := 11) (v := .int .i64 0) 62 rfl rfl (by kernel_rfl) (by kernel_rfl) (by kernel_rfl) (fun _ _ _ h => h) (.inl ⟨by rfl, fun W hW => exec_ext _ _ [.int .i64 f, .int .i64 t, .slice ca bn cc, .int .i64 0] _ rfl rfl rfl⟩) (S7) ?_
  try simp only [Act.put, List.setIfInBounds_toArray, List.set_cons_zero, List.set_cons_succ]
  refine takeD (i := 12) (v := .int .i64 f) 18 rfl rfl (by kernel_rfl) (by kernel_rfl) (by kernel_rfl) (fun _ _ _ h => h) (.inl ⟨by rfl, fun W hW => exec_assign _ _ rfl rfl⟩) (S7) ?_
  try simp only [Act.put, List.setIfInBounds_toArray, List.set_cons_zero, List.set_cons_succ]
  refine takeD (i := 13) (v := .int .i64 t) 19 rfl rfl (by kernel_rfl) (by kernel_rfl) (by kernel_rfl) (fun _ _ _ h => h) (.inl ⟨by rfl, fun W hW => exec_assign _ _ rfl rfl⟩) (S7) ?_
  try simp only [Act.put, List.setIfInBounds_toArray, List.set_cons_zero, List.set_cons_succ]
  refine takeD (i := 14) (v := .slice ca bn cc) 20 rfl rfl (by kernel_rfl) (by kernel_rfl) (by kernel_rfl) (fun _ _ _ h => h) (.inl ⟨by rfl, fun W hW => exec_assign _ _ rfl rfl⟩) (S7) ?_
  try simp only [Act.put, List.setIfInBounds_toArray, List.set_cons_zero, List.set_cons_succ]
  refine takeD (i := 15) (v := .int .i64 0) 21 rfl rfl (by kernel_rfl) (by kernel_rfl) (by kernel_rfl) (fun _ _ _ h => h) (.inl ⟨by rfl, fun W hW => exec_assign _ _ rfl rfl⟩) (S7) ?_
  try simp only [Act.put, List.setIfInBounds_toArray, List.set_cons_zero, List.set_cons_succ]
  refine wpAnyH_done (by kernel_rfl) ?_ _
  have B7 := hide (later B4.out b47)
  have U7 := hide (U4.out.next b47)
  have G7 : Hid (Gro w3.heap.size w7 (.slice (some ⟨gx, 0, none⟩) N xc) L0) := G4.out.later b47
  have tt1 := conv_str g7.isB
  have tt2 := conv_str (HB0.out.later B7.out)
  rw [← HBN.out] at tt1
  obtain ⟨S1, hS1⟩ : ∃ S1, S1 = strB b := ⟨_, rfl⟩
  rw [← hS1] at tt1 tt2
  clear bd run5 run6 g5 g6 b5 b6 b45 b46 DE e1 e2 e3 e4 Sd S5 S6 S7 g7 b7 b47 hS1 U4 G4
  go_upto_region 8 with fail
  clear tt1 tt2
  have zN : (N : Int) ≤ 1024 := by omega
  have zN8 : (8 : Int) ≤ (N : Int) := by omega
  by_cases h1 : bit < 0
  · go_wp2
    go_ret
    exact ⟨rfl, B7.out⟩
  by_cases h2 : 8 * (N : Int) ≤ bit
  · go_wp2
    go_ret
    exact ⟨rfl, B7.out⟩
  obtain ⟨q0, rfl⟩ := Int.eq_ofNat_of_zero_le (show 0 ≤ bit by omega)
  obtain ⟨k, hk⟩ : ∃ k, k = q0 / 8 := ⟨_, rfl⟩
  obtain ⟨j, hj⟩ : ∃ j, j = q0 % 8 := ⟨_, rfl⟩
  obtain ⟨m, hm⟩ : ∃ m, m = q0 % 32 := ⟨_, rfl⟩
  obtain ⟨i, hi⟩ : ∃ i, i = m / 8 := ⟨_, rfl⟩
  have hkN : k < N := by omega
  have hj8 : j < 8 := by omega
  have i4 : i < 4 := by omega
  have e1 : (q0 : Int) / 8 = (k : Int) := by omega
  have e2 : (q0 : Int) % 8 = (j : Int) := by omega
  have e3 : (q0 : Int) % 32 = (m : Int) := by omega
  have e4 : (m : Int) / 8 = (i : Int) := by omega
  have zb : (q0 : Int) < 8 * (N : Int) := by omega
  have HK := hide hk
  have HJ := hide hj
  clear hk hj hm hi h1 h2
  -- another address
  obtain ⟨v, hv⟩ : ∃ v, v = bits BinOp.xor IntKind.u8 (x.at i) (2 ^ j % 256) := ⟨_, rfl⟩
  obtain ⟨_, v0, v1⟩ := xor_bit' (x.at i) j (I4.at_bd XO.out i).1 (I4.at_bd XO.out i).2 hj8
  rw [← hv] at v0 v1
  obtain ⟨z8, w8, hz8, hw8, cz8, fz8, c8, b8, l8⟩ := newI w7 X LX.out
  obtain ⟨s3, hs3⟩ : ∃ s3, s3 = w7.heap.size := ⟨_, rfl⟩
  rw [← hs3] at hw8 cz8 fz8 c8 l8
  have f8 : w8.frozen? ⟨s3, i, none⟩ = false := by rw [hw8, World.frozen?_setCells]; exact fz8 i
  have x8 : w8.cell? ⟨s3, i, none⟩ = some (.int .u8 (x.at i)) := by
    have h := c8 i (.int .u8 (x.at i)) (by rw [HX.out]; exact vals_at x i4)
    rw [Nat.zero_add] at h
    exact h
  obtain ⟨w9, hw9⟩ : ∃ w9, w9 = w8.setCell ⟨s3, i, none⟩ (.int .u8 v) := ⟨_, rfl⟩
  have bo9 : But (Only s3) w8 w9 := by rw [hw9]; exact (But.refl (Only s3) w8).cellb (b := s3) rfl i _
  have C1 := hide U7.out.now.1.1
  have CU := hide cz8
  have FU := hide fz8
  obtain ⟨X9, hX9⟩ : ∃ X9, X9 = (x.put i v).vals := ⟨_, rfl⟩
  have LX9 : Hid (X9.length = 4) := by rw [hX9]; exact rfl
  have c9 : CellsAt w9 s3 0 X9 := by
    rw [hX9, vals_put x i4, hw9, ← HX.out]
    exact c8.one (by rw [LX.out]; exact i4) _
  have l9 : s3 < w9.heap.size := Nat.lt_of_lt_of_le l8 bo9.size
  have B9a : Below w7.heap.size w7 w9 := b8.trans (bo9.below b8.size (fun g hg e => by have e : g = s3 := e; omega))
  have B9 := hide (later B7.out B9a)
  have U9 := hide (U7.out.next B9a)
  have C9 := hide c9
  have C92 := hide U9.out.now.1.2
  have G9 := hide (G7.out.later B9a)
  have D9 := uDec_any (x.put i v) y (I4.put_ok XO.out i v0 v1) YO.out (.slice (some ⟨gx, 0, none⟩) N xc) L0 w9 U9.out.now.2 By.out (by rw [← HN.out]; omega)
  have ER : udE (x.put i v) y L0 = 5 := by rw [hv, HL0.out]; exact uf_other XO.out YO.out BB.out UE.out i4 hj8
  rw [ER, XV.out.2, show (x.put i v).val = .agg X9.toArray from by rw [hX9]; rfl] at D9
  obtain ⟨d1, hd1⟩ : ∃ d1, d1 = udF (x.put i v) y L0 := ⟨_, rfl⟩
  obtain ⟨d2, hd2⟩ : ∃ d2, d2 = udT (x.put i v) y L0 := ⟨_, rfl⟩
  rw [← hd1, ← hd2] at D9
  have HD9 := hide D9
  have hz8' := hz8.symm
  simp only [zI, I4.vals] at hz8'
  have hw8' := hw8.symm
  have hs3' := hs3.symm
  have hw9' := hw9.symm
  rw [hv] at hw9'
  have HV := hide hv
  have zi : (i : Int) < 4 := by omega
  clear hz8 hw8 hs3 cz8 fz8 c8 b8 bo9 c9 B9a D9 hX9 ER hd1 hd2 hw9 hv v0 v1 U7 G7
  go_upto_region 11 with (first | refine wpList_loadA rfl 23 4 aggI sizI _ rfl s1 0 rfl X LX.out C1.out ?_ | (refine wpList_storeA rfl 23 4 sizI _ _ rfl s3 0 rfl X zI.vals rfl LX.out rfl CU.out FU.out OX.out ?_; intro _; rw [hw8']))
  clear hz8' hw8' hs3' CU FU C1
  go_upto_region 12 with fail
  clear x8 f8 hw9'
  go_wp2_with (first | refine wpList_loadA rfl 23 4 aggI sizI _ rfl s3 0 rfl X9 LX9.out C9.out ?_ | refine wpList_loadA rfl 23 4 aggI sizI _ rfl s2 0 rfl Y LY.out C92.out ?_)
  refine HD9.out.mono ?_
  rintro _ w10 ⟨u10, rfl, g10, b10⟩
  obtain ⟨a10, c10, rfl, _⟩ := g10.isB.shape
  obtain ⟨n10, hn10⟩ : ∃ n10, n10 = (udD (x.put i v) y L0).length := ⟨_, rfl⟩
  rw [← hn10]
  have B10 := hide (later B9.out b10)
  have U10 := hide (U9.out.next b10)
  -- another datagram
  have IL := hide U10.out.now.2
  have LD : Hid (([] : List Int).length + L0.length ≤ 140737488355328) := by unfold Hid; rw [← HN.out]; simp; omega
  have EL : Hid (([] : List Int) ++ L0 = L0) := rfl
  have GN : Hid (Gro w10.heap.size w10 (.slice none 0 0) []) := Gro.nil _ _
  have NN : Hid (w10.heap.size ≤ w10.heap.size) := Nat.le_refl _
  clear g10 b10 hn10 HD9 C9 C92 U9 G9
  go_upto_region 13 with fail
  go_wp2_with (at_builtin; refine wpList_growB rfl (.const (.slice none 0 0)) (.tmp 115) rfl rfl w10.heap.size (.slice none 0 0) _ [] L0 rfl rfl GN.out IL.out NN.out LD.out L0 EL.out ?_)
  intro a11 k11 w11 _ g11 b11
  rw [← HN.out] at g11 ⊢
  obtain ⟨gy, rfl, hgy, hcy, hfy⟩ := g11.block (by rw [← HN.out]; omega)
  have cy0 := hcy k (by rw [← HN.out]; exact hkN)
  have fy := hfy k
  obtain ⟨xk, hxk⟩ : ∃ xk, xk = nb L0 k := ⟨_, rfl⟩
  have cy : w11.cell? ⟨gy, k, none⟩ = some (.int .u8 xk) := by rw [hxk]; exact cy0
  clear cy0
  obtain ⟨nv, hnv⟩ : ∃ nv, nv = bits BinOp.xor IntKind.u8 xk (2 ^ j % 256) := ⟨_, rfl⟩
  obtain ⟨_, n0, n1⟩ := xor_bit' xk j (by rw [hxk]; exact (nb_bd By.out k).1) (by rw [hxk]; exact (nb_bd By.out k).2) hj8
  rw [← hnv] at n0 n1
  obtain ⟨w12, hw12⟩ : ∃ w12, w12 = w11.setCell ⟨gy, k, none⟩ (.int .u8 nv) := ⟨_, rfl⟩
  obtain ⟨L, hL⟩ : ∃ L, L = L0.set k nv := ⟨_, rfl⟩
  have g12 : Gro w10.heap.size w12 (.slice (some ⟨gy, 0, none⟩) N k11) L := by rw [hw12, hL]; exact g11.store HN.out k _
  have BL : Bytes L := by rw [hL]; exact By.out.set k _ n0 n1
  have lL : L.length = N := by rw [hL, List.length_set, HN.out]
  have bo12 : But (Only gy) w11 w12 := by rw [hw12]; exact (But.refl (Only gy) w11).cellb (b := gy) rfl k _
  have b1012 : Below w10.heap.size w10 w12 := b11.trans (bo12.below b11.size (fun g hg e => by have e : g = gy := e; omega))
  have B12 := hide (later B10.out b1012)
  have U12 := hide (U10.out.next b1012)
  have TN : Hid (k = 4 ∨ k = 5 ∨ udE x y L ≠ 0 ∨ ((k = 6 ∨ k = 7) ∧ nb L 6 = 0 ∧ nb L 7 = 0)) := by
    unfold Hid
    by_cases k4 : k = 4
    · exact .inl k4
    by_cases k5 : k = 5
    · exact .inr (.inl k5)
    refine .inr (.inr (uf_turn XO.out YO.out BB.out UE.out (k := k) (j := j) (by have := HBN.out; have := NH.out; omega) hj8 k4 k5 ?_ BL))
    rw [hL, hnv, hxk, HL0.out]
  have D12 := uDec_any x y XO.out YO.out (.slice (some ⟨gy, 0, none⟩) N k11) L w12 g12.isB BL (by rw [lL]; omega)
  rw [XV.out.1, XV.out.2] at D12
  obtain ⟨h, hh⟩ : ∃ h, h = udE x y L := ⟨_, rfl⟩
  obtain ⟨d3, hd3⟩ : ∃ d3, d3 = udF x y L := ⟨_, rfl⟩
  obtain ⟨d4, hd4⟩ : ∃ d4, d4 = udT x y L := ⟨_, rfl⟩
  rw [← hh] at TN
  rw [← hh, ← hd3, ← hd4] at D12
  have HD12 := hide D12
  have G12 := hide g12
  have LL := hide lL
  have C1 := hide U12.out.now.1.1
  have C2 := hide U12.out.now.1.2
  have hw12' := hw12.symm
  rw [hnv] at hw12'
  have zk : (k : Int) < (N : Int) := by omega
  clear g11 b11 hgy hcy hfy hxk hw12 hL g12 BL lL bo12 b1012 D12 hd3 hd4 hh IL LD EL GN NN hnv n0 n1 U10
  go_upto_region 15 with fail
  clear cy fy hw12'
  go_wp2_with (first | refine wpList_loadA rfl 23 4 aggI sizI _ rfl s1 0 rfl X LX.out C1.out ?_ | refine wpList_loadA rfl 23 4 aggI sizI _ rfl s2 0 rfl Y LY.out C2.out ?_)
  refine HD12.out.mono ?_
  rintro _ w13 ⟨u13, rfl, g13, b13⟩
  obtain ⟨a13, c13, rfl, _⟩ := g13.isB.shape
  obtain ⟨n13, hn13⟩ : ∃ n13, n13 = (udD x y L).length := ⟨_, rfl⟩
  rw [← hn13]
  have B13 := hide (later B12.out b13)
  obtain ⟨hq, hcl⟩ : (∀ i, i < N → w13.cell? ⟨gy, i, none⟩ = some (.int .u8 (nb L i))) ∧ True := by
    have gl := G12.out.later b13
    obtain ⟨g', e', _, hc', _⟩ := gl.block (by rw [LL.out]; omega)
    cases e'
    exact ⟨fun i hi => hc' i (by rw [LL.out]; exact hi), trivial⟩
  have y6 := hq 6 (by omega)
  have y7 := hq 7 (by omega)
  obtain ⟨p6, hp6⟩ : ∃ p6, p6 = nb L 6 := ⟨_, rfl⟩
  obtain ⟨p7, hp7⟩ : ∃ p7, p7 = nb L 7 := ⟨_, rfl⟩
  rw [← hp6] at y6 TN
  rw [← hp7] at y7 TN
  obtain ⟨no, hno⟩ : ∃ no, no = decide ((k = 6 ∨ k = 7) ∧ p6 = 0 ∧ p7 = 0) := ⟨_, rfl⟩
  have HNO := hide hno
  clear g13 b13 hn13 HD12 C1 C2 U12 G12 hq hcl hp6 hp7 hno
  go_upto_region 17 with fail
  go_cut [33] (fun v wc => v = .bool no ∧ w13 = wc)
  case first =>
    by_cases k6 : k = 6
    · subst k6
      by_cases q6 : p6 = 0
      · by_cases q7 : p7 = 0
        · have e : no = true := by rw [HNO.out]; simp [q6, q7]
          subst e q6 q7
          go_wp2
          go_meet
          case rel => exact ⟨rfl, rfl⟩
        · have e : no = false := by rw [HNO.out]; simp [q7]
          have r7 : (p7 == 0) = false := by simpa using q7
          subst e q6
          clear q7
          go_wp2
          go_meet
          case rel => exact ⟨rfl, rfl⟩
      · have e : no = false := by rw [HNO.out]; simp [q6]
        have r6 : (p6 == 0) = false := by simpa using q6
        subst e
        clear q6
        go_wp2
        go_meet
        case rel => exact ⟨rfl, rfl⟩
    · have s6 : ((k : Int) == 6) = false := by simp; omega
      by_cases k7 : k = 7
      · subst k7
        by_cases q6 : p6 = 0
        · by_cases q7 : p7 = 0
          · have e : no = true := by rw [HNO.out]; simp [q6, q7]
            subst e q6 q7
            go_wp2
            go_meet
            case rel => exact ⟨rfl, rfl⟩
          · have e : no = false := by rw [HNO.out]; simp [q7]
            have r7 : (p7 == 0) = false := by simpa using q7
            subst e q6
            clear q7
            go_wp2
            go_meet
            case rel => exact ⟨rfl, rfl⟩
        · have e : no = false := by rw [HNO.out]; simp [q6]
          have r6 : (p6 == 0) = false := by simpa using q6
          subst e
          clear q6
          go_wp2
          go_meet
          case rel => exact ⟨rfl, rfl⟩
      · have s7 : ((k : Int) == 7) = false := by simp; omega
        have e : no = false := by rw [HNO.out]; simp [k6, k7]
        subst e
        clear k6 k7
        go_wp2
        go_meet
        case rel => exact ⟨rfl, rfl⟩
  case rest =>
    obtain ⟨rfl, hcw⟩ := hcut
    subst hcw
    clear y6 y7
    by_cases h0 : h = 0
    · subst h0
      by_cases k4 : k = 4
      · subst k4
        go_wp2
        go_ret
        exact ⟨rfl, B13.out⟩
      · have s4 : ((k : Int) == 4) = false := by simp; omega
        by_cases k5 : k = 5
        · subst k5
          go_wp2
          go_ret
          exact ⟨rfl, B13.out⟩
        · have s5 : ((k : Int) == 5) = false := by simp; omega
          have e : no = true := by
            rw [HNO.out]
            rcases TN.out with h | h | h | h
            · exact absurd h k4
            · exact absurd h k5
            · exact absurd rfl h
            · exact decide_eq_true h
          subst e
          clear k4 k5
          go_wp2
          go_ret
          exact ⟨rfl, B13.out⟩
    · have q0 : (h != 0) = true := by simpa using h0
      clear h0
      go_wp2
      go_ret
      exact ⟨rfl, B13.out⟩
end Go.Proofs.Ythjeaebpboilpaa
