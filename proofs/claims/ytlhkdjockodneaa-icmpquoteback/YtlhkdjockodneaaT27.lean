
/-
  IcmpQuoteBack: the walk.
-/
import Derived.Test.YtlhkdjockodneaaT26
namespace Go.Proofs.Ytlhkdjockodneaa
open Go.RowKit Go.Shelf

theorem exec_neErr {o : Oper} {w : World} {ev : Operand → Value} (x y : Operand) (t : TypeId) (a : Int) (ho : o.op = .binOp .neq 26 x y t) (hx : ev x = .int .i64 a) (hy : ev y = .int .i64 a) : (execOp ev o).run Try.prog w = .ok (.value (.bool false)) w := by
  unfold execOp
  simp [ho, hx, hy, go_sem]
theorem exec_neInt {o : Oper} {w : World} {ev : Operand → Value} (x y : Operand) (t : TypeId) (a : Int) (ho : o.op = .binOp .neq 3 x y t) (hx : ev x = .int .i64 a) (hy : ev y = .int .i64 a) : (execOp ev o).run Try.prog w = .ok (.value (.bool false)) w := by
  unfold execOp
  simp [ho, hx, hy, go_sem]
theorem exec_neStr {o : Oper} {w : World} {ev : Operand → Value} (x y : Operand) (t : TypeId) (s : ByteArray) (ho : o.op = .binOp .neq 9 x y t) (hx : ev x = .string s) (hy : ev y = .string s) : (execOp ev o).run Try.prog w = .ok (.value (.bool false)) w := by
  unfold execOp
  simp [ho, hx, hy, go_sem]
theorem exec_neIp {o : Oper} {w : World} {ev : Operand → Value} (x y : Operand) (t : TypeId) (q : I4) (ho : o.op = .binOp .neq 35 x y t) (hx : ev x = .agg q.vals.toArray) (hy : ev y = .agg q.vals.toArray) : (execOp ev o).run Try.prog w = .ok (.value (.bool false)) w := by
  obtain ⟨i0, i1, i2, i3⟩ := q
  have EI := eq_ip
  have m3 : eqI ⟨i0, i1, i2, i3⟩ ⟨i0, i1, i2, i3⟩ = true := eqI_self _
  unfold execOp
  simp [ho, hx, hy, I4.vals, go_sem, EI, m3]
set_option maxRecDepth 100000 in
set_option maxHeartbeats 16000000 in
theorem QuoteBack_walk (p : Pk) (ov : Value) (sp dp n : Int) (bv : Value) (b : List Int) (w : World) (hov : IsB w.heap.size w ov p.opts) (hO : PkOk p) (_ : -9223372036854775808 ≤ sp) (_ : sp ≤ 9223372036854775807) (_ : -9223372036854775808 ≤ dp) (_ : dp ≤ 9223372036854775807) (_ : 0 ≤ n) (_ : n ≤ 4294967295) (hb : IsB w.heap.size w bv b) (hB : Bytes b) (lb : b.length ≤ 140737488351232) :
    Calls Try.prog 8 #[.agg (p.cells ov).toArray, .int .i64 sp, .int .i64 dp, .int .u32 n, bv] w fun e w' => e = .returned (.bool true) ∧ Below w.heap.size w w' := by
  obtain ⟨oa, oc, rfl, _⟩ := hov.shape
  obtain ⟨ba, bc, rfl, _⟩ := hb.shape
  obtain ⟨on, hon⟩ : ∃ on, on = p.opts.length := ⟨_, rfl⟩
  obtain ⟨bn, hbn⟩ : ∃ bn, bn = b.length := ⟨_, rfl⟩
  rw [← hon] at hov ⊢
  rw [← hbn] at hb lb ⊢
  obtain ⟨s5, hs5⟩ : ∃ s5, s5 = w.heap.size := ⟨_, rfl⟩
  obtain ⟨X, hX⟩ : ∃ X, X = p.cells (.slice oa on oc) := ⟨_, rfl⟩
  have lX : X.length = 16 := by rw [hX]; rfl
  rw [← hX]
  obtain ⟨w1, hw1⟩ : ∃ w1, w1 = w.alloc (.cells X.toArray 70) := ⟨_, rfl⟩
  have b1 : Below w.heap.size w w1 := by rw [hw1]; exact later_alloc _ _
  have c1 : CellsAt w1 s5 0 X := by rw [hw1, hs5]; exact CellsAt.new w X 70
  have l1 : s5 < w1.heap.size := by rw [hw1, hs5]; simp
  have HB1 := hide b1
  have C1 := hide c1
  have HX := hide hX
  have LX := hide lX
  have HOV := hide hov
  have HBV := hide hb
  have HP := hide hO
  have BY := hide hB
  have HN := hide hon
  have HBN := hide hbn
  clear b1 c1 hX hov hb hO hon hbn hB
  go_enter Try.func8, Try.ntmps8
  have hw1' := hw1.symm
  have hs5' := hs5.symm
  have HS := hide hs5
  clear hw1 hs5
  go_wp2_with fail
  clear hw1' hs5' lX
  refine (icAwake_any w1).mono ?_
  rintro _ w2 ⟨rfl, b2⟩
  have HB2 : Hid (Below w.heap.size w w2) := later HB1.out b2
  have C2 := hide (C1.out.later l1 b2)
  have L2 : s5 < w2.heap.size := Nat.lt_of_lt_of_le l1 b2.size
  clear b2 C1 HB1 l1
  -- the eight bytes
  obtain ⟨w3, hw3⟩ : ∃ w3, w3 = w2.alloc (.cells ((e8 sp dp n).map (Value.int .u8)).toArray 5) := ⟨_, rfl⟩
  obtain ⟨s12, hs12⟩ : ∃ s12, s12 = w2.heap.size := ⟨_, rfl⟩
  have b3 : Below w2.heap.size w2 w3 := by rw [hw3]; exact later_alloc _ _
  have g3 : Gro w2.heap.size w3 (.slice (some ⟨s12, 0, none⟩) 8 8) (e8 sp dp n) := by rw [hw3, hs12]; exact lit_G w2 _ (by show 8 ≤ 1000; omega)
  obtain ⟨x0, hx0⟩ : ∃ x0, x0 = w3.drew := ⟨_, rfl⟩
  have bx0 : Below w3.heap.size w3 x0 := by rw [hx0]; exact (Below.refl _ w3).drew
  have B3 := hide (later HB2.out (later b3 bx0))
  have HWS : Hid (w.heap.size ≤ w2.heap.size) := HB2.out.size
  have cx0 : CellsAt x0 s5 0 X := C2.out.later L2 (later b3 bx0)
  have lb8 : (e8 sp dp n).length + b.length ≤ 140737488355328 := by show 8 + b.length ≤ _; rw [← HBN.out]; omega
  obtain ⟨v4, w4, r4, g4, b4⟩ := append_runB (g3.later bx0) (HBV.out.later B3.out) (Nat.le_trans b3.size bx0.size) lb8
  have B4 : Hid (Below w.heap.size w w4) := B3.out.trans (b4.mono HWS.out)
  have c4 : CellsAt w4 s5 0 X := C2.out.later L2 ((later b3 bx0).trans b4)
  have L4 : s5 < w4.heap.size := Nat.lt_of_lt_of_le L2 (Nat.le_trans b3.size (Nat.le_trans bx0.size b4.size))
  have R4 := hide r4
  have EN := rEncode_any p (.slice oa on oc) v4 (e8 sp dp n ++ b) w4 (HOV.out.later B4.out) g4.isB HP.out.src HP.out.dst HP.out.opts (by have := HP.out.len; omega) (by rw [List.length_append]; show ((8 + b.length : Nat) : Int) ≤ _; rw [← HBN.out]; omega)
  rw [← HX.out] at EN
  have HEN := hide EN
  have CX0 := hide cx0
  have C4 := hide c4
  have hw3' := hw3.symm
  simp only [e8, List.map_cons, List.map_nil] at hw3'
  have hs12' := hs12.symm
  clear hw3 hs12 b3 g3 bx0 cx0 r4 g4 b4 c4 EN C2
  go_upto_region 3 with fail
  clear hw3' hs12'
  refine region_out (fun W => CellsAt W s5 0 X) (by kernel_rfl) ?_
  rw [← hx0]
  refine takeD (i := 0) (v := .agg X.toArray) 45 rfl rfl (by kernel_rfl) (by kernel_rfl) (by kernel_rfl) (fun _ _ _ h => h) (.inl ⟨by rfl, fun W hW => exec_loadA 70 16 aggP sizP (.tmp 5) rfl s5 0 rfl X LX.out hW⟩) (CX0.out) ?_
  try simp only [Act.put, List.setIfInBounds_toArray, List.set_cons_zero, List.set_cons_succ]
  refine takeD (i := 1) (v := .slice (some ⟨s12, 0, none⟩) 8 8) 46 rfl rfl (by kernel_rfl) (by kernel_rfl) (by kernel_rfl) (fun _ _ _ h => h) (.inl ⟨by rfl, fun W hW => exec_move _ _ rfl rfl⟩) (CX0.out) ?_
  try simp only [Act.put, List.setIfInBounds_toArray, List.set_cons_zero, List.set_cons_succ]
  refine takeD (i := 2) (v := .slice ba bn bc) 47 rfl rfl (by kernel_rfl) (by kernel_rfl) (by kernel_rfl) (fun _ _ _ h => h) (.inl ⟨by rfl, fun W hW => exec_move _ _ rfl rfl⟩) (CX0.out) ?_
  try simp only [Act.put, List.setIfInBounds_toArray, List.set_cons_zero, List.set_cons_succ]
  refine nextD (w' := w4) 3 48 (v4) (by kernel_rfl) rfl rfl (by rfl) (exec_app _ _ _ _ rfl _ _ rfl rfl _ rfl R4.out) (C4.out) ?_
  try simp only [Act.put, List.setIfInBounds_toArray, List.set_cons_zero, List.set_cons_succ]
  refine callD 4 49 (by kernel_rfl) rfl rfl (by rfl) 30 #[.agg X.toArray, v4] (exec_callF _ _ _ _ rfl (map2 rfl rfl) (enters_of Try.func30 (by kernel_rfl) rfl)) (fun v w9 => ∃ xa xn xc, v = .tuple #[.slice xa xn xc, .int .i64 (enE p (e8 sp dp n ++ b).length)] ∧ (enE p (e8 sp dp n ++ b).length = 0 → Gro w4.heap.size w9 (.slice xa xn xc) (enB p (e8 sp dp n ++ b))) ∧ CellsAt w9 s5 0 X ∧ Below w4.heap.size w4 w9) (HEN.out.mono (fun e w' h => ?_)) ?_
  · obtain ⟨bl, ⟨h0, v, rfl, g⟩ | ⟨h1, rfl⟩⟩ := h
    · obtain ⟨xa, xc, rfl, _⟩ := g.isB.shape
      exact ⟨_, rfl, xa, _, xc, by rw [h0], fun _ => g, C4.out.later L4 bl, bl⟩
    · exact ⟨_, rfl, none, 0, 0, rfl, fun h => absurd h h1, C4.out.later L4 bl, bl⟩
  rintro v w5 ⟨xa, xn, xc, rfl, hg5, c5, b5⟩
  refine ⟨c5, ?_⟩
  simp only [Act.put, List.setIfInBounds_toArray, List.set_cons_zero, List.set_cons_succ]
  refine takeD (i := 5) (v := .tuple #[.slice xa xn xc, .int .i64 (enE p (e8 sp dp n ++ b).length)]) 44 rfl rfl (by kernel_rfl) (by kernel_rfl) (by kernel_rfl) (fun _ _ _ h => h) (.inl ⟨by rfl, fun W hW => exec_move _ _ rfl rfl⟩) (c5) ?_
  try simp only [Act.put, List.setIfInBounds_toArray, List.set_cons_zero, List.set_cons_succ]
  refine takeD (i := 6) (v := .slice xa xn xc) 50 rfl rfl (by kernel_rfl) (by kernel_rfl) (by kernel_rfl) (fun _ _ _ h => h) (.inl ⟨by rfl, fun W hW => exec_ext _ _ _ _ rfl rfl rfl⟩) (c5) ?_
  try simp only [Act.put, List.setIfInBounds_toArray, List.set_cons_zero, List.set_cons_succ]
  refine takeD (i := 7) (v := .int .i64 (enE p (e8 sp dp n ++ b).length)) 51 rfl rfl (by kernel_rfl) (by kernel_rfl) (by kernel_rfl) (fun _ _ _ h => h) (.inl ⟨by rfl, fun W hW => exec_ext _ _ _ _ rfl rfl rfl⟩) (c5) ?_
  try simp only [Act.put, List.setIfInBounds_toArray, List.set_cons_zero, List.set_cons_succ]
  refine takeD (i := 8) (v := .slice xa xn xc) 13 rfl rfl (by kernel_rfl) (by kernel_rfl) (by kernel_rfl) (fun _ _ _ h => h) (.inl ⟨by rfl, fun W hW => exec_assign _ _ rfl rfl⟩) (c5) ?_
  try simp only [Act.put, List.setIfInBounds_toArray, List.set_cons_zero, List.set_cons_succ]
  refine takeD (i := 9) (v := .int .i64 (enE p (e8 sp dp n ++ b).length)) 14 rfl rfl (by kernel_rfl) (by kernel_rfl) (by kernel_rfl) (fun _ _ _ h => h) (.inl ⟨by rfl, fun W hW => exec_assign _ _ rfl rfl⟩) (c5) ?_
  try simp only [Act.put, List.setIfInBounds_toArray, List.set_cons_zero, List.set_cons_succ]
  refine wpAnyH_done (by kernel_rfl) ?_ _
  have B5 := hide (later B4.out b5)
  have HG5 := hide hg5
  have C5 := hide c5
  have L5 : s5 < w5.heap.size := Nat.lt_of_lt_of_le L4 b5.size
  obtain ⟨E, hE⟩ : ∃ E, E = enE p (e8 sp dp n ++ b).length := ⟨_, rfl⟩
  rw [← hE] at HG5 ⊢
  have HE := hide hE
  clear hg5 c5 b5 hE C4 CX0 R4 HEN hx0
  by_cases e0 : E = 0
  case neg =>
    have z : (E != 0) = true := by simpa using e0
    clear e0
    go_wp2
    go_ret
    exact ⟨rfl, B5.out⟩
  subst e0
  by_cases k1 : sp < 0
  · go_wp2
    go_ret
    exact ⟨rfl, B5.out⟩
  by_cases k2 : 65535 < sp
  · go_wp2
    go_ret
    exact ⟨rfl, B5.out⟩
  by_cases k3 : dp < 0
  · go_wp2
    go_ret
    exact ⟨rfl, B5.out⟩
  by_cases k4 : 65535 < dp
  · go_wp2
    go_ret
    exact ⟨rfl, B5.out⟩
  have HE2 : Hid (enE p (e8 sp dp n ++ b).length = 0) := HE.out.symm
  obtain ⟨x, hx⟩ : ∃ x, x = enB p (e8 sp dp n ++ b) := ⟨_, rfl⟩
  have GX := HG5.out rfl
  rw [← hx] at GX
  have BX : Hid (Bytes x) := by rw [hx]; exact enB_bytes HP.out HE2.out ((e8_bytes sp dp n (by assumption) (by assumption)).append BY.out)
  have LXX : x.length ≤ 140737488355328 := by rw [hx, enB_len, List.length_append]; show _ + _ + (8 + b.length) ≤ _; have := (quoted_of (p := p) (b := b) (E := e8 sp dp n) rfl HE2.out).1; rw [← HBN.out]; omega
  obtain ⟨q, hq⟩ : ∃ q, q = qtL x := ⟨_, rfl⟩
  obtain ⟨o1, e1, e2, e3⟩ := quoted_of (p := p) (b := b) (E := e8 sp dp n) rfl HE2.out
  obtain ⟨qe, qq⟩ := quote_read (p := p) (b := b) (sp := sp) (dp := dp) (n := n) HE2.out (by omega) (by omega) (by omega) (by omega)
  rw [← hx, ← hq] at e1 e2 e3 qe qq
  have Q68 : q.length ≤ 68 := by omega
  have BQ : Hid (Bytes q) := by rw [hq]; unfold qtL; exact fun y hy => BX.out y (List.mem_of_mem_take hy)
  obtain ⟨V, hV⟩ : ∃ V, V = quQ q := ⟨_, rfl⟩
  have VV : quV q = V := by unfold quV; rw [if_pos qe, hV]
  have HQQ := hide (hV.trans qq)
  have HQX := hide hq
  have GXH := hide GX
  have C6 := hide (icQuoting_any (.slice xa xn xc) x w5 GX.isB BX.out LXX)
  have LXH := hide LXX
  have QE := hide qe
  have QV := hide VV
  clear HG5 hx GX LXX hq e1 e2 e3 qe qq hV VV o1
  go_wp2_with fail
  refine C6.out.mono ?_
  rintro _ w6 ⟨u6, rfl, g6, b6⟩
  rw [← HQX.out] at g6
  obtain ⟨ua, uc, rfl, _⟩ := g6.isB.shape
  have B6 := hide (later B5.out b6)
  have G6x := hide (GXH.out.later b6)
  have C6x := hide (C5.out.later L5 b6)
  have L6 : s5 < w6.heap.size := Nat.lt_of_lt_of_le L5 b6.size
  have QD := icQuoted_any _ q w6 g6.isB BQ.out (by omega)
  rw [QE.out, QV.out] at QD
  have HQD := hide QD
  clear g6 b6 QD C6 C5 GXH
  go_wp2_with fail
  refine HQD.out.mono ?_
  rintro _ w7 ⟨rfl, b7⟩
  obtain ⟨Y, hY⟩ : ∃ Y, Y = V.cells := ⟨_, rfl⟩
  rw [← hY]
  have LY : Hid (Y.length = 12) := by rw [hY]; exact rfl
  have OY : Hid (∀ u ∈ Y, u.oneCell' = true) := by rw [hY]; exact qu_one _
  have HY := hide hY
  obtain ⟨u8, w8, hu8, hw8, cu8, fu8, c8, b8, l8⟩ := newQ w7 Y LY.out
  obtain ⟨s15, hs15⟩ : ∃ s15, s15 = w7.heap.size := ⟨_, rfl⟩
  rw [← hs15] at hw8 cu8 fu8 c8 l8
  have CU := hide cu8
  have FU := hide fu8
  have b78 := later b7 b8
  have B8 := hide (later B6.out b78)
  have G8x := hide (G6x.out.later b78)
  have C8p := hide (C6x.out.later L6 b78)
  have C8q := hide c8
  have L8 : s5 < w8.heap.size := Nat.lt_of_lt_of_le L6 b78.size
  have QG := hide (icQuoting_any (.slice xa xn xc) x w8 G8x.out.isB BX.out LXH.out)
  have hu8' := hu8.symm
  simp only [zQ, Qu.cells, zI, I4.vals, List.cons_append, List.nil_append] at hu8'
  have hs15' := hs15.symm
  have hw8' := hw8.symm
  clear hY hu8 hw8 cu8 fu8 c8 b8 b7 b78 hs15 HQD G6x C6x
  go_upto_region 7 with (refine wpList_storeA rfl 38 12 sizQ _ _ rfl s15 0 rfl Y zQ.cells rfl LY.out rfl CU.out FU.out OY.out ?_; intro _; rw [hw8'])
  clear hu8' hw8' hs15' CU FU
  go_wp2_with fail
  refine QG.out.mono ?_
  rintro _ w9 ⟨u9, rfl, g9, b9⟩
  rw [← HQX.out] at g9
  obtain ⟨ya, yc, rfl, _⟩ := g9.isB.shape
  have B9 := hide (later B8.out b9)
  have G9x := hide (G8x.out.later b9)
  have C9p := hide (C8p.out.later L8 b9)
  have C9q := hide (C8q.out.later l8 b9)
  have L9 : s5 < w9.heap.size := Nat.lt_of_lt_of_le L8 b9.size
  have l9 : s15 < w9.heap.size := Nat.lt_of_lt_of_le l8 b9.size
  have EN := icEnc_any 3 3 0 0 0 ya yc q w9 g9.isB BQ.out
  have m33 : mbI 3 3 0 0 0 = true := by decide
  have i0 : ieE 3 3 0 0 0 q.length = 0 := by unfold ieE; rw [if_neg (by omega), m33]; rfl
  have iB : ieB 3 3 0 0 0 q = icB 3 3 0 0 0 q := by unfold ieB; rw [if_pos i0]
  rw [i0, iB] at EN
  have HEN := hide EN
  have M33 := hide m33
  clear EN i0 iB g9 b9 QG G8x C8p C8q m33
  go_wp2_with fail
  refine HEN.out.mono ?_
  rintro _ w10 ⟨v10, rfl, g10, b10⟩
  obtain ⟨va, vc, rfl, _⟩ := g10.isB.shape
  have B10 := hide (later B9.out b10)
  have U10 := (C9p.out.later L9 b10)
  obtain ⟨d0, d1⟩ := dec_enc M33.out BQ.out (by omega)
  have DE := icDec_any _ _ w10 g10.isB (icB_bytes M33.out BQ.out) (by rw [icB_len]; omega)
  rw [d0, d1] at DE
  have HDE := hide DE
  obtain ⟨vn, hvn⟩ : ∃ vn, vn = (icB 3 3 0 0 0 q).length := ⟨_, rfl⟩
  rw [← hvn] at HDE ⊢
  have UA : Hid (Up w10 (fun W => CellsAt W s15 0 Y ∧ CellsAt W s5 0 X ∧ Gro w4.heap.size W (.slice xa xn xc) x)) := ((C9q.out.later l9 b10).up (Nat.lt_of_lt_of_le l9 b10.size)).and ((U10.up (Nat.lt_of_lt_of_le L9 b10.size)).and (G9x.out.later b10).up)
  clear g10 b10 U10 DE d0 d1 hvn HEN C9p C9q G9x L9 l9
  go_wp2_with fail
  refine HDE.out.mono ?_
  rintro _ w11 ⟨ka, kn, kc, rfl, g11, b11⟩
  obtain ⟨Z, hZ⟩ : ∃ Z, Z = Ms.cells ⟨3, 3, 0, 0, 0, q⟩ (.slice ka kn kc) := ⟨_, rfl⟩
  rw [← hZ]
  have LZ : Hid (Z.length = 6) := by rw [hZ]; exact rfl
  have OZ : Hid (∀ u ∈ Z, u.oneCell' = true) := by rw [hZ]; exact im_one _ _ _ _ _ _ _ _
  obtain ⟨u12, w12, hu12, hw12, cu12, fu12, c12, b12, l12⟩ := newC w11 Z LZ.out
  obtain ⟨s19, hs19⟩ : ∃ s19, s19 = w11.heap.size := ⟨_, rfl⟩
  rw [← hs19] at hw12 cu12 fu12 c12 l12
  have CU := hide cu12
  have FU := hide fu12
  have b1012 := later b11 b12
  have B12 := hide (later B10.out b1012)
  have UB : Hid (Up w12 (fun W => (CellsAt W s15 0 Y ∧ CellsAt W s5 0 X ∧ Gro w4.heap.size W (.slice xa xn xc) x) ∧ CellsAt W s19 0 Z ∧ IsB W.heap.size W (.slice ka kn kc) q)) := (UA.out.next b1012).and ((c12.up l12).and (g11.isB.later b12).up)
  have HZ := hide hZ
  have hu12' := hu12.symm
  simp only [zIm, imL] at hu12'
  have hs19' := hs19.symm
  have hw12' := hw12.symm
  clear hZ hu12 hw12 cu12 fu12 c12 b12 b11 b1012 hs19 HDE UA g11
  go_upto_region 9 with (refine wpList_storeA rfl 24 6 sizC _ _ rfl s19 0 rfl Z zIm rfl LZ.out rfl CU.out FU.out OZ.out ?_; intro _; rw [hw12'])
  clear hu12' hw12' hs19' CU FU
  have Y5 : Hid (∀ W, Below w12.heap.size w12 W → W.cell? ⟨s19, 5, none⟩ = some (.slice ka kn kc)) := fun W hW => by
    have h := (UB.out W hW).2.1
    rw [HZ.out] at h
    exact (imL_cells h).2.2.2.2.2
  have YQ : Hid (∀ W, Below w12.heap.size w12 W → CellsAt W s15 0 p.src.vals ∧ CellsAt W s15 4 p.dst.vals ∧ W.cell? ⟨s15, 8, none⟩ = some (.int .i64 p.proto)) := fun W hW => by
    have h := (UB.out W hW).1.1
    rw [HY.out, HQQ.out] at h
    have h1 := CellsAt.append.1 h
    have h2 := CellsAt.append.1 h1.2
    have h3 : CellsAt W s15 (0 + 4) p.dst.vals := h2.1
    rw [Nat.zero_add] at h3
    exact ⟨h1.1, h3, h 8 _ rfl⟩
  have YP : Hid (∀ W, Below w12.heap.size w12 W → CellsAt W s5 0 p.src.vals ∧ CellsAt W s5 4 p.dst.vals ∧ W.cell? ⟨s5, 8, none⟩ = some (.int .i64 p.proto)) := fun W hW => by
    have h := (UB.out W hW).1.2.1
    rw [HX.out] at h
    obtain ⟨h1, h2⟩ := pk_ips h
    exact ⟨h1, h2, h 8 _ rfl⟩
  refine region_out (fun W => Below w12.heap.size w12 W) (by kernel_rfl) ?_
  refine takeD (i := 0) (v := .int .i64 0) 93 rfl rfl (by kernel_rfl) (by kernel_rfl) (by kernel_rfl) (fun _ _ _ h => h) (.inl ⟨by rfl, fun W hW => exec_move _ _ rfl rfl⟩) ((later_drew _)) ?_
  try simp only [Act.put, List.setIfInBounds_toArray, List.set_cons_zero, List.set_cons_succ]
  refine takeD (i := 1) (v := .bool false) 94 rfl rfl (by kernel_rfl) (by kernel_rfl) (by kernel_rfl) (fun _ _ _ h => h) (.inl ⟨by rfl, fun W hW => exec_neErr _ _ _ 0 rfl rfl rfl⟩) ((later_drew _)) ?_
  try simp only [Act.put, List.setIfInBounds_toArray, List.set_cons_zero, List.set_cons_succ]
  refine takeD (i := 2) (v := .bool false) 95 rfl rfl (by kernel_rfl) (by kernel_rfl) (by kernel_rfl) (fun _ _ _ h => h) (.inl ⟨by rfl, fun W hW => exec_move _ _ rfl rfl⟩) ((later_drew _)) ?_
  try simp only [Act.put, List.setIfInBounds_toArray, List.set_cons_zero, List.set_cons_succ]
  refine takeD (i := 3) (v := .int .i64 0) 96 rfl rfl (by kernel_rfl) (by kernel_rfl) (by kernel_rfl) (fun _ _ _ h => h) (.inl ⟨by rfl, fun W hW => exec_move _ _ rfl rfl⟩) ((later_drew _)) ?_
  try simp only [Act.put, List.setIfInBounds_toArray, List.set_cons_zero, List.set_cons_succ]
  refine takeD (i := 4) (v := .bool false) 97 rfl rfl (by kernel_rfl) (by kernel_rfl) (by kernel_rfl) (fun _ _ _ h => h) (.inl ⟨by rfl, fun W hW => exec_neErr _ _ _ 0 rfl rfl rfl⟩) ((later_drew _)) ?_
  try simp only [Act.put, List.setIfInBounds_toArray, List.set_cons_zero, List.set_cons_succ]
  refine takeD (i := 5) (v := .bool false) 98 rfl rfl (by kernel_rfl) (by kernel_rfl) (by kernel_rfl) (fun _ _ _ h => h) (.inl ⟨by rfl, fun W hW => exec_pick _ _ _ false _ rfl rfl rfl⟩) ((later_drew _)) ?_
  try simp only [Act.put, List.setIfInBounds_toArray, List.set_cons_zero, List.set_cons_succ]
  refine takeD (i := 6) (v := .bool false) 99 rfl rfl (by kernel_rfl) (by kernel_rfl) (by kernel_rfl) (fun _ _ _ h => h) (.inl ⟨by rfl, fun W hW => exec_move _ _ rfl rfl⟩) ((later_drew _)) ?_
  try simp only [Act.put, List.setIfInBounds_toArray, List.set_cons_zero, List.set_cons_succ]
  refine takeD (i := 7) (v := .int .i64 0) 100 rfl rfl (by kernel_rfl) (by kernel_rfl) (by kernel_rfl) (fun _ _ _ h => h) (.inl ⟨by rfl, fun W hW => exec_move _ _ rfl rfl⟩) ((later_drew _)) ?_
  try simp only [Act.put, List.setIfInBounds_toArray, List.set_cons_zero, List.set_cons_succ]
  refine takeD (i := 8) (v := .bool false) 101 rfl rfl (by kernel_rfl) (by kernel_rfl) (by kernel_rfl) (fun _ _ _ h => h) (.inl ⟨by rfl, fun W hW => exec_neErr _ _ _ 0 rfl rfl rfl⟩) ((later_drew _)) ?_
  try simp only [Act.put, List.setIfInBounds_toArray, List.set_cons_zero, List.set_cons_succ]
  refine takeD (i := 9) (v := .bool false) 102 rfl rfl (by kernel_rfl) (by kernel_rfl) (by kernel_rfl) (fun _ _ _ h => h) (.inl ⟨by rfl, fun W hW => exec_pick _ _ _ false _ rfl rfl rfl⟩) ((later_drew _)) ?_
  try simp only [Act.put, List.setIfInBounds_toArray, List.set_cons_zero, List.set_cons_succ]
  refine takeD (i := 10) (v := .bool false) 103 rfl rfl (by kernel_rfl) (by kernel_rfl) (by kernel_rfl) (fun _ _ _ h => h) (.inl ⟨by rfl, fun W hW => exec_move _ _ rfl rfl⟩) ((later_drew _)) ?_
  try simp only [Act.put, List.setIfInBounds_toArray, List.set_cons_zero, List.set_cons_succ]
  refine takeD (i := 11) (v := .pointer (some ⟨s19, 5, none⟩)) 104 rfl rfl (by kernel_rfl) (by kernel_rfl) (by kernel_rfl) (fun _ _ _ h => h) (.inl ⟨by rfl, fun W hW => exec_fieldO 24 _ 5 s19 0 5 rfl rfl (fun w => by kernel_rfl)⟩) ((later_drew _)) ?_
  try simp only [Act.put, List.setIfInBounds_toArray, List.set_cons_zero, List.set_cons_succ]
  refine takeD (i := 12) (v := .slice ka kn kc) 105 rfl rfl (by kernel_rfl) (by kernel_rfl) (by kernel_rfl) (fun _ _ _ h => h) (.inl ⟨by rfl, fun W hW => exec_load1 22 oneS _ rfl s19 5 rfl (.slice ka kn kc) (Y5.out W hW)⟩) ((later_drew _)) ?_
  try simp only [Act.put, List.setIfInBounds_toArray, List.set_cons_zero, List.set_cons_succ]
  refine takeD (i := 13) (v := .string (strB q)) 106 rfl rfl (by kernel_rfl) (by kernel_rfl) (by kernel_rfl) (fun _ _ _ h => h) (.inl ⟨by rfl, fun W hW => exec_str _ _ _ rfl rfl (UB.out W hW).2.2⟩) ((later_drew _)) ?_
  try simp only [Act.put, List.setIfInBounds_toArray, List.set_cons_zero, List.set_cons_succ]
  refine takeD (i := 14) (v := .slice xa xn xc) 107 rfl rfl (by kernel_rfl) (by kernel_rfl) (by kernel_rfl) (fun _ _ _ h => h) (.inl ⟨by rfl, fun W hW => exec_move _ _ rfl rfl⟩) ((later_drew _)) ?_
  try simp only [Act.put, List.setIfInBounds_toArray, List.set_cons_zero, List.set_cons_succ]
  refine callD 15 108 (by kernel_rfl) rfl rfl (by rfl) 15 #[.slice xa xn xc] (exec_callF _ _ _ _ rfl (map1 rfl) (enters_of Try.func15 (by kernel_rfl) rfl)) (fun v w9 => IsB w9.heap.size w9 v q ∧ Below w12.heap.size w12 w9) ((icQuoting_any (.slice xa xn xc) x _ (UB.out _ (later_drew _)).1.2.2.isB BX.out LXH.out).mono (fun e w' h => by obtain ⟨u, rfl, g, hb⟩ := h; rw [← HQX.out] at g; exact ⟨_, rfl, g.isB, later (later_drew _) hb⟩)) ?_
  rintro vz w13 ⟨i13, b13⟩
  refine ⟨b13, ?_⟩
  simp only [Act.put, List.setIfInBounds_toArray, List.set_cons_zero, List.set_cons_succ]
  refine nextD (w' := w13) 16 109 (.string (strB q)) (by kernel_rfl) rfl rfl (by rfl) (exec_str _ _ _ rfl rfl i13) (b13) ?_
  try simp only [Act.put, List.setIfInBounds_toArray, List.set_cons_zero, List.set_cons_succ]
  refine nextD (w' := w13) 17 110 (.bool false) (by kernel_rfl) rfl rfl (by rfl) (exec_neStr _ _ _ _ rfl rfl rfl) (b13) ?_
  try simp only [Act.put, List.setIfInBounds_toArray, List.set_cons_zero, List.set_cons_succ]
  refine nextD (w' := w13) 18 111 (.bool false) (by kernel_rfl) rfl rfl (by rfl) (exec_pick _ _ _ false _ rfl rfl rfl) (b13) ?_
  try simp only [Act.put, List.setIfInBounds_toArray, List.set_cons_zero, List.set_cons_succ]
  refine nextD (w' := w13) 19 112 (.bool false) (by kernel_rfl) rfl rfl (by rfl) (exec_move _ _ rfl rfl) (b13) ?_
  try simp only [Act.put, List.setIfInBounds_toArray, List.set_cons_zero, List.set_cons_succ]
  refine takeD (i := 20) (v := .pointer (some ⟨s15, 0, none⟩)) 113 rfl rfl (by kernel_rfl) (by kernel_rfl) (by kernel_rfl) (fun _ _ _ h => h) (.inl ⟨by rfl, fun W hW => exec_fieldO 38 _ 0 s15 0 0 rfl rfl (fun w => by kernel_rfl)⟩) (b13) ?_
  try simp only [Act.put, List.setIfInBounds_toArray, List.set_cons_zero, List.set_cons_succ]
  refine takeD (i := 21) (v := .agg (p.src.vals).toArray) 114 rfl rfl (by kernel_rfl) (by kernel_rfl) (by kernel_rfl) (fun _ _ _ h => h) (.inl ⟨by rfl, fun W hW => exec_loadA 35 4 aggI sizI _ rfl s15 0 rfl (p.src.vals) rfl ((YQ.out W hW).1)⟩) (b13) ?_
  try simp only [Act.put, List.setIfInBounds_toArray, List.set_cons_zero, List.set_cons_succ]
  refine takeD (i := 22) (v := .pointer (some ⟨s5, 0, none⟩)) 115 rfl rfl (by kernel_rfl) (by kernel_rfl) (by kernel_rfl) (fun _ _ _ h => h) (.inl ⟨by rfl, fun W hW => exec_fieldO 70 _ 0 s5 0 0 rfl rfl (fun w => by kernel_rfl)⟩) (b13) ?_
  try simp only [Act.put, List.setIfInBounds_toArray, List.set_cons_zero, List.set_cons_succ]
  refine takeD (i := 23) (v := .agg (p.src.vals).toArray) 116 rfl rfl (by kernel_rfl) (by kernel_rfl) (by kernel_rfl) (fun _ _ _ h => h) (.inl ⟨by rfl, fun W hW => exec_loadA 35 4 aggI sizI _ rfl s5 0 rfl (p.src.vals) rfl ((YP.out W hW).1)⟩) (b13) ?_
  try simp only [Act.put, List.setIfInBounds_toArray, List.set_cons_zero, List.set_cons_succ]
  refine takeD (i := 24) (v := .bool false) 117 rfl rfl (by kernel_rfl) (by kernel_rfl) (by kernel_rfl) (fun _ _ _ h => h) (.inl ⟨by rfl, fun W hW => exec_neIp _ _ _ p.src rfl rfl rfl⟩) (b13) ?_
  try simp only [Act.put, List.setIfInBounds_toArray, List.set_cons_zero, List.set_cons_succ]
  refine takeD (i := 25) (v := .bool false) 118 rfl rfl (by kernel_rfl) (by kernel_rfl) (by kernel_rfl) (fun _ _ _ h => h) (.inl ⟨by rfl, fun W hW => exec_pick _ _ _ false _ rfl rfl rfl⟩) (b13) ?_
  try simp only [Act.put, List.setIfInBounds_toArray, List.set_cons_zero, List.set_cons_succ]
  refine takeD (i := 26) (v := .bool false) 119 rfl rfl (by kernel_rfl) (by kernel_rfl) (by kernel_rfl) (fun _ _ _ h => h) (.inl ⟨by rfl, fun W hW => exec_move _ _ rfl rfl⟩) (b13) ?_
  try simp only [Act.put, List.setIfInBounds_toArray, List.set_cons_zero, List.set_cons_succ]
  refine takeD (i := 27) (v := .pointer (some ⟨s15, 4, none⟩)) 120 rfl rfl (by kernel_rfl) (by kernel_rfl) (by kernel_rfl) (fun _ _ _ h => h) (.inl ⟨by rfl, fun W hW => exec_fieldO 38 _ 1 s15 0 4 rfl rfl (fun w => by kernel_rfl)⟩) (b13) ?_
  try simp only [Act.put, List.setIfInBounds_toArray, List.set_cons_zero, List.set_cons_succ]
  refine takeD (i := 28) (v := .agg (p.dst.vals).toArray) 121 rfl rfl (by kernel_rfl) (by kernel_rfl) (by kernel_rfl) (fun _ _ _ h => h) (.inl ⟨by rfl, fun W hW => exec_loadA 35 4 aggI sizI _ rfl s15 4 rfl (p.dst.vals) rfl ((YQ.out W hW).2.1)⟩) (b13) ?_
  try simp only [Act.put, List.setIfInBounds_toArray, List.set_cons_zero, List.set_cons_succ]
  refine takeD (i := 29) (v := .pointer (some ⟨s5, 4, none⟩)) 122 rfl rfl (by kernel_rfl) (by kernel_rfl) (by kernel_rfl) (fun _ _ _ h => h) (.inl ⟨by rfl, fun W hW => exec_fieldO 70 _ 1 s5 0 4 rfl rfl (fun w => by kernel_rfl)⟩) (b13) ?_
  try simp only [Act.put, List.setIfInBounds_toArray, List.set_cons_zero, List.set_cons_succ]
  refine takeD (i := 30) (v := .agg (p.dst.vals).toArray) 123 rfl rfl (by kernel_rfl) (by kernel_rfl) (by kernel_rfl) (fun _ _ _ h => h) (.inl ⟨by rfl, fun W hW => exec_loadA 35 4 aggI sizI _ rfl s5 4 rfl (p.dst.vals) rfl ((YP.out W hW).2.1)⟩) (b13) ?_
  try simp only [Act.put, List.setIfInBounds_toArray, List.set_cons_zero, List.set_cons_succ]
  refine takeD (i := 31) (v := .bool false) 124 rfl rfl (by kernel_rfl) (by kernel_rfl) (by kernel_rfl) (fun _ _ _ h => h) (.inl ⟨by rfl, fun W hW => exec_neIp _ _ _ p.dst rfl rfl rfl⟩) (b13) ?_
  try simp only [Act.put, List.setIfInBounds_toArray, List.set_cons_zero, List.set_cons_succ]
  refine takeD (i := 32) (v := .bool false) 125 rfl rfl (by kernel_rfl) (by kernel_rfl) (by kernel_rfl) (fun _ _ _ h => h) (.inl ⟨by rfl, fun W hW => exec_pick _ _ _ false _ rfl rfl rfl⟩) (b13) ?_
  try simp only [Act.put, List.setIfInBounds_toArray, List.set_cons_zero, List.set_cons_succ]
  refine takeD (i := 33) (v := .bool false) 126 rfl rfl (by kernel_rfl) (by kernel_rfl) (by kernel_rfl) (fun _ _ _ h => h) (.inl ⟨by rfl, fun W hW => exec_move _ _ rfl rfl⟩) (b13) ?_
  try simp only [Act.put, List.setIfInBounds_toArray, List.set_cons_zero, List.set_cons_succ]
  refine takeD (i := 34) (v := .pointer (some ⟨s15, 8, none⟩)) 127 rfl rfl (by kernel_rfl) (by kernel_rfl) (by kernel_rfl) (fun _ _ _ h => h) (.inl ⟨by rfl, fun W hW => exec_fieldO 38 _ 2 s15 0 8 rfl rfl (fun w => by kernel_rfl)⟩) (b13) ?_
  try simp only [Act.put, List.setIfInBounds_toArray, List.set_cons_zero, List.set_cons_succ]
  refine takeD (i := 35) (v := .int .i64 p.proto) 128 rfl rfl (by kernel_rfl) (by kernel_rfl) (by kernel_rfl) (fun _ _ _ h => h) (.inl ⟨by rfl, fun W hW => exec_load1 3 one1 _ rfl s15 8 rfl (.int .i64 p.proto) ((YQ.out W hW).2.2)⟩) (b13) ?_
  try simp only [Act.put, List.setIfInBounds_toArray, List.set_cons_zero, List.set_cons_succ]
  refine takeD (i := 36) (v := .pointer (some ⟨s5, 8, none⟩)) 129 rfl rfl (by kernel_rfl) (by kernel_rfl) (by kernel_rfl) (fun _ _ _ h => h) (.inl ⟨by rfl, fun W hW => exec_fieldO 70 _ 2 s5 0 8 rfl rfl (fun w => by kernel_rfl)⟩) (b13) ?_
  try simp only [Act.put, List.setIfInBounds_toArray, List.set_cons_zero, List.set_cons_succ]
  refine takeD (i := 37) (v := .int .i64 p.proto) 130 rfl rfl (by kernel_rfl) (by kernel_rfl) (by kernel_rfl) (fun _ _ _ h => h) (.inl ⟨by rfl, fun W hW => exec_load1 3 one1 _ rfl s5 8 rfl (.int .i64 p.proto) ((YP.out W hW).2.2)⟩) (b13) ?_
  try simp only [Act.put, List.setIfInBounds_toArray, List.set_cons_zero, List.set_cons_succ]
  refine takeD (i := 38) (v := .bool false) 131 rfl rfl (by kernel_rfl) (by kernel_rfl) (by kernel_rfl) (fun _ _ _ h => h) (.inl ⟨by rfl, fun W hW => exec_neInt _ _ _ p.proto rfl rfl rfl⟩) (b13) ?_
  try simp only [Act.put, List.setIfInBounds_toArray, List.set_cons_zero, List.set_cons_succ]
  refine takeD (i := 39) (v := .bool false) 132 rfl rfl (by kernel_rfl) (by kernel_rfl) (by kernel_rfl) (fun _ _ _ h => h) (.inl ⟨by rfl, fun W hW => exec_pick _ _ _ false _ rfl rfl rfl⟩) (b13) ?_
  try simp only [Act.put, List.setIfInBounds_toArray, List.set_cons_zero, List.set_cons_succ]
  refine wpAnyH_done (by kernel_rfl) ?_ _
  have B13 := hide (later B12.out b13)
  have y8 := (YP.out w13 b13).2.2
  have hq := (UB.out w13 b13).1.1
  rw [HY.out, HQQ.out] at hq
  obtain ⟨pr, hpr⟩ : ∃ pr, pr = p.proto := ⟨_, rfl⟩
  rw [← hpr] at hq y8
  have CQ := hide hq
  clear hq hpr YP YQ Y5 UB i13 b13
  by_cases e6 : pr = 6
  · subst e6
    have y9 : w13.cell? ⟨s15, 9, none⟩ = some (.int .i64 sp) := CQ.out 9 _ rfl
    have y10 : w13.cell? ⟨s15, 10, none⟩ = some (.int .i64 dp) := CQ.out 10 _ rfl
    have y11 : w13.cell? ⟨s15, 11, none⟩ = some (.int .u32 n) := CQ.out 11 _ rfl
    go_wp2
    go_ret
    exact ⟨rfl, B13.out⟩
  have z6 : (pr == 6) = false := by simpa using e6
  by_cases e17 : pr = 17
  · subst e17
    have y9 : w13.cell? ⟨s15, 9, none⟩ = some (.int .i64 sp) := CQ.out 9 _ rfl
    have y10 : w13.cell? ⟨s15, 10, none⟩ = some (.int .i64 dp) := CQ.out 10 _ rfl
    have y11 : w13.cell? ⟨s15, 11, none⟩ = some (.int .u32 0) := CQ.out 11 _ rfl
    go_wp2
    go_ret
    exact ⟨rfl, B13.out⟩
  have z17 : (pr == 17) = false := by simpa using e17
  by_cases e1 : pr = 1
  · subst e1
    have y9 : w13.cell? ⟨s15, 9, none⟩ = some (.int .i64 (n / 65536)) := CQ.out 9 _ rfl
    have y10 : w13.cell? ⟨s15, 10, none⟩ = some (.int .i64 0) := CQ.out 10 _ rfl
    have y11 : w13.cell? ⟨s15, 11, none⟩ = some (.int .u32 0) := CQ.out 11 _ rfl
    go_wp2
    go_ret
    exact ⟨rfl, B13.out⟩
  have z1 : (pr == 1) = false := by simpa using e1
  rw [if_neg (by omega), if_neg e1, if_neg (by omega), if_neg e6] at CQ
  have y9 : w13.cell? ⟨s15, 9, none⟩ = some (.int .i64 0) := CQ.out 9 _ rfl
  have y10 : w13.cell? ⟨s15, 10, none⟩ = some (.int .i64 0) := CQ.out 10 _ rfl
  have y11 : w13.cell? ⟨s15, 11, none⟩ = some (.int .u32 0) := CQ.out 11 _ rfl
  go_wp2
  go_ret
  exact ⟨rfl, B13.out⟩
end Go.Proofs.Ytlhkdjockodneaa
