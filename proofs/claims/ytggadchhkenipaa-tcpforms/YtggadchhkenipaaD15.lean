
/-
  Package tcp: Reset; the document's.
-/
import Derived.Test.YtggadchhkenipaaD14
namespace Go.Proofs.Ytggadchhkenipaa
open Go.RowKit Go.Shelf

/-- what answers a segment for which there is nobody -/
def rsS (s : Sg) : Sg := if hasB s.flg 4 = true then zSg else if hasB s.flg 16 = true then ⟨s.dst, s.src, s.ack, 0, 4, 0, 0, false, [], []⟩ else ⟨s.dst, s.src, 0, (s.seq + s.size) % 4294967296, 20, 0, 0, false, [], []⟩
def rsB (s : Sg) : Bool := !hasB s.flg 4
section
variable {o : Oper} {w : World} {ev : Operand → Value}
theorem exec_bldR (x0 x1 : Operand) (a b : Int) (ho : o.op = .build 26 #[(0, x0), (1, x1), (4, .const (.int .i64 4))]) (h0 : ev x0 = .int .i64 a) (h1 : ev x1 = .int .i64 b) (hc : ∀ v, ev (.const v) = v) :
    (execOp ev o).run Try.prog w = .ok (.value (.agg (Sg.cells ⟨a, b, 0, 0, 4, 0, 0, false, [], []⟩ (.slice none 0 0) (.slice none 0 0)).toArray)) w := by
  unfold execOp
  rw [ho]
  simp only [List.map_toArray, List.map_cons, List.map_nil, h0, h1, hc]
  kernel_rfl
theorem exec_cv32 (x : Operand) (n : Int) (ho : o.op = .convert 3 22 x) (hx : ev x = .int .i64 n) : (execOp ev o).run Try.prog w = .ok (.value (.int .u32 (n % 4294967296))) w := by
  unfold execOp
  simp [ho, hx, go_sem, IntKind.wrap_u32]
theorem exec_cv64 (x : Operand) (n : Int) (ho : o.op = .convert 22 3 x) (hx : ev x = .int .u32 n) (h0 : 0 ≤ n) (h1 : n < 4294967296) : (execOp ev o).run Try.prog w = .ok (.value (.int .i64 n)) w := by
  have e : IntKind.i64.wrap n = n := wrapI _ (by omega) (by omega)
  unfold execOp
  simp [ho, hx, go_sem, e]
theorem exec_addW (x y : Operand) (t : TypeId) (a b : Int) (ho : o.op = .binOp .add 22 x y t) (hx : ev x = .int .u32 a) (hy : ev y = .int .u32 b) : (execOp ev o).run Try.prog w = .ok (.value (.int .u32 ((a + b) % 4294967296))) w := by
  unfold execOp
  simp [ho, hx, hy, go_sem, IntKind.wrap_u32]
theorem exec_remW (x : Operand) (t : TypeId) (a : Int) (ho : o.op = .binOp .rem 3 x (.const (.int .i64 4294967296)) t) (hc : ∀ v, ev (.const v) = v) (hx : ev x = .int .i64 a) (h0 : 0 ≤ a) : (execOp ev o).run Try.prog w = .ok (.value (.int .i64 (a % 4294967296))) w := by
  have e : a.tmod 4294967296 = a % 4294967296 := Int.tmod_eq_emod_of_nonneg h0
  unfold execOp
  simp [ho, hx, hc, go_sem, e]
end
theorem s1U32 (w : World) : (Go.sizeOf 22).run Try.prog w = .ok 1 w := by kernel_rfl
theorem or_16 : bits .or .i64 4 16 = 20 := by decide +kernel
set_option maxRecDepth 100000 in
set_option maxHeartbeats 8000000 in
theorem Reset_any (s : Sg) (ok : s.Ok) (gv : Value) (da : Option Addr) (dc : Nat) (w : World) (hl : s.dat.length ≤ 1125899906842624) : Calls Try.prog 23 #[.agg (s.cells gv (.slice da s.dat.length dc)).toArray] w fun e w' => e = .returned (.tuple #[.agg ((rsS s).cells (.slice none 0 0) (.slice none 0 0)).toArray, .bool (rsB s)]) ∧ Below w.heap.size w w' := by
  obtain ⟨X, hX⟩ : ∃ X, X = s.cells gv (.slice da s.dat.length dc) := ⟨_, rfl⟩
  have H4 : Hid (∀ W, Calls Try.prog 26 #[.agg X.toArray, .int .i64 4] W fun e w' => e = .returned (.bool (hasB s.flg 4)) ∧ Below W.heap.size W w') := fun W => by rw [hX]; exact has_any s gv _ 2 (by decide) W
  have H16 : Hid (∀ W, Calls Try.prog 26 #[.agg X.toArray, .int .i64 16] W fun e w' => e = .returned (.bool (hasB s.flg 16)) ∧ Below W.heap.size W w') := fun W => by rw [hX]; exact has_any s gv _ 4 (by decide) W
  have HZ : Hid (∀ W, Calls Try.prog 16 #[.agg X.toArray] W fun e w' => e = .returned (.int .i64 s.size) ∧ Below W.heap.size W w') := fun W => by rw [hX]; exact Size_any s gv da dc W hl
  have LX : Hid (X.length = 10) := by rw [hX]; exact rfl
  obtain ⟨w1, b, hs, hw, c1, f1, b1, l1⟩ := boxS w s gv (.slice da s.dat.length dc)
  obtain ⟨ZC, hZC⟩ : ∃ ZC, ZC = zSg.cells (.slice none 0 0) (.slice none 0 0) := ⟨_, rfl⟩
  have LZC : Hid (ZC.length = 10) := by rw [hZC]; exact rfl
  have OZC : Hid (∀ u ∈ ZC, u.oneCell' = true) := by rw [hZC]; exact sg_one _ _ _ rfl rfl
  have BLZ : Hid (∀ (o : Oper) (ev : Operand → Value) (W : World), o.op = .build 26 #[] → (execOp ev o).run Try.prog W = .ok (.value (.agg ZC.toArray)) W) := fun o ev W ho => by rw [hZC]; exact exec_bldZ ho
  have HZC := hide hZC
  obtain ⟨s2, hs2⟩ : ∃ s2, s2 = w1.heap.size := ⟨_, rfl⟩
  obtain ⟨w2, hw2⟩ : ∃ w2, w2 = w1.alloc (.cells ZC.toArray 26) := ⟨_, rfl⟩
  have b2 : Below w1.heap.size w1 w2 := by rw [hw2]; exact later_alloc _ _
  have c2 : CellsAt w2 s2 0 ZC := by rw [hw2, hs2]; exact CellsAt.new w1 _ _
  have f2 : ∀ y, w2.frozen? ⟨s2, y, none⟩ = false := fun y => by rw [hw2, hs2]; exact frozen_new w1 _ _ _
  have l2 : s2 < w2.heap.size := c2.lt (by rw [LZC.out]; decide)
  have l12 : b < w2.heap.size := Nat.lt_of_lt_of_le l1 b2.size
  have C1 : Hid (CellsAt w2 b 0 X) := by rw [hX]; exact c1.later l1 b2
  have KC : Hid (CellsAt w2 b 0 (s.cells gv (.slice da s.dat.length dc))) := c1.later l1 b2
  have C2 := hide c2
  have F2 := hide f2
  have B2 := hide (later b1 b2)
  have S2 : Hid (w.heap.size ≤ s2) := by unfold Hid; rw [hs2]; exact b1.size
  have nsb : Hid (b ≠ s2) := by unfold Hid; rw [hs2]; exact Nat.ne_of_lt l1
  rw [show (Value.agg (s.cells gv (.slice da s.dat.length dc)).toArray) = .agg #[.int .i64 s.src, .int .i64 s.dst, .int .u32 s.seq, .int .u32 s.ack, .int .i64 s.flg, .int .i64 s.wnd, .int .i64 s.mss, .bool s.sak, gv, .slice da s.dat.length dc] from rfl]
  obtain ⟨h4, hh4⟩ : ∃ h4, h4 = hasB s.flg 4 := ⟨_, rfl⟩
  obtain ⟨h16, hh16⟩ : ∃ h16, h16 = hasB s.flg 16 := ⟨_, rfl⟩
  obtain ⟨R, hR⟩ : ∃ R, R = rsS s := ⟨_, rfl⟩
  obtain ⟨rb, hrb⟩ : ∃ rb, rb = rsB s := ⟨_, rfl⟩
  have HR : Hid (R = if h4 = true then zSg else if h16 = true then ⟨s.dst, s.src, s.ack, 0, 4, 0, 0, false, [], []⟩ else ⟨s.dst, s.src, 0, (s.seq + s.size) % 4294967296, 20, 0, 0, false, [], []⟩) := by rw [hR, hh4, hh16]; exact rfl
  have HRB : Hid (rb = !h4) := by rw [hrb, hh4]; exact rfl
  rw [← hR, ← hrb]
  rw [← hh4] at H4
  rw [← hh16] at H16
  obtain ⟨sq0, sq1⟩ := ok.seq
  have sz0 : 0 ≤ s.size ∧ s.size ≤ 1125899906842626 := by unfold Sg.size; split <;> split <;> omega
  obtain ⟨sz0, sz1⟩ := sz0
  have hs' := hs.symm
  have hw' := hw.symm
  have hs2' := hs2.symm
  have hw2' : w1.alloc (.cells #[.int .i64 0, .int .i64 0, .int .u32 0, .int .u32 0, .int .i64 0, .int .i64 0, .int .i64 0, .bool false, .slice none 0 0, .slice none 0 0] 26) = w2 := by rw [hw2, hZC]; rfl
  clear hs hw c1 f1 b1 hX hh4 hh16 hR hrb hs2 hw2 b2 c2 f2 hZC ok
  go_enter Try.func23, Try.ntmps23
  go_upto_region 1 with fail
  clear hs' hw' hs2' hw2'
  have G4 := hide (H4.out w2)
  clear H4
  go_wp2_with (refine wpList_loadA rfl 26 10 aggSg sizSg _ rfl b 0 rfl X LX.out C1.out ?_)
  refine G4.out.mono ?_
  rintro _ w3 ⟨rfl, b3⟩
  have B3 := hide b3
  have C13 := hide (C1.out.later l12 b3)
  have KC3 := hide (KC.out.later l12 b3)
  have C23 := hide (C2.out.later l2 b3)
  have F23 : Hid (∀ y, w3.frozen? ⟨s2, y, none⟩ = false) := fun y => (b3.frozen (p := ⟨s2, y, none⟩) l2).trans (F2.out y)
  have l13 : b < w3.heap.size := Nat.lt_of_lt_of_le l12 b3.size
  have l23 : s2 < w3.heap.size := Nat.lt_of_lt_of_le l2 b3.size
  have BW3 := hide (later B2.out b3)
  clear b3 G4
  cases h4 with
  | true =>
    have eR : R = zSg := by rw [HR.out, if_pos rfl]
    have eb : rb = false := HRB.out
    obtain ⟨wz, hwz⟩ : ∃ wz, wz = w3.setCells s2 0 ZC := ⟨_, rfl⟩
    have Z3 : Hid (CellsAt wz s2 0 ZC) := by rw [hwz]; exact C23.out.stored rfl
    have Z4 : Hid (Below w.heap.size w wz) := by rw [hwz]; exact BW3.out.trans ((But.cells s2 ZC 0 w3).below BW3.out.size (fun g hg e => by have e : g = s2 := e; have := S2.out; omega))
    have hwz' := hwz.symm
    subst eR eb
    clear hwz
    go_wp2_with (first | refine wpList_val rfl (BLZ.out _ _ _ rfl) ?_ | (refine wpList_storeA rfl 26 10 sizSg _ _ rfl s2 0 rfl ZC ZC rfl LZC.out LZC.out C23.out F23.out OZC.out ?_; intro _; rw [hwz']))
    refine bodyPost_ret (v := .tuple #[.agg ZC.toArray, .bool false]) (results_2 rfl _ _ s2 _ _ rfl rfl (run_loadVarA 26 10 aggSg sizSg s2 0 _ LZC.out Z3.out)) rfl ?_
    exact ⟨by rw [HZC.out], Z4.out⟩
  | false =>
  have eb : rb = true := HRB.out
  subst eb
  obtain ⟨T, hT⟩ : ∃ T : Sg, T = ⟨s.dst, s.src, 0, 0, 4, 0, 0, false, [], []⟩ := ⟨_, rfl⟩
  obtain ⟨K, hK⟩ : ∃ K, K = T.cells (.slice none 0 0) (.slice none 0 0) := ⟨_, rfl⟩
  have LK : Hid (K.length = 10) := by rw [hK]; exact rfl
  have OK : Hid (∀ u ∈ K, u.oneCell' = true) := by rw [hK]; exact sg_one _ _ _ rfl rfl
  have BLK : Hid (∀ (o : Oper) (ev : Operand → Value) (x0 x1 : Operand) (W : World), o.op = .build 26 #[(0, x0), (1, x1), (4, .const (.int .i64 4))] → ev x0 = .int .i64 s.dst → ev x1 = .int .i64 s.src → (∀ v, ev (.const v) = v) → (execOp ev o).run Try.prog W = .ok (.value (.agg K.toArray)) W) := fun o ev x0 x1 W ho h0 h1 hc => by rw [hK, hT]; exact exec_bldR x0 x1 _ _ ho h0 h1 hc
  have HK := hide hK
  have HT := hide hT
  obtain ⟨s4, hs4⟩ : ∃ s4, s4 = w3.heap.size := ⟨_, rfl⟩
  obtain ⟨w4, hw4⟩ : ∃ w4, w4 = w3.alloc (.cells ZC.toArray 26) := ⟨_, rfl⟩
  have b4 : Below w3.heap.size w3 w4 := by rw [hw4]; exact later_alloc _ _
  have c4 : CellsAt w4 s4 0 ZC := by rw [hw4, hs4]; exact CellsAt.new w3 _ _
  have f4 : ∀ y, w4.frozen? ⟨s4, y, none⟩ = false := fun y => by rw [hw4, hs4]; exact frozen_new w3 _ _ _
  obtain ⟨w5, hw5⟩ : ∃ w5, w5 = w4.setCells s4 0 K := ⟨_, rfl⟩
  have n5 : But (Only s4) w4 w5 := by rw [hw5]; exact But.cells s4 K 0 w4
  have b5 : Below w3.heap.size w3 w5 := b4.trans (n5.below b4.size (fun g hg e => by have e : g = s4 := e; omega))
  have C45 : Hid (CellsAt w5 s4 0 K) := by rw [hw5]; exact c4.stored (by rw [LK.out, LZC.out])
  have F45 : Hid (∀ y, w5.frozen? ⟨s4, y, none⟩ = false) := fun y => by rw [hw5, World.frozen?_setCells]; exact f4 y
  have l45 : s4 < w5.heap.size := C45.out.lt (by rw [LK.out]; decide)
  have C15 := hide (C13.out.later l13 b5)
  have KC5 := hide (KC3.out.later l13 b5)
  have C25 := hide (C23.out.later l23 b5)
  have F25 : Hid (∀ y, w5.frozen? ⟨s2, y, none⟩ = false) := fun y => (b5.frozen (p := ⟨s2, y, none⟩) l23).trans (F23.out y)
  have B5 := hide (later BW3.out b5)
  have l15 : b < w5.heap.size := Nat.lt_of_lt_of_le l13 b5.size
  have l25 : s2 < w5.heap.size := Nat.lt_of_lt_of_le l23 b5.size
  have S4 : Hid (w.heap.size ≤ s4 ∧ s2 < s4 ∧ b < s4) := by unfold Hid; rw [hs4]; exact ⟨BW3.out.size, l23, l13⟩
  have k0 : w3.cell? ⟨b, 0, none⟩ = some (.int .i64 s.src) := KC3.out 0 _ rfl
  have k1 : w3.cell? ⟨b, 1, none⟩ = some (.int .i64 s.dst) := KC3.out 1 _ rfl
  have C4 := hide c4
  have F4 := hide f4
  have hs4' := hs4.symm
  have hw4' : w3.alloc (.cells #[.int .i64 0, .int .i64 0, .int .u32 0, .int .u32 0, .int .i64 0, .int .i64 0, .int .i64 0, .bool false, .slice none 0 0, .slice none 0 0] 26) = w4 := by rw [hw4, HZC.out]; rfl
  have hw5' := hw5.symm
  have G16 := hide (H16.out w5)
  -- the answer is stored, and told
  have FIN : Hid (∀ (W : World) (K2 : List Value) (R2 : Sg), Below w.heap.size w W → CellsAt W s2 0 ZC → (∀ y, W.frozen? ⟨s2, y, none⟩ = false) → K2 = R2.cells (.slice none 0 0) (.slice none 0 0) → CellsAt (W.setCells s2 0 K2) s2 0 K2 ∧ Below w.heap.size w (W.setCells s2 0 K2) ∧ K2.length = 10 ∧ ∀ u ∈ K2, u.oneCell' = true) := fun W K2 R2 hb hc hf hk => by
    have lk : K2.length = 10 := by rw [hk]; rfl
    exact ⟨hc.stored (by rw [lk, LZC.out]), hb.trans ((But.cells s2 K2 0 W).below hb.size (fun g hg e => by have e : g = s2 := e; have := S2.out; omega)), lk, by rw [hk]; exact sg_one _ _ _ rfl rfl⟩
  clear hK hT hs4 hw4 b4 c4 f4 hw5 n5 b5 H16
  go_upto_region 4 with (first | refine wpList_val rfl (BLK.out _ _ _ _ _ rfl rfl rfl (fun _ => rfl)) ?_ | (refine wpList_storeA rfl 26 10 sizSg _ _ rfl s4 0 rfl K ZC rfl LK.out LZC.out C4.out F4.out OK.out ?_; intro _; rw [hw5']))
  clear hs4' hw4' hw5' C4 F4 k0 k1
  go_wp2_with (refine wpList_loadA rfl 26 10 aggSg sizSg _ rfl b 0 rfl X LX.out C15.out ?_)
  refine G16.out.mono ?_
  rintro _ w6 ⟨rfl, b6⟩
  have B6 := hide (later B5.out b6)
  have C46 := hide (C45.out.later l45 b6)
  have F46 : Hid (∀ y, w6.frozen? ⟨s4, y, none⟩ = false) := fun y => (b6.frozen (p := ⟨s4, y, none⟩) l45).trans (F45.out y)
  have C16 := hide (C15.out.later l15 b6)
  have KC6 := hide (KC5.out.later l15 b6)
  have C26 := hide (C25.out.later l25 b6)
  have F26 : Hid (∀ y, w6.frozen? ⟨s2, y, none⟩ = false) := fun y => (b6.frozen (p := ⟨s2, y, none⟩) l25).trans (F25.out y)
  have l46 : s4 < w6.heap.size := Nat.lt_of_lt_of_le l45 b6.size
  have l16 : b < w6.heap.size := Nat.lt_of_lt_of_le l15 b6.size
  have l26 : s2 < w6.heap.size := Nat.lt_of_lt_of_le l25 b6.size
  clear b6 G16
  cases h16 with
  | true =>
    have eR : R = ⟨s.dst, s.src, s.ack, 0, 4, 0, 0, false, [], []⟩ := by rw [HR.out, if_neg (by decide), if_pos rfl]
    have k3 : w6.cell? ⟨b, 3, none⟩ = some (.int .u32 s.ack) := KC6.out 3 _ rfl
    have m2 : w6.cell? ⟨s4, 2, none⟩ = some (.int .u32 0) := by have h := C46.out; rw [HK.out, HT.out] at h; exact h 2 _ rfl
    have m2f := F46.out 2
    obtain ⟨w7, hw7⟩ : ∃ w7, w7 = w6.setCell ⟨s4, 2, none⟩ (.int .u32 s.ack) := ⟨_, rfl⟩
    have n7 : But (Only s4) w6 w7 := by rw [hw7]; exact (But.refl (Only s4) w6).setCell (p := ⟨s4, 2, none⟩) (.inr rfl) _
    obtain ⟨K2, hK2⟩ : ∃ K2, K2 = R.cells (.slice none 0 0) (.slice none 0 0) := ⟨_, rfl⟩
    have C47 : Hid (CellsAt w7 s4 0 K2) := by
      have h := C46.out
      rw [HK.out, HT.out] at h
      rw [hK2, eR, hw7]
      exact h.set 2 _
    have b7 : Below w.heap.size w w7 := B6.out.trans (n7.below B6.out.size (fun g hg e => by have e : g = s4 := e; have := S4.out; omega))
    have ns : ¬ Only s4 s2 := fun e => by have e : s2 = s4 := e; have := S4.out; omega
    have C27 := hide (C26.out.but l26 n7 ns)
    have F27 : Hid (∀ y, w7.frozen? ⟨s2, y, none⟩ = false) := fun y => (n7.frozen (p := ⟨s2, y, none⟩) l26 ns).trans (F26.out y)
    obtain ⟨z1, z2, z3, z4⟩ := FIN.out w7 K2 R b7 C27.out F27.out hK2
    obtain ⟨w8, hw8⟩ : ∃ w8, w8 = w7.setCells s2 0 K2 := ⟨_, rfl⟩
    rw [← hw8] at z1 z2
    have Z1 := hide z1
    have Z2 := hide z2
    have Z3 := hide z3
    have Z4 := hide z4
    have HK2 := hide hK2
    have hw7' := hw7.symm
    have hw8' := hw8.symm
    clear eR hw7 n7 hK2 b7 ns z1 z2 z3 z4 hw8
    go_wp2_with (first | refine wpList_loadA rfl 26 10 aggSg sizSg _ rfl s4 0 rfl K2 Z3.out C47.out ?_ | (refine wpList_storeA rfl 26 10 sizSg _ _ rfl s2 0 rfl K2 ZC rfl Z3.out LZC.out C27.out F27.out Z4.out ?_; intro _; rw [hw8']))
    refine bodyPost_ret (v := .tuple #[.agg K2.toArray, .bool true]) (results_2 rfl _ _ s2 _ _ rfl rfl (run_loadVarA 26 10 aggSg sizSg s2 0 _ Z3.out Z1.out)) rfl ?_
    exact ⟨by rw [HK2.out], Z2.out⟩
  | false =>
    have eR : R = ⟨s.dst, s.src, 0, (s.seq + s.size) % 4294967296, 20, 0, 0, false, [], []⟩ := by rw [HR.out, if_neg (by decide), if_neg (by decide)]
    have GZ := hide (HZ.out)
    have SW : Hid (∀ W, Below w6.heap.size w6 W → CellsAt W b 0 X ∧ W.cell? ⟨b, 2, none⟩ = some (.int .u32 s.seq)) := fun W hW => ⟨C16.out.later l16 hW, (KC6.out.later l16 hW) 2 _ rfl⟩
    have RW : Hid (∀ W, Below w6.heap.size w6 W → CellsAt W s4 0 K ∧ (∀ y, W.frozen? ⟨s4, y, none⟩ = false) ∧ CellsAt W s2 0 ZC ∧ ∀ y, W.frozen? ⟨s2, y, none⟩ = false) := fun W hW => ⟨C46.out.later l46 hW, fun y => (hW.frozen (p := ⟨s4, y, none⟩) l46).trans (F46.out y), C26.out.later l26 hW, fun y => (hW.frozen (p := ⟨s2, y, none⟩) l26).trans (F26.out y)⟩
    clear HZ
    go_upto_region 6 with fail
    refine regionJ (fun i => decide (i ≤ 6)) (fun W => CellsAt W b 0 X ∧ W.cell? ⟨b, 2, none⟩ = some (.int .u32 s.seq)) (by kernel_rfl) ?_
    refine takeJ (i := 0) (v := .pointer (some ⟨b, 2, none⟩)) 18 rfl rfl (by kernel_rfl) (by kernel_rfl) (by kernel_rfl) (by kernel_rfl) (fun _ _ _ h => h) (.inl ⟨by rfl, fun W hW => exec_fieldO 26 _ 2 b 0 2 rfl rfl (fun w => by kernel_rfl)⟩) ((SW.out _ (later_drew _))) ?_
    try simp only [Act.put, List.setIfInBounds_toArray, List.set_cons_zero, List.set_cons_succ]
    refine takeJ (i := 1) (v := .int .u32 s.seq) 19 rfl rfl (by kernel_rfl) (by kernel_rfl) (by kernel_rfl) (by kernel_rfl) (fun _ _ _ h => h) (.inl ⟨by rfl, fun W hW => exec_load1 22 one32 _ rfl b 2 rfl (.int .u32 s.seq) (hW.2)⟩) ((SW.out _ (later_drew _))) ?_
    try simp only [Act.put, List.setIfInBounds_toArray, List.set_cons_zero, List.set_cons_succ]
    refine takeJ (i := 2) (v := .agg X.toArray) 20 rfl rfl (by kernel_rfl) (by kernel_rfl) (by kernel_rfl) (by kernel_rfl) (fun _ _ _ h => h) (.inl ⟨by rfl, fun W hW => exec_loadA 26 10 aggSg sizSg _ rfl b 0 rfl X LX.out hW.1⟩) ((SW.out _ (later_drew _))) ?_
    try simp only [Act.put, List.setIfInBounds_toArray, List.set_cons_zero, List.set_cons_succ]
    refine callJ 3 21 (by kernel_rfl) rfl rfl (by rfl) 16 #[.agg X.toArray] (exec_callF _ _ _ _ rfl (map1 rfl) (enters_of Try.func16 (by kernel_rfl) rfl)) (fun v w9 => v = .int .i64 s.size ∧ Below w6.heap.size w6 w9) ((GZ.out _).mono (fun e w' h => ⟨_, h.1, rfl, later (later_drew _) h.2⟩)) ?_
    rintro v w7 ⟨rfl, b7⟩
    refine ⟨SW.out _ b7, ?_⟩
    simp only [Act.put, List.setIfInBounds_toArray, List.set_cons_zero, List.set_cons_succ]
    refine takeJ (i := 4) (v := .int .u32 (s.size % 4294967296)) 22 rfl rfl (by kernel_rfl) (by kernel_rfl) (by kernel_rfl) (by kernel_rfl) (fun _ _ _ h => h) (.inl ⟨by rfl, fun W hW => exec_cv32 _ _ rfl rfl⟩) ((SW.out _ b7)) ?_
    try simp only [Act.put, List.setIfInBounds_toArray, List.set_cons_zero, List.set_cons_succ]
    refine takeJ (i := 5) (v := .int .u32 ((s.seq + s.size % 4294967296) % 4294967296)) 23 rfl rfl (by kernel_rfl) (by kernel_rfl) (by kernel_rfl) (by kernel_rfl) (fun _ _ _ h => h) (.inl ⟨by rfl, fun W hW => exec_addW _ _ _ _ _ rfl rfl rfl⟩) ((SW.out _ b7)) ?_
    try simp only [Act.put, List.setIfInBounds_toArray, List.set_cons_zero, List.set_cons_succ]
    refine takeJ (i := 6) (v := .pointer (some ⟨s4, 3, none⟩)) 24 rfl rfl (by kernel_rfl) (by kernel_rfl) (by kernel_rfl) (by kernel_rfl) (fun _ _ _ h => h) (.inl ⟨by rfl, fun W hW => exec_fieldO 26 _ 3 s4 0 3 rfl rfl (fun w => by kernel_rfl)⟩) ((SW.out _ b7)) ?_
    try simp only [Act.put, List.setIfInBounds_toArray, List.set_cons_zero, List.set_cons_succ]
    obtain ⟨c47, f47, c27, f27⟩ := RW.out w7 b7
    obtain ⟨w8, hw8⟩ : ∃ w8, w8 = w7.setCell ⟨s4, 3, none⟩ (.int .u32 ((s.seq + s.size % 4294967296) % 4294967296)) := ⟨_, rfl⟩
    have n8 : But (Only s4) w7 w8 := by rw [hw8]; exact (But.refl (Only s4) w7).setCell (p := ⟨s4, 3, none⟩) (.inr rfl) _
    have m3 : w7.cell? ⟨s4, 3, none⟩ = some (.int .u32 0) := by have h := c47; rw [HK.out, HT.out] at h; exact h 3 _ rfl
    refine storeJ (w' := w8) 7 (by kernel_rfl) rfl rfl (by rfl) (by rw [hw8]; exact exec_store1 22 s1U32 _ _ rfl s4 3 rfl _ _ rfl m3 (f47 3) rfl) (by simp) ?_
    refine doneJ (by kernel_rfl) ?_ _
    have c48 : CellsAt w8 s4 0 (Sg.cells ⟨s.dst, s.src, 0, (s.seq + s.size) % 4294967296, 4, 0, 0, false, [], []⟩ (.slice none 0 0) (.slice none 0 0)) := by
      have h := c47.set 3 (.int .u32 ((s.seq + s.size % 4294967296) % 4294967296))
      rw [← hw8, HK.out, HT.out] at h
      rw [show (s.seq + s.size) % 4294967296 = (s.seq + s.size % 4294967296) % 4294967296 by omega]
      exact h
    have l47 : s4 < w7.heap.size := Nat.lt_of_lt_of_le l46 b7.size
    have l27 : s2 < w7.heap.size := Nat.lt_of_lt_of_le l26 b7.size
    have ns : ¬ Only s4 s2 := fun e => by have e : s2 = s4 := e; have := S4.out; omega
    have c28 := c27.but l27 n8 ns
    have f28 : ∀ y, w8.frozen? ⟨s2, y, none⟩ = false := fun y => (n8.frozen (p := ⟨s2, y, none⟩) l27 ns).trans (f27 y)
    have f48 : ∀ y, w8.frozen? ⟨s4, y, none⟩ = false := fun y => by rw [hw8, World.frozen?_setCell]; exact f47 y
    have b8 : Below w.heap.size w w8 := (later B6.out b7).trans (n8.below (later B6.out b7).size (fun g hg e => by have e : g = s4 := e; have := S4.out; omega))
    have l48 : s4 < w8.heap.size := Nat.lt_of_lt_of_le l47 n8.size
    have l28 : s2 < w8.heap.size := Nat.lt_of_lt_of_le l27 n8.size
    have m4 : w8.cell? ⟨s4, 4, none⟩ = some (.int .i64 4) := c48 4 _ rfl
    have m4f := f48 4
    obtain ⟨w9, hw9⟩ : ∃ w9, w9 = w8.setCell ⟨s4, 4, none⟩ (.int .i64 20) := ⟨_, rfl⟩
    have n9 : But (Only s4) w8 w9 := by rw [hw9]; exact (But.refl (Only s4) w8).setCell (p := ⟨s4, 4, none⟩) (.inr rfl) _
    obtain ⟨K2, hK2⟩ : ∃ K2, K2 = R.cells (.slice none 0 0) (.slice none 0 0) := ⟨_, rfl⟩
    have C49 : Hid (CellsAt w9 s4 0 K2) := by
      rw [hK2, eR, hw9]
      exact c48.set 4 _
    have b9 : Below w.heap.size w w9 := b8.trans (n9.below b8.size (fun g hg e => by have e : g = s4 := e; have := S4.out; omega))
    have C29 := hide (c28.but l28 n9 ns)
    have F29 : Hid (∀ y, w9.frozen? ⟨s2, y, none⟩ = false) := fun y => (n9.frozen (p := ⟨s2, y, none⟩) l28 ns).trans (f28 y)
    obtain ⟨z1, z2, z3, z4⟩ := FIN.out w9 K2 R b9 C29.out F29.out hK2
    obtain ⟨wa, hwa⟩ : ∃ wa, wa = w9.setCells s2 0 K2 := ⟨_, rfl⟩
    rw [← hwa] at z1 z2
    have Z1 := hide z1
    have Z2 := hide z2
    have Z3 := hide z3
    have Z4 := hide z4
    have HK2 := hide hK2
    have hw9' := hw9.symm
    have hwa' := hwa.symm
    have O16 := or_16
    clear eR hw9 n9 hK2 b9 ns z1 z2 z3 z4 hwa c48 c28 f28 f48 b8 l48 l28 n8 m3 hw8 c47 f47 c27 f27 l47 l27 b7
    go_wp2_with (first | refine wpList_loadA rfl 26 10 aggSg sizSg _ rfl s4 0 rfl K2 Z3.out C49.out ?_ | (refine wpList_storeA rfl 26 10 sizSg _ _ rfl s2 0 rfl K2 ZC rfl Z3.out LZC.out C29.out F29.out Z4.out ?_; intro _; rw [hwa']))
    refine bodyPost_ret (v := .tuple #[.agg K2.toArray, .bool true]) (results_2 rfl _ _ s2 _ _ rfl rfl (run_loadVarA 26 10 aggSg sizSg s2 0 _ Z3.out Z1.out)) rfl ?_
    exact ⟨by rw [HK2.out], Z2.out⟩
set_option maxRecDepth 100000 in
set_option maxHeartbeats 8000000 in
theorem rReset_any (s : Sg) (ok : s.Ok) (gv : Value) (da : Option Addr) (dc : Nat) (w : World) (hl : s.dat.length ≤ 1125899906842624) : Calls Try.prog 24 #[.agg (s.cells gv (.slice da s.dat.length dc)).toArray] w fun e w' => e = .returned (.tuple #[.agg ((rsS s).cells (.slice none 0 0) (.slice none 0 0)).toArray, .bool (rsB s)]) ∧ Below w.heap.size w w' := by
  obtain ⟨X, hX⟩ : ∃ X, X = s.cells gv (.slice da s.dat.length dc) := ⟨_, rfl⟩
  have H4 : Hid (∀ W, Calls Try.prog 25 #[.agg X.toArray, .int .i64 4] W fun e w' => e = .returned (.bool (hasB s.flg 4)) ∧ Below W.heap.size W w') := fun W => by rw [hX]; exact rHas_any s gv _ 4 (by decide) W
  have H16 : Hid (∀ W, Calls Try.prog 25 #[.agg X.toArray, .int .i64 16] W fun e w' => e = .returned (.bool (hasB s.flg 16)) ∧ Below W.heap.size W w') := fun W => by rw [hX]; exact rHas_any s gv _ 16 (by decide) W
  have HZ : Hid (∀ W, Calls Try.prog 17 #[.agg X.toArray] W fun e w' => e = .returned (.int .i64 s.size) ∧ Below W.heap.size W w') := fun W => by rw [hX]; exact rSize_any s gv da dc W hl
  have LX : Hid (X.length = 10) := by rw [hX]; exact rfl
  obtain ⟨w1, b, hs, hw, c1, f1, b1, l1⟩ := boxS w s gv (.slice da s.dat.length dc)
  obtain ⟨ZC, hZC⟩ : ∃ ZC, ZC = zSg.cells (.slice none 0 0) (.slice none 0 0) := ⟨_, rfl⟩
  have LZC : Hid (ZC.length = 10) := by rw [hZC]; exact rfl
  have OZC : Hid (∀ u ∈ ZC, u.oneCell' = true) := by rw [hZC]; exact sg_one _ _ _ rfl rfl
  have BLZ : Hid (∀ (o : Oper) (ev : Operand → Value) (W : World), o.op = .build 26 #[] → (execOp ev o).run Try.prog W = .ok (.value (.agg ZC.toArray)) W) := fun o ev W ho => by rw [hZC]; exact exec_bldZ ho
  have HZC := hide hZC
  obtain ⟨s2, hs2⟩ : ∃ s2, s2 = w1.heap.size := ⟨_, rfl⟩
  obtain ⟨w2, hw2⟩ : ∃ w2, w2 = w1.alloc (.cells ZC.toArray 26) := ⟨_, rfl⟩
  have b2 : Below w1.heap.size w1 w2 := by rw [hw2]; exact later_alloc _ _
  have c2 : CellsAt w2 s2 0 ZC := by rw [hw2, hs2]; exact CellsAt.new w1 _ _
  have f2 : ∀ y, w2.frozen? ⟨s2, y, none⟩ = false := fun y => by rw [hw2, hs2]; exact frozen_new w1 _ _ _
  have l2 : s2 < w2.heap.size := c2.lt (by rw [LZC.out]; decide)
  have l12 : b < w2.heap.size := Nat.lt_of_lt_of_le l1 b2.size
  have C1 : Hid (CellsAt w2 b 0 X) := by rw [hX]; exact c1.later l1 b2
  have KC : Hid (CellsAt w2 b 0 (s.cells gv (.slice da s.dat.length dc))) := c1.later l1 b2
  have C2 := hide c2
  have F2 := hide f2
  have B2 := hide (later b1 b2)
  have S2 : Hid (w.heap.size ≤ s2) := by unfold Hid; rw [hs2]; exact b1.size
  have nsb : Hid (b ≠ s2) := by unfold Hid; rw [hs2]; exact Nat.ne_of_lt l1
  rw [show (Value.agg (s.cells gv (.slice da s.dat.length dc)).toArray) = .agg #[.int .i64 s.src, .int .i64 s.dst, .int .u32 s.seq, .int .u32 s.ack, .int .i64 s.flg, .int .i64 s.wnd, .int .i64 s.mss, .bool s.sak, gv, .slice da s.dat.length dc] from rfl]
  obtain ⟨h4, hh4⟩ : ∃ h4, h4 = hasB s.flg 4 := ⟨_, rfl⟩
  obtain ⟨h16, hh16⟩ : ∃ h16, h16 = hasB s.flg 16 := ⟨_, rfl⟩
  obtain ⟨R, hR⟩ : ∃ R, R = rsS s := ⟨_, rfl⟩
  obtain ⟨rb, hrb⟩ : ∃ rb, rb = rsB s := ⟨_, rfl⟩
  have HR : Hid (R = if h4 = true then zSg else if h16 = true then ⟨s.dst, s.src, s.ack, 0, 4, 0, 0, false, [], []⟩ else ⟨s.dst, s.src, 0, (s.seq + s.size) % 4294967296, 20, 0, 0, false, [], []⟩) := by rw [hR, hh4, hh16]; exact rfl
  have HRB : Hid (rb = !h4) := by rw [hrb, hh4]; exact rfl
  rw [← hR, ← hrb]
  rw [← hh4] at H4
  rw [← hh16] at H16
  obtain ⟨sq0, sq1⟩ := ok.seq
  have sz0 : 0 ≤ s.size ∧ s.size ≤ 1125899906842626 := by unfold Sg.size; split <;> split <;> omega
  obtain ⟨sz0, sz1⟩ := sz0
  have hs' := hs.symm
  have hw' := hw.symm
  have hs2' := hs2.symm
  have hw2' : w1.alloc (.cells #[.int .i64 0, .int .i64 0, .int .u32 0, .int .u32 0, .int .i64 0, .int .i64 0, .int .i64 0, .bool false, .slice none 0 0, .slice none 0 0] 26) = w2 := by rw [hw2, hZC]; rfl
  clear hs hw c1 f1 b1 hX hh4 hh16 hR hrb hs2 hw2 b2 c2 f2 hZC ok
  go_enter Try.func24, Try.ntmps24
  go_upto_region 1 with fail
  clear hs' hw' hs2' hw2'
  have G4 := hide (H4.out w2)
  clear H4
  go_wp2_with (refine wpList_loadA rfl 26 10 aggSg sizSg _ rfl b 0 rfl X LX.out C1.out ?_)
  refine G4.out.mono ?_
  rintro _ w3 ⟨rfl, b3⟩
  have B3 := hide b3
  have C13 := hide (C1.out.later l12 b3)
  have KC3 := hide (KC.out.later l12 b3)
  have C23 := hide (C2.out.later l2 b3)
  have F23 : Hid (∀ y, w3.frozen? ⟨s2, y, none⟩ = false) := fun y => (b3.frozen (p := ⟨s2, y, none⟩) l2).trans (F2.out y)
  have l13 : b < w3.heap.size := Nat.lt_of_lt_of_le l12 b3.size
  have l23 : s2 < w3.heap.size := Nat.lt_of_lt_of_le l2 b3.size
  have BW3 := hide (later B2.out b3)
  clear b3 G4
  cases h4 with
  | true =>
    have eR : R = zSg := by rw [HR.out, if_pos rfl]
    have eb : rb = false := HRB.out
    obtain ⟨wz, hwz⟩ : ∃ wz, wz = w3.setCells s2 0 ZC := ⟨_, rfl⟩
    have Z3 : Hid (CellsAt wz s2 0 ZC) := by rw [hwz]; exact C23.out.stored rfl
    have Z4 : Hid (Below w.heap.size w wz) := by rw [hwz]; exact BW3.out.trans ((But.cells s2 ZC 0 w3).below BW3.out.size (fun g hg e => by have e : g = s2 := e; have := S2.out; omega))
    have hwz' := hwz.symm
    subst eR eb
    clear hwz
    go_wp2_with (first | refine wpList_val rfl (BLZ.out _ _ _ rfl) ?_ | (refine wpList_storeA rfl 26 10 sizSg _ _ rfl s2 0 rfl ZC ZC rfl LZC.out LZC.out C23.out F23.out OZC.out ?_; intro _; rw [hwz']))
    refine bodyPost_ret (v := .tuple #[.agg ZC.toArray, .bool false]) (results_2 rfl _ _ s2 _ _ rfl rfl (run_loadVarA 26 10 aggSg sizSg s2 0 _ LZC.out Z3.out)) rfl ?_
    exact ⟨by rw [HZC.out], Z4.out⟩
  | false =>
  have eb : rb = true := HRB.out
  subst eb
  obtain ⟨T, hT⟩ : ∃ T : Sg, T = ⟨s.dst, s.src, 0, 0, 4, 0, 0, false, [], []⟩ := ⟨_, rfl⟩
  obtain ⟨K, hK⟩ : ∃ K, K = T.cells (.slice none 0 0) (.slice none 0 0) := ⟨_, rfl⟩
  have LK : Hid (K.length = 10) := by rw [hK]; exact rfl
  have OK : Hid (∀ u ∈ K, u.oneCell' = true) := by rw [hK]; exact sg_one _ _ _ rfl rfl
  have BLK : Hid (∀ (o : Oper) (ev : Operand → Value) (x0 x1 : Operand) (W : World), o.op = .build 26 #[(0, x0), (1, x1), (4, .const (.int .i64 4))] → ev x0 = .int .i64 s.dst → ev x1 = .int .i64 s.src → (∀ v, ev (.const v) = v) → (execOp ev o).run Try.prog W = .ok (.value (.agg K.toArray)) W) := fun o ev x0 x1 W ho h0 h1 hc => by rw [hK, hT]; exact exec_bldR x0 x1 _ _ ho h0 h1 hc
  have HK := hide hK
  have HT := hide hT
  obtain ⟨s4, hs4⟩ : ∃ s4, s4 = w3.heap.size := ⟨_, rfl⟩
  obtain ⟨w4, hw4⟩ : ∃ w4, w4 = w3.alloc (.cells ZC.toArray 26) := ⟨_, rfl⟩
  have b4 : Below w3.heap.size w3 w4 := by rw [hw4]; exact later_alloc _ _
  have c4 : CellsAt w4 s4 0 ZC := by rw [hw4, hs4]; exact CellsAt.new w3 _ _
  have f4 : ∀ y, w4.frozen? ⟨s4, y, none⟩ = false := fun y => by rw [hw4, hs4]; exact frozen_new w3 _ _ _
  obtain ⟨w5, hw5⟩ : ∃ w5, w5 = w4.setCells s4 0 K := ⟨_, rfl⟩
  have n5 : But (Only s4) w4 w5 := by rw [hw5]; exact But.cells s4 K 0 w4
  have b5 : Below w3.heap.size w3 w5 := b4.trans (n5.below b4.size (fun g hg e => by have e : g = s4 := e; omega))
  have C45 : Hid (CellsAt w5 s4 0 K) := by rw [hw5]; exact c4.stored (by rw [LK.out, LZC.out])
  have F45 : Hid (∀ y, w5.frozen? ⟨s4, y, none⟩ = false) := fun y => by rw [hw5, World.frozen?_setCells]; exact f4 y
  have l45 : s4 < w5.heap.size := C45.out.lt (by rw [LK.out]; decide)
  have C15 := hide (C13.out.later l13 b5)
  have KC5 := hide (KC3.out.later l13 b5)
  have C25 := hide (C23.out.later l23 b5)
  have F25 : Hid (∀ y, w5.frozen? ⟨s2, y, none⟩ = false) := fun y => (b5.frozen (p := ⟨s2, y, none⟩) l23).trans (F23.out y)
  have B5 := hide (later BW3.out b5)
  have l15 : b < w5.heap.size := Nat.lt_of_lt_of_le l13 b5.size
  have l25 : s2 < w5.heap.size := Nat.lt_of_lt_of_le l23 b5.size
  have S4 : Hid (w.heap.size ≤ s4 ∧ s2 < s4 ∧ b < s4) := by unfold Hid; rw [hs4]; exact ⟨BW3.out.size, l23, l13⟩
  have k0 : w3.cell? ⟨b, 0, none⟩ = some (.int .i64 s.src) := KC3.out 0 _ rfl
  have k1 : w3.cell? ⟨b, 1, none⟩ = some (.int .i64 s.dst) := KC3.out 1 _ rfl
  have C4 := hide c4
  have F4 := hide f4
  have hs4' := hs4.symm
  have hw4' : w3.alloc (.cells #[.int .i64 0, .int .i64 0, .int .u32 0, .int .u32 0, .int .i64 0, .int .i64 0, .int .i64 0, .bool false, .slice none 0 0, .slice none 0 0] 26) = w4 := by rw [hw4, HZC.out]; rfl
  have hw5' := hw5.symm
  have G16 := hide (H16.out w5)
  -- the answer is stored, and told
  have FIN : Hid (∀ (W : World) (K2 : List Value) (R2 : Sg), Below w.heap.size w W → CellsAt W s2 0 ZC → (∀ y, W.frozen? ⟨s2, y, none⟩ = false) → K2 = R2.cells (.slice none 0 0) (.slice none 0 0) → CellsAt (W.setCells s2 0 K2) s2 0 K2 ∧ Below w.heap.size w (W.setCells s2 0 K2) ∧ K2.length = 10 ∧ ∀ u ∈ K2, u.oneCell' = true) := fun W K2 R2 hb hc hf hk => by
    have lk : K2.length = 10 := by rw [hk]; rfl
    exact ⟨hc.stored (by rw [lk, LZC.out]), hb.trans ((But.cells s2 K2 0 W).below hb.size (fun g hg e => by have e : g = s2 := e; have := S2.out; omega)), lk, by rw [hk]; exact sg_one _ _ _ rfl rfl⟩
  clear hK hT hs4 hw4 b4 c4 f4 hw5 n5 b5 H16
  go_upto_region 5 with (first | refine wpList_val rfl (BLK.out _ _ _ _ _ rfl rfl rfl (fun _ => rfl)) ?_ | (refine wpList_storeA rfl 26 10 sizSg _ _ rfl s4 0 rfl K ZC rfl LK.out LZC.out C4.out F4.out OK.out ?_; intro _; rw [hw5']))
  clear hs4' hw4' hw5' C4 F4 k0 k1
  go_wp2_with (refine wpList_loadA rfl 26 10 aggSg sizSg _ rfl b 0 rfl X LX.out C15.out ?_)
  refine G16.out.mono ?_
  rintro _ w6 ⟨rfl, b6⟩
  have B6 := hide (later B5.out b6)
  have C46 := hide (C45.out.later l45 b6)
  have F46 : Hid (∀ y, w6.frozen? ⟨s4, y, none⟩ = false) := fun y => (b6.frozen (p := ⟨s4, y, none⟩) l45).trans (F45.out y)
  have C16 := hide (C15.out.later l15 b6)
  have KC6 := hide (KC5.out.later l15 b6)
  have C26 := hide (C25.out.later l25 b6)
  have F26 : Hid (∀ y, w6.frozen? ⟨s2, y, none⟩ = false) := fun y => (b6.frozen (p := ⟨s2, y, none⟩) l25).trans (F25.out y)
  have l46 : s4 < w6.heap.size := Nat.lt_of_lt_of_le l45 b6.size
  have l16 : b < w6.heap.size := Nat.lt_of_lt_of_le l15 b6.size
  have l26 : s2 < w6.heap.size := Nat.lt_of_lt_of_le l25 b6.size
  clear b6 G16
  cases h16 with
  | true =>
    have eR : R = ⟨s.dst, s.src, s.ack, 0, 4, 0, 0, false, [], []⟩ := by rw [HR.out, if_neg (by decide), if_pos rfl]
    have k3 : w6.cell? ⟨b, 3, none⟩ = some (.int .u32 s.ack) := KC6.out 3 _ rfl
    have m2 : w6.cell? ⟨s4, 2, none⟩ = some (.int .u32 0) := by have h := C46.out; rw [HK.out, HT.out] at h; exact h 2 _ rfl
    have m2f := F46.out 2
    obtain ⟨w7, hw7⟩ : ∃ w7, w7 = w6.setCell ⟨s4, 2, none⟩ (.int .u32 s.ack) := ⟨_, rfl⟩
    have n7 : But (Only s4) w6 w7 := by rw [hw7]; exact (But.refl (Only s4) w6).setCell (p := ⟨s4, 2, none⟩) (.inr rfl) _
    obtain ⟨K2, hK2⟩ : ∃ K2, K2 = R.cells (.slice none 0 0) (.slice none 0 0) := ⟨_, rfl⟩
    have C47 : Hid (CellsAt w7 s4 0 K2) := by
      have h := C46.out
      rw [HK.out, HT.out] at h
      rw [hK2, eR, hw7]
      exact h.set 2 _
    have b7 : Below w.heap.size w w7 := B6.out.trans (n7.below B6.out.size (fun g hg e => by have e : g = s4 := e; have := S4.out; omega))
    have ns : ¬ Only s4 s2 := fun e => by have e : s2 = s4 := e; have := S4.out; omega
    have C27 := hide (C26.out.but l26 n7 ns)
    have F27 : Hid (∀ y, w7.frozen? ⟨s2, y, none⟩ = false) := fun y => (n7.frozen (p := ⟨s2, y, none⟩) l26 ns).trans (F26.out y)
    obtain ⟨z1, z2, z3, z4⟩ := FIN.out w7 K2 R b7 C27.out F27.out hK2
    obtain ⟨w8, hw8⟩ : ∃ w8, w8 = w7.setCells s2 0 K2 := ⟨_, rfl⟩
    rw [← hw8] at z1 z2
    have Z1 := hide z1
    have Z2 := hide z2
    have Z3 := hide z3
    have Z4 := hide z4
    have HK2 := hide hK2
    have hw7' := hw7.symm
    have hw8' := hw8.symm
    clear eR hw7 n7 hK2 b7 ns z1 z2 z3 z4 hw8
    go_wp2_with (first | refine wpList_loadA rfl 26 10 aggSg sizSg _ rfl s4 0 rfl K2 Z3.out C47.out ?_ | (refine wpList_storeA rfl 26 10 sizSg _ _ rfl s2 0 rfl K2 ZC rfl Z3.out LZC.out C27.out F27.out Z4.out ?_; intro _; rw [hw8']))
    refine bodyPost_ret (v := .tuple #[.agg K2.toArray, .bool true]) (results_2 rfl _ _ s2 _ _ rfl rfl (run_loadVarA 26 10 aggSg sizSg s2 0 _ Z3.out Z1.out)) rfl ?_
    exact ⟨by rw [HK2.out], Z2.out⟩
  | false =>
    have eR : R = ⟨s.dst, s.src, 0, (s.seq + s.size) % 4294967296, 20, 0, 0, false, [], []⟩ := by rw [HR.out, if_neg (by decide), if_neg (by decide)]
    have m4 : w6.cell? ⟨s4, 4, none⟩ = some (.int .i64 4) := by have h := C46.out; rw [HK.out, HT.out] at h; exact h 4 _ rfl
    have m4f := F46.out 4
    obtain ⟨w7, hw7⟩ : ∃ w7, w7 = w6.setCell ⟨s4, 4, none⟩ (.int .i64 20) := ⟨_, rfl⟩
    have n7 : But (Only s4) w6 w7 := by rw [hw7]; exact (But.refl (Only s4) w6).setCell (p := ⟨s4, 4, none⟩) (.inr rfl) _
    have C47 : Hid (CellsAt w7 s4 0 (Sg.cells ⟨s.dst, s.src, 0, 0, 20, 0, 0, false, [], []⟩ (.slice none 0 0) (.slice none 0 0))) := by
      have h := C46.out
      rw [HK.out, HT.out] at h
      rw [hw7]
      exact h.set 4 _
    have ns : ¬ Only s4 s2 := fun e => by have e : s2 = s4 := e; have := S4.out; omega
    have nb : ¬ Only s4 b := fun e => by have e : b = s4 := e; have := S4.out; omega
    have c17 := C16.out.but l16 n7 nb
    have kc7 := KC6.out.but l16 n7 nb
    have c27 := C26.out.but l26 n7 ns
    have f27 : ∀ y, w7.frozen? ⟨s2, y, none⟩ = false := fun y => (n7.frozen (p := ⟨s2, y, none⟩) l26 ns).trans (F26.out y)
    have f47 : ∀ y, w7.frozen? ⟨s4, y, none⟩ = false := fun y => by rw [hw7, World.frozen?_setCell]; exact F46.out y
    have B7 : Hid (Below w.heap.size w w7) := B6.out.trans (n7.below B6.out.size (fun g hg e => by have e : g = s4 := e; have := S4.out; omega))
    have l47 : s4 < w7.heap.size := Nat.lt_of_lt_of_le l46 n7.size
    have l17 : b < w7.heap.size := Nat.lt_of_lt_of_le l16 n7.size
    have l27 : s2 < w7.heap.size := Nat.lt_of_lt_of_le l26 n7.size
    have GZ := hide (HZ.out)
    have SW : Hid (∀ W, Below w7.heap.size w7 W → CellsAt W b 0 X ∧ W.cell? ⟨b, 2, none⟩ = some (.int .u32 s.seq)) := fun W hW => ⟨c17.later l17 hW, (kc7.later l17 hW) 2 _ rfl⟩
    have RW : Hid (∀ W, Below w7.heap.size w7 W → CellsAt W s4 0 (Sg.cells ⟨s.dst, s.src, 0, 0, 20, 0, 0, false, [], []⟩ (.slice none 0 0) (.slice none 0 0)) ∧ (∀ y, W.frozen? ⟨s4, y, none⟩ = false) ∧ CellsAt W s2 0 ZC ∧ ∀ y, W.frozen? ⟨s2, y, none⟩ = false) := fun W hW => ⟨C47.out.later l47 hW, fun y => (hW.frozen (p := ⟨s4, y, none⟩) l47).trans (f47 y), c27.later l27 hW, fun y => (hW.frozen (p := ⟨s2, y, none⟩) l27).trans (f27 y)⟩
    have hw7' := hw7.symm
    clear HZ hw7 n7 nb c17 kc7 c27 f27 f47
    go_upto_region 9 with fail
    clear hw7' m4 m4f
    refine regionJ (fun i => decide (i ≤ 8)) (fun W => CellsAt W b 0 X ∧ W.cell? ⟨b, 2, none⟩ = some (.int .u32 s.seq)) (by kernel_rfl) ?_
    refine takeJ (i := 0) (v := .pointer (some ⟨b, 2, none⟩)) 23 rfl rfl (by kernel_rfl) (by kernel_rfl) (by kernel_rfl) (by kernel_rfl) (fun _ _ _ h => h) (.inl ⟨by rfl, fun W hW => exec_fieldO 26 _ 2 b 0 2 rfl rfl (fun w => by kernel_rfl)⟩) ((SW.out _ (later_drew _))) ?_
    try simp only [Act.put, List.setIfInBounds_toArray, List.set_cons_zero, List.set_cons_succ]
    refine takeJ (i := 1) (v := .int .u32 s.seq) 24 rfl rfl (by kernel_rfl) (by kernel_rfl) (by kernel_rfl) (by kernel_rfl) (fun _ _ _ h => h) (.inl ⟨by rfl, fun W hW => exec_load1 22 one32 _ rfl b 2 rfl (.int .u32 s.seq) (hW.2)⟩) ((SW.out _ (later_drew _))) ?_
    try simp only [Act.put, List.setIfInBounds_toArray, List.set_cons_zero, List.set_cons_succ]
    refine takeJ (i := 2) (v := .int .i64 s.seq) 25 rfl rfl (by kernel_rfl) (by kernel_rfl) (by kernel_rfl) (by kernel_rfl) (fun _ _ _ h => h) (.inl ⟨by rfl, fun W hW => exec_cv64 _ _ rfl rfl sq0 sq1⟩) ((SW.out _ (later_drew _))) ?_
    try simp only [Act.put, List.setIfInBounds_toArray, List.set_cons_zero, List.set_cons_succ]
    refine takeJ (i := 3) (v := .agg X.toArray) 26 rfl rfl (by kernel_rfl) (by kernel_rfl) (by kernel_rfl) (by kernel_rfl) (fun _ _ _ h => h) (.inl ⟨by rfl, fun W hW => exec_loadA 26 10 aggSg sizSg _ rfl b 0 rfl X LX.out hW.1⟩) ((SW.out _ (later_drew _))) ?_
    try simp only [Act.put, List.setIfInBounds_toArray, List.set_cons_zero, List.set_cons_succ]
    refine callJ 4 27 (by kernel_rfl) rfl rfl (by rfl) 17 #[.agg X.toArray] (exec_callF _ _ _ _ rfl (map1 rfl) (enters_of Try.func17 (by kernel_rfl) rfl)) (fun v w9 => v = .int .i64 s.size ∧ Below w7.heap.size w7 w9) ((GZ.out _).mono (fun e w' h => ⟨_, h.1, rfl, later (later_drew _) h.2⟩)) ?_
    rintro v w8 ⟨rfl, b8⟩
    refine ⟨SW.out _ b8, ?_⟩
    simp only [Act.put, List.setIfInBounds_toArray, List.set_cons_zero, List.set_cons_succ]
    refine takeJ (i := 5) (v := .int .i64 (s.seq + s.size)) 28 rfl rfl (by kernel_rfl) (by kernel_rfl) (by kernel_rfl) (by kernel_rfl) (fun _ _ _ h => h) (.inl ⟨by rfl, fun W hW => exec_addi _ _ _ _ _ rfl rfl rfl (by omega) (by omega)⟩) ((SW.out _ b8)) ?_
    try simp only [Act.put, List.setIfInBounds_toArray, List.set_cons_zero, List.set_cons_succ]
    refine takeJ (i := 6) (v := .int .i64 ((s.seq + s.size) % 4294967296)) 29 rfl rfl (by kernel_rfl) (by kernel_rfl) (by kernel_rfl) (by kernel_rfl) (fun _ _ _ h => h) (.inl ⟨by rfl, fun W hW => exec_remW _ _ _ rfl (fun _ => rfl) rfl (by omega)⟩) ((SW.out _ b8)) ?_
    try simp only [Act.put, List.setIfInBounds_toArray, List.set_cons_zero, List.set_cons_succ]
    refine takeJ (i := 7) (v := .int .u32 ((s.seq + s.size) % 4294967296 % 4294967296)) 30 rfl rfl (by kernel_rfl) (by kernel_rfl) (by kernel_rfl) (by kernel_rfl) (fun _ _ _ h => h) (.inl ⟨by rfl, fun W hW => exec_cv32 _ _ rfl rfl⟩) ((SW.out _ b8)) ?_
    try simp only [Act.put, List.setIfInBounds_toArray, List.set_cons_zero, List.set_cons_succ]
    refine takeJ (i := 8) (v := .pointer (some ⟨s4, 3, none⟩)) 31 rfl rfl (by kernel_rfl) (by kernel_rfl) (by kernel_rfl) (by kernel_rfl) (fun _ _ _ h => h) (.inl ⟨by rfl, fun W hW => exec_fieldO 26 _ 3 s4 0 3 rfl rfl (fun w => by kernel_rfl)⟩) ((SW.out _ b8)) ?_
    try simp only [Act.put, List.setIfInBounds_toArray, List.set_cons_zero, List.set_cons_succ]
    obtain ⟨c48, f48, c28, f28⟩ := RW.out w8 b8
    obtain ⟨w9, hw9⟩ : ∃ w9, w9 = w8.setCell ⟨s4, 3, none⟩ (.int .u32 ((s.seq + s.size) % 4294967296 % 4294967296)) := ⟨_, rfl⟩
    have n9 : But (Only s4) w8 w9 := by rw [hw9]; exact (But.refl (Only s4) w8).setCell (p := ⟨s4, 3, none⟩) (.inr rfl) _
    refine storeJ (w' := w9) 9 (by kernel_rfl) rfl rfl (by rfl) (by rw [hw9]; exact exec_store1 22 s1U32 _ _ rfl s4 3 rfl _ _ rfl (c48 3 _ rfl) (f48 3) rfl) (by simp) ?_
    refine doneJ (by kernel_rfl) ?_ _
    obtain ⟨K2, hK2⟩ : ∃ K2, K2 = R.cells (.slice none 0 0) (.slice none 0 0) := ⟨_, rfl⟩
    have C49 : Hid (CellsAt w9 s4 0 K2) := by
      have h := c48.set 3 (.int .u32 ((s.seq + s.size) % 4294967296 % 4294967296))
      rw [← hw9] at h
      rw [hK2, eR, show (s.seq + s.size) % 4294967296 = (s.seq + s.size) % 4294967296 % 4294967296 by omega]
      exact h
    have b9 : Below w.heap.size w w9 := (later B7.out b8).trans (n9.below (later B7.out b8).size (fun g hg e => by have e : g = s4 := e; have := S4.out; omega))
    have l28 : s2 < w8.heap.size := Nat.lt_of_lt_of_le l27 b8.size
    have C29 := hide (c28.but l28 n9 ns)
    have F29 : Hid (∀ y, w9.frozen? ⟨s2, y, none⟩ = false) := fun y => (n9.frozen (p := ⟨s2, y, none⟩) l28 ns).trans (f28 y)
    obtain ⟨z1, z2, z3, z4⟩ := FIN.out w9 K2 R b9 C29.out F29.out hK2
    obtain ⟨wa, hwa⟩ : ∃ wa, wa = w9.setCells s2 0 K2 := ⟨_, rfl⟩
    rw [← hwa] at z1 z2
    have Z1 := hide z1
    have Z2 := hide z2
    have Z3 := hide z3
    have Z4 := hide z4
    have HK2 := hide hK2
    have hwa' := hwa.symm
    clear eR hw9 n9 hK2 b9 ns z1 z2 z3 z4 hwa c48 c28 f28 f48 b8 l28
    go_wp2_with (first | refine wpList_loadA rfl 26 10 aggSg sizSg _ rfl s4 0 rfl K2 Z3.out C49.out ?_ | (refine wpList_storeA rfl 26 10 sizSg _ _ rfl s2 0 rfl K2 ZC rfl Z3.out LZC.out C29.out F29.out Z4.out ?_; intro _; rw [hwa']))
    refine bodyPost_ret (v := .tuple #[.agg K2.toArray, .bool true]) (results_2 rfl _ _ s2 _ _ rfl rfl (run_loadVarA 26 10 aggSg sizSg s2 0 _ Z3.out Z1.out)) rfl ?_
    exact ⟨by rw [HK2.out], Z2.out⟩
end Go.Proofs.Ytggadchhkenipaa
