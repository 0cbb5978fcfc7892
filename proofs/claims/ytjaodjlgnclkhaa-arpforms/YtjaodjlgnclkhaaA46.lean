
/-
  ArpForms: the walk.
-/
import Derived.Test.YtjaodjlgnclkhaaA45
import Derived.Test.YtjaodjlgnclkhaaARow3
namespace Go.Proofs.Ytjaodjlgnclkhaa
open Go.RowKit Go.Shelf

def eqA (a b : Ar) : Bool := eqM a.sm b.sm && (eqI a.si b.si && (eqM a.dm b.dm && eqI a.di b.di))
theorem eq_ar (w : World) (a : Ar) : (Op.equalIn 10000 27 a.val a.val).run Try.prog w = .ok true w := by
  obtain ⟨t, ⟨a, b, c, d, e, k⟩, ⟨i0, i1, i2, i3⟩, ⟨a1, b1, c1, d1, e1, k1⟩, ⟨j0, j1, j2, j3⟩⟩ := a
  have EM := eq_mac
  have EI := eq_ip
  have m1 : eqM ⟨a, b, c, d, e, k⟩ ⟨a, b, c, d, e, k⟩ = true := eqM_self _
  have m2 : eqM ⟨a1, b1, c1, d1, e1, k1⟩ ⟨a1, b1, c1, d1, e1, k1⟩ = true := eqM_self _
  have m3 : eqI ⟨i0, i1, i2, i3⟩ ⟨i0, i1, i2, i3⟩ = true := eqI_self _
  have m4 : eqI ⟨j0, j1, j2, j3⟩ ⟨j0, j1, j2, j3⟩ = true := eqI_self _
  simp [Ar.val, Ar.vals, M6.vals, I4.vals, go_sem, EM, EI, m1, m2, m3, m4]
theorem eq_arE (w : World) (a : Ar) : (binOp .eql 27 (.agg a.vals.toArray) (.agg a.vals.toArray)).run Try.prog w = .ok (.bool true) w := by
  have := run_eql_struct (P := Try.prog) w 27 a.vals.toArray a.vals.toArray
  have e := eq_ar w a
  unfold Ar.val at e
  rw [this, e]
  rfl
theorem eq_arN (w : World) (a : Ar) : (binOp .neq 27 (.agg a.vals.toArray) (.agg a.vals.toArray)).run Try.prog w = .ok (.bool false) w := by
  have := run_neq_struct (P := Try.prog) w 27 a.vals.toArray a.vals.toArray
  have e := eq_ar w a
  unfold Ar.val at e
  rw [this, e]
  rfl
theorem eq_arG (w : World) (op : BinOp) (x y : Operand) (a b : Ar) : (eqGuard op 27 x y (.agg a.vals.toArray) (.agg b.vals.toArray)).run Try.prog w = .ok () w := run_eqGuard_agg w op _ x y _ _ (by kernel_rfl)
theorem wpList_loadAg {ops : Array Oper} {rest : List Oper} {o : Oper} {a : Act} {w : World} {Q : Exit → Act → World → Prop} (T : TypeId) (n : Nat) (hag : ∀ W, (isAgg T).run Try.prog W = .ok true W) (hsz : ∀ W, (Go.sizeOf T).run Try.prog W = .ok n W) (x : Operand) (ho : o.op = .load T x)
    (s k : Nat) (hx : a.eval x = .pointer (some ⟨s, k, none⟩)) (vs : List Value) (hl : vs.length = n) (hg : CellsAt w s k vs) (hw : Region.wanted o (yielded ops a.tmps) = true)
    (h : wpList Try.prog ops Q rest (a.put o.dst (.agg vs.toArray)) w) : wpList Try.prog ops Q (o :: rest) a w := by
  refine wpList_step fun K hK => ?_
  rw [if_pos hw]
  unfold Oper.wp execOp
  have hg' := hg.loads
  rw [hl] at hg'
  simp only [ho, hx, Instr.loadAt, Instr.sureAddr, loadVar, Sem.run_bind, Sem.run_pure, Result.andThen_ok, hag, hsz, if_true, hg']
  exact hK _ _ h

/-- what was written is read as it was -/
theorem back_ar {a : Ar} (h : a.Ok) (h0 : arE a = 0) (tl : List Int) (ht : Bytes tl) : deE (arB a ++ tl) = 0 ∧ deR (arB a ++ tl) = a ∧ Bytes (arB a) := by
  have hs : ¬ a.sm.a % 2 = 1 := fun e => by unfold arE at h0; rw [if_pos e] at h0; cases h0
  have e1 : arB a = hd8 a.ans ++ arT a := by unfold arB; rw [if_neg hs]
  have hby : Bytes (arB a) := by
    obtain ⟨t, ⟨a, b, c, d, e, k⟩, ⟨i0, i1, i2, i3⟩, ⟨a1, b1, c1, d1, e1, k1⟩, ⟨j0, j1, j2, j3⟩⟩ := a
    obtain ⟨h1, h2, h3, h4⟩ := h
    rw [e1]
    intro x hx
    simp only [M6.Okb, I4.Ok, B8] at h1 h2 h3 h4
    simp only [hd8, arT, mL, iL, List.mem_append, List.mem_cons, List.not_mem_nil, or_false] at hx
    rcases hx with hx | hx
    · rcases hx with rfl | rfl | rfl | rfl | rfl | rfl | rfl | rfl <;> (try split) <;> omega
    · rcases hx with (rfl | rfl | rfl | rfl | rfl | rfl) | (rfl | rfl | rfl | rfl) | (rfl | rfl | rfl | rfl | rfl | rfl) | (rfl | rfl | rfl | rfl) <;> omega
  have hB : Bytes (arB a ++ tl) := hby.append ht
  have hk : ∀ b, hOk (arB a ++ tl) b = decide (a.ans = b) := fun b => by
    rw [Bool.eq_iff_iff, hOk_iff hB, e1, decide_eq_true_eq]
    obtain ⟨t, sm, si, dm, di⟩ := a
    cases t <;> cases b <;> simp [hd8, arT, nb, mL, iL]
  have h28 : ¬ (arB a ++ tl).length < 28 := by rw [e1, List.length_append, List.length_append, hd8_len, arT_len]; omega
  have n8 : nb (arB a ++ tl) 8 = a.sm.a := by rw [e1]; rfl
  have hkk : hOk (arB a ++ tl) true = a.ans := by rw [hk]; cases a.ans <;> rfl
  have E : deE (arB a ++ tl) = 0 := by
    unfold deE
    rw [if_neg h28, hkk, hk, if_pos ⟨decide_eq_true rfl, by rw [n8]; exact hs⟩]
  refine ⟨E, ?_, hby⟩
  unfold deR
  rw [E, if_pos rfl]
  unfold deA
  rw [hkk, e1]
  rfl

set_option maxRecDepth 100000 in
set_option maxHeartbeats 8000000 in
theorem forms_walk (a : Ar) (v : Value) (bs : List Int) (w : World) (ha : a.Ok) (hv : IsF (fun _ => False) w v bs) (hB : Bytes bs) (hl : bs.length ≤ 140737488351232) : Calls Try.prog 3 #[a.val, v] w fun e w' => e = .returned (.bool true) ∧ Below w.heap.size w w' := by
  obtain ⟨va, vc, rfl, -, -⟩ := hv.shape
  obtain ⟨n, hn⟩ : ∃ n, n = bs.length := ⟨_, rfl⟩
  rw [← hn] at hv ⊢
  obtain ⟨s, hs⟩ : ∃ s, s = w.heap.size := ⟨_, rfl⟩
  obtain ⟨W1, hW1⟩ : ∃ W1, W1 = w.alloc (.cells a.vals.toArray 27) := ⟨_, rfl⟩
  have b1 : Below w.heap.size w W1 := by rw [hW1]; exact (Below.refl _ _).alloc (Nat.le_refl _) _
  have z1 : W1.heap.size = s + 1 := by rw [hW1, hs]; simp
  have c1 : CellsAt W1 s 0 a.vals := by rw [hW1, hs]; exact CellsAt.new w _ _
  have m0 : 0 ≤ a.sm.a ∧ a.sm.a ≤ 255 := ha.sm.1
  obtain ⟨w0, hw0⟩ : ∃ w0, w0 = W1 := ⟨_, rfl⟩
  have KA := hide (awake_any W1)
  have HV := hide hv
  have HBY := hide hB
  have HL : Hid (n ≤ 140737488351232) := by unfold Hid; omega
  have HN := hide hn
  have C1 := hide c1
  have B1 := hide b1
  have Z1 := hide z1
  have HA := hide ha
  rw [show a.val = .agg a.vals.toArray from rfl]
  have la : a.vals.length = 21 := rfl
  have hW1' := hW1.symm
  have hs' := hs.symm
  have HS := hide hs
  clear hv hB hl hn c1 b1 z1 hW1 hs hw0 ha
  go_enter Try.func3, Try.ntmps3
  go_wp2_with fail
  clear hW1' hs' la
  refine KA.out.mono ?_
  rintro _ w2 ⟨rfl, b2⟩
  have C2 : Hid (CellsAt w2 s 0 a.vals) := C1.out.later (by have := Z1.out; omega) b2
  have B2 : Hid (Below w.heap.size w w2) := later B1.out b2
  have Z2 : Hid (s + 1 ≤ w2.heap.size) := by have := b2.size; have := Z1.out; unfold Hid; omega
  have KE := hide (Encode_any a m0.1 m0.2 w2)
  rw [show a.val = .agg a.vals.toArray from rfl] at KE
  clear C1 B1 Z1 KA b2
  go_wp2_with (refine wpList_loadA rfl 27 21 aggA sizA _ rfl s 0 rfl a.vals rfl C2.out ?_)
  refine KE.out.mono ?_
  rintro _ w3 ⟨xv, rfl, hX, b3⟩
  obtain ⟨X, hXe⟩ : ∃ X, X = arB a := ⟨_, rfl⟩
  obtain ⟨er, her⟩ : ∃ er, er = arE a := ⟨_, rfl⟩
  rw [← hXe] at hX
  rw [← her]
  obtain ⟨xa, xc, rfl, -, -⟩ := (hX.isF (A := fun _ => False) (fun _ _ => id)).shape
  have C3 : Hid (CellsAt w3 s 0 a.vals) := C2.out.later (by have := Z2.out; omega) b3
  have B3 : Hid (Below w.heap.size w w3) := later B2.out b3
  have Z3 : Hid (s + 1 ≤ w3.heap.size) := Nat.le_trans Z2.out b3.size
  have GX3 : Hid (IsB w3.heap.size w3 (.slice xa X.length xc) X) := hX.isB
  have KR := rEncode_any a m0.1 w3
  unfold EnEnd at KR
  rw [← hXe, ← her, show a.val = .agg a.vals.toArray from rfl] at KR
  have KR := hide KR
  have HXE := hide hXe
  have HER := hide her
  clear C2 B2 Z2 KE hX b3 hXe her m0
  go_wp2_with (refine wpList_loadA rfl 27 21 aggA sizA _ rfl s 0 rfl a.vals rfl C3.out ?_)
  refine KR.out.mono ?_
  rintro _ w4 ⟨yv, rfl, hY, b4⟩
  obtain ⟨ya, yc, rfl, -, -⟩ := (hY.isF (A := fun _ => False) (fun _ _ => id)).shape
  have C4 : Hid (CellsAt w4 s 0 a.vals) := C3.out.later (by have := Z3.out; omega) b4
  have B4 : Hid (Below w.heap.size w w4) := later B3.out b4
  have Z4 : Hid (s + 1 ≤ w4.heap.size) := Nat.le_trans Z3.out b4.size
  have GX4 := hide (GX3.out.later b4)
  have GY4 : Hid (IsB w4.heap.size w4 (.slice ya X.length yc) X) := hY.isB
  have V4 := hide (HV.out.later B4.out)
  clear C3 B3 Z3 KR hY b4 GX3
  go_upto_region 5 with (at_builtin; refine wpList_grow rfl _ _ rfl rfl w4.heap.size (fun _ => False) _ _ [] bs rfl rfl (Gro.nil _ _) V4.out (Nat.le_refl _) (by rw [← HN.out]; have := HL.out; simp; omega) bs rfl ?_)
  intro oa oc w5 hoc hO b5
  rw [← HN.out] at hO ⊢
  have C5 : Hid (CellsAt w5 s 0 a.vals) := C4.out.later (by have := Z4.out; omega) b5
  have B5 : Hid (Below w.heap.size w w5) := later B4.out b5
  have Z5 : Hid (s + 1 ≤ w5.heap.size) := Nat.le_trans Z4.out b5.size
  have GX5 := hide (GX4.out.later b5)
  have GY5 := hide (GY4.out.later b5)
  have FO5 : Hid (IsF (fun _ => False) w5 (.slice oa n oc) bs) := hO.isF (A := fun _ => False) (fun _ _ => id)
  have KD := hide (Decode_any FO5.out HBY.out (by rw [← HN.out]; have := HL.out; omega))
  unfold DeEnd at KD
  obtain ⟨g, hg⟩ : ∃ g, g = deR bs := ⟨_, rfl⟩
  obtain ⟨dE, hdE⟩ : ∃ dE, dE = deE bs := ⟨_, rfl⟩
  rw [← hg, ← hdE, show g.val = .agg g.vals.toArray from rfl] at KD
  have HG := hide hg
  have HDE := hide hdE
  clear C4 B4 Z4 GX4 GY4 V4 hO hoc b5 hg hdE
  go_wp2_with fail
  refine KD.out.mono ?_
  rintro _ w6 ⟨rfl, b6⟩
  obtain ⟨s6, hs6⟩ : ∃ s6, s6 = w6.heap.size := ⟨_, rfl⟩
  obtain ⟨u6, hu6⟩ : ∃ u6, u6 = w6.alloc (.cells zA.vals.toArray 27) := ⟨_, rfl⟩
  have C0 : Hid (CellsAt u6 s6 0 zA.vals) := by rw [hu6, hs6]; exact CellsAt.new w6 _ _
  have F0 : Hid (∀ y, u6.frozen? ⟨s6, y, none⟩ = false) := fun y => by rw [hu6, hs6]; exact frozen_new w6 _ _ _
  have bu : Below w6.heap.size w6 u6 := by rw [hu6]; exact (Below.refl _ _).alloc (Nat.le_refl _) _
  obtain ⟨x6, hx6⟩ : ∃ x6, x6 = u6.setCells s6 0 g.vals := ⟨_, rfl⟩
  have bo := But.cells s6 g.vals 0 u6
  rw [← hx6] at bo
  have bx : Below w6.heap.size w6 x6 := bu.trans (bo.below bu.size (fun q hq e => by have e : q = s6 := e; omega))
  have P6 : Hid (CellsAt x6 s6 0 g.vals) := by rw [hx6]; exact C0.out.stored rfl
  have zs6 : s6 < x6.heap.size := by rw [hx6]; rw [size_setCells, hu6, hs6]; simp
  have hu' := hu6.symm
  simp only [zA, zM, zI, Ar.vals, M6.vals, I4.vals, List.cons_append, List.nil_append] at hu'
  have hs' := hs6.symm
  have hx' := hx6.symm
  clear hu6 hs6 hx6 bu bo
  have bb : Below w5.heap.size w5 x6 := later b6 bx
  have C6 : Hid (CellsAt x6 s 0 a.vals) := C5.out.later (by have := Z5.out; omega) bb
  have B6 : Hid (Below w.heap.size w x6) := later B5.out bb
  have Z6 : Hid (s + 1 ≤ x6.heap.size) := Nat.le_trans Z5.out bb.size
  have GX6 := hide (GX5.out.later bb)
  have GY6 := hide (GY5.out.later bb)
  have FO6 := hide (FO5.out.later bb)
  have KQ := hide (rDecode_any (HV.out.later B6.out) HBY.out)
  unfold DeEnd at KQ
  rw [← HG.out, ← HDE.out, show g.val = .agg g.vals.toArray from rfl] at KQ
  have ZS6 := hide zs6
  clear C5 B5 Z5 GX5 GY5 FO5 b6 bx bb KD zs6
  go_wp2_with (refine wpList_storeA rfl 27 21 sizA _ _ rfl s6 0 rfl g.vals zA.vals rfl rfl rfl C0.out F0.out (ar_one _) (fun _ => ?_))
  try rw [hx']
  clear hu' hs' hx' C0 F0
  refine KQ.out.mono ?_
  rintro _ w9 ⟨rfl, b9⟩
  obtain ⟨s9, hs9⟩ : ∃ s9, s9 = w9.heap.size := ⟨_, rfl⟩
  obtain ⟨u9, hu9⟩ : ∃ u9, u9 = w9.alloc (.cells zA.vals.toArray 27) := ⟨_, rfl⟩
  have C0 : Hid (CellsAt u9 s9 0 zA.vals) := by rw [hu9, hs9]; exact CellsAt.new w9 _ _
  have F0 : Hid (∀ y, u9.frozen? ⟨s9, y, none⟩ = false) := fun y => by rw [hu9, hs9]; exact frozen_new w9 _ _ _
  have bu : Below w9.heap.size w9 u9 := by rw [hu9]; exact (Below.refl _ _).alloc (Nat.le_refl _) _
  obtain ⟨x9, hx9⟩ : ∃ x9, x9 = u9.setCells s9 0 g.vals := ⟨_, rfl⟩
  have bo := But.cells s9 g.vals 0 u9
  rw [← hx9] at bo
  have bx : Below w9.heap.size w9 x9 := bu.trans (bo.below bu.size (fun q hq e => by have e : q = s9 := e; omega))
  have P9 : Hid (CellsAt x9 s9 0 g.vals) := by rw [hx9]; exact C0.out.stored rfl
  have zs9 : s9 < x9.heap.size := by rw [hx9]; rw [size_setCells, hu9, hs9]; simp
  have hu' := hu9.symm
  simp only [zA, zM, zI, Ar.vals, M6.vals, I4.vals, List.cons_append, List.nil_append] at hu'
  have hs' := hs9.symm
  have hx' := hx9.symm
  clear hu9 hs9 hx9 bu bo
  have bb : Below x6.heap.size x6 x9 := later b9 bx
  have C9 : Hid (CellsAt x9 s 0 a.vals) := C6.out.later (by have := Z6.out; omega) bb
  have P9b : Hid (CellsAt x9 s6 0 g.vals) := P6.out.later ZS6.out bb
  have B9 : Hid (Below w.heap.size w x9) := later B6.out bb
  have Z9 : Hid (s + 1 ≤ x9.heap.size ∧ s6 < x9.heap.size ∧ s9 < x9.heap.size) := ⟨Nat.le_trans Z6.out bb.size, Nat.lt_of_lt_of_le ZS6.out bb.size, zs9⟩
  have GX9 := hide (GX6.out.later bb)
  have GY9 := hide (GY6.out.later bb)
  have FO9 := hide (FO6.out.later bb)
  have FX9 : Hid (IsF (fun _ => False) x9 (.slice xa X.length xc) X) := by
    obtain ⟨q1, q2, q3, q4, q5, q6⟩ := GX9.out
    exact ⟨q1, q2, q3, q4, q5, fun h0 => let ⟨q7, q8, q9, q10, q11⟩ := q6 h0; ⟨q7, q8, q9, q10, id, q11⟩⟩
  have lX : Hid (X.length ≤ 28) := by unfold Hid; rw [HXE.out]; unfold arB; split <;> simp [hd8, arT, mL, iL]
  clear C6 B6 Z6 GX6 GY6 FO6 b9 bx bb KQ zs9 P6 ZS6
  go_upto_region 7 with (refine wpList_storeA rfl 27 21 sizA _ _ rfl s9 0 rfl g.vals zA.vals rfl rfl rfl C0.out F0.out (ar_one _) ?_)
  intro _
  try rw [hx']
  clear hu' hs' hx' C0 F0
  go_upto_region 7 with fail
  obtain ⟨xn, hxn⟩ : ∃ xn, xn = X.length := ⟨_, rfl⟩
  rw [← hxn] at GX9 GY9 FX9 lX ⊢
  have HXN := hide hxn
  go_upto_region 8 with (at_builtin; refine wpList_grow rfl _ _ rfl rfl x9.heap.size (fun _ => False) _ _ [] X rfl rfl (Gro.nil _ _) FX9.out (Nat.le_refl _) (by rw [← HXN.out]; have := lX.out; simp; omega) X rfl ?_)
  intro za zc w12 hzc gz bz
  rw [← HXN.out] at gz ⊢
  have GZ := hide gz
  have BZ := hide bz
  clear gz bz hzc hxn
  obtain ⟨w13, hw13⟩ : ∃ w13, w13 = w12.alloc (.cells #[.int .u8 1, .int .u8 2] 5) := ⟨_, rfl⟩
  have b13 : Below w12.heap.size w12 w13 := by rw [hw13]; exact (Below.refl _ _).alloc (Nat.le_refl _) _
  have I13 : Hid (IsF (fun _ => False) w13 (.slice (some ⟨w12.heap.size, 0, none⟩) 2 2) [1, 2]) := by rw [hw13]; exact lit_F w12 [1, 2] _ id (0, 0)
  have GZ13 : Hid (Gro x9.heap.size w13 (.slice za xn zc) X) := GZ.out.later b13
  have ZZ : Hid (x9.heap.size ≤ w13.heap.size) := Nat.le_trans BZ.out.size b13.size
  have hw13' := hw13.symm
  obtain ⟨XT, hXT⟩ : ∃ XT, X ++ [1, 2] = XT := ⟨_, rfl⟩
  have HXT := hide hXT
  have lT : Hid (XT.length = xn + 2) := by unfold Hid; rw [← hXT, List.length_append, ← HXN.out]; rfl
  have b913 : Hid (Below x9.heap.size x9 w13) := later BZ.out b13
  obtain ⟨t12, ht12⟩ : ∃ t12, t12 = w12.heap.size := ⟨_, rfl⟩
  rw [← ht12] at I13
  have ht12' := ht12.symm
  clear hw13 b13 hXT ht12
  go_upto_region 8 with (at_builtin; refine wpList_grow rfl _ _ rfl rfl x9.heap.size (fun _ => False) _ _ X [1, 2] rfl rfl GZ13.out I13.out ZZ.out (by rw [← HXN.out]; have := lX.out; simp; omega) XT HXT.out ?_)
  intro ta tc w14 htc gt bt
  clear hw13' ht12'
  have b914 : Below x9.heap.size x9 w14 := b913.out.trans bt
  have FT14 : Hid (IsF (fun _ => False) w14 (.slice ta XT.length tc) XT) := gt.isF (A := fun _ => False) (fun _ _ => id)
  have BT : Hid (Bytes XT ∧ (XT.length : Int) ≤ 4611686018427387904) := by
    refine ⟨?_, by rw [lT.out]; have := lX.out; omega⟩
    rw [← HXT.out]
    refine Bytes.append ?_ (fun z hz => by simp at hz; omega)
    rw [HXE.out]
    by_cases e : arE a = 0
    · exact (back_ar HA.out e [] Bytes.nil).2.2
    · have : arB a = [] := by unfold arE at e; unfold arB; split at e <;> simp_all
      rw [this]
      exact Bytes.nil
  have KT := hide (Decode_any FT14.out BT.out.1 BT.out.2)
  unfold DeEnd at KT
  obtain ⟨bk, hbk⟩ : ∃ bk, bk = deR XT := ⟨_, rfl⟩
  obtain ⟨iE, hiE⟩ : ∃ iE, iE = deE XT := ⟨_, rfl⟩
  rw [← hbk, ← hiE, show bk.val = .agg bk.vals.toArray from rfl] at KT
  have CASE : Hid (er = 0 → iE = 0 ∧ bk = a) := fun e => by
    have h0 : arE a = 0 := by rw [← HER.out]; exact e
    have h1 := back_ar HA.out h0 [1, 2] (fun z hz => by simp at hz; omega)
    rw [hiE, hbk, ← HXT.out, HXE.out]
    exact ⟨h1.1, h1.2.1⟩
  have C14 : Hid (CellsAt w14 s 0 a.vals) := C9.out.later (by have := Z9.out; omega) b914
  have P14 : Hid (CellsAt w14 s6 0 g.vals) := P9b.out.later Z9.out.2.1 b914
  have Q14 : Hid (CellsAt w14 s9 0 g.vals) := P9.out.later Z9.out.2.2 b914
  have B14 : Hid (Below w.heap.size w w14) := later B9.out b914
  have Z14 : Hid (s + 1 ≤ w14.heap.size ∧ s6 < w14.heap.size ∧ s9 < w14.heap.size) := by have := b914.size; have := Z9.out; unfold Hid; omega
  have GX14 := hide (GX9.out.later b914)
  have GY14 := hide (GY9.out.later b914)
  have FO14 := hide (FO9.out.later b914)
  clear C9 P9b P9 B9 Z9 GX9 GY9 FO9 FX9 GZ BZ I13 GZ13 ZZ b913 htc gt bt b914 hbk hiE
  go_wp2_with fail
  refine KT.out.mono ?_
  rintro _ w15 ⟨rfl, b15⟩
  obtain ⟨s15, hs15⟩ : ∃ s15, s15 = w15.heap.size := ⟨_, rfl⟩
  obtain ⟨u15, hu15⟩ : ∃ u15, u15 = w15.alloc (.cells zA.vals.toArray 27) := ⟨_, rfl⟩
  have C0 : Hid (CellsAt u15 s15 0 zA.vals) := by rw [hu15, hs15]; exact CellsAt.new w15 _ _
  have F0 : Hid (∀ y, u15.frozen? ⟨s15, y, none⟩ = false) := fun y => by rw [hu15, hs15]; exact frozen_new w15 _ _ _
  have bu : Below w15.heap.size w15 u15 := by rw [hu15]; exact (Below.refl _ _).alloc (Nat.le_refl _) _
  obtain ⟨x15, hx15⟩ : ∃ x15, x15 = u15.setCells s15 0 bk.vals := ⟨_, rfl⟩
  have bo := But.cells s15 bk.vals 0 u15
  rw [← hx15] at bo
  have bx : Below w15.heap.size w15 x15 := bu.trans (bo.below bu.size (fun q hq e => by have e : q = s15 := e; omega))
  have P15 : Hid (CellsAt x15 s15 0 bk.vals) := by rw [hx15]; exact C0.out.stored rfl
  have zs15 : s15 < x15.heap.size := by rw [hx15]; rw [size_setCells, hu15, hs15]; simp
  have hu' := hu15.symm
  simp only [zA, zM, zI, Ar.vals, M6.vals, I4.vals, List.cons_append, List.nil_append] at hu'
  have hs' := hs15.symm
  have hx' := hx15.symm
  clear hu15 hs15 hx15 bu bo
  have bb : Below w14.heap.size w14 x15 := later b15 bx
  have C16 : Hid (CellsAt x15 s 0 a.vals) := C14.out.later (by have := Z14.out; omega) bb
  have P16 : Hid (CellsAt x15 s6 0 g.vals) := P14.out.later Z14.out.2.1 bb
  have Q16 : Hid (CellsAt x15 s9 0 g.vals) := Q14.out.later Z14.out.2.2 bb
  have B16 : Hid (Below w.heap.size w x15) := later B14.out bb
  have GX16 := hide (GX14.out.later bb)
  have GY16 := hide (GY14.out.later bb)
  have FO16 := hide (FO14.out.later bb)
  clear C14 P14 Q14 B14 Z14 GX14 GY14 FO14 b15 bx bb KT zs15
  go_upto_region 8 with (refine wpList_storeA rfl 27 21 sizA _ _ rfl s15 0 rfl bk.vals zA.vals rfl rfl rfl C0.out F0.out (ar_one _) ?_)
  intro _
  try rw [hx']
  clear hu' hs' hx' C0 F0
  go_upto_region 8 with fail
  have t1 := conv_str GX16.out
  have t2 := conv_str GY16.out
  have t3 := conv_str FO16.out.isB
  have t4 := conv_str (HV.out.later B16.out).isB
  obtain ⟨sx, hsx⟩ : ∃ s, strB X = s := ⟨_, rfl⟩
  obtain ⟨sd, hsd⟩ : ∃ s, strB bs = s := ⟨_, rfl⟩
  rw [hsx] at t1 t2
  rw [hsd] at t3 t4
  clear hsx hsd
  have ee := eq_arE
  have en := eq_arN
  have eg := eq_arG
  have E01 : er = 0 ∨ er = 1 := by rw [HER.out]; unfold arE; split <;> simp
  rcases E01 with e1 | e1
  · obtain ⟨e2, e3⟩ := CASE.out e1
    subst e1
    subst e2
    subst e3
    clear CASE
    go_wp2_with (first | (refine wpList_loadAg 27 21 aggA sizA _ rfl s15 0 rfl _ rfl P15.out (by kernel_rfl) ?_) | (refine wpList_loadAg 27 21 aggA sizA _ rfl s 0 rfl _ rfl C16.out (by kernel_rfl) ?_) | (refine wpList_loadAg 27 21 aggA sizA _ rfl s6 0 rfl _ rfl P16.out (by kernel_rfl) ?_) | (refine wpList_loadAg 27 21 aggA sizA _ rfl s9 0 rfl _ rfl Q16.out (by kernel_rfl) ?_))
    go_ret
    exact ⟨rfl, B16.out⟩
  · subst e1
    clear CASE
    go_wp2_with (first | (refine wpList_loadAg 27 21 aggA sizA _ rfl s6 0 rfl _ rfl P16.out (by kernel_rfl) ?_) | (refine wpList_loadAg 27 21 aggA sizA _ rfl s9 0 rfl _ rfl Q16.out (by kernel_rfl) ?_))
    go_ret
    exact ⟨rfl, B16.out⟩
end Go.Proofs.Ytjaodjlgnclkhaa
