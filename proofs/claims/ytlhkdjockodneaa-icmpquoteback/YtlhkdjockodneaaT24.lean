
/-
  IcmpQuotes: the walk.
-/
import Derived.Test.YtlhkdjockodneaaT23
import Derived.Test.YtlhkdjockodneaaT19
namespace Go.Proofs.Ytlhkdjockodneaa
open Go.RowKit Go.Shelf

theorem exec_eqQ {o : Oper} {w : World} {ev : Operand → Value} (x y : Operand) (t : TypeId) (X : List Value) (q : Qu) (ho : o.op = .binOp .eql 38 x y t) (hx : ev x = .agg X.toArray) (hy : ev y = .agg X.toArray) (hX : X = q.cells) : (execOp ev o).run Try.prog w = .ok (.value (.bool true)) w := by
  subst hX
  obtain ⟨⟨i0, i1, i2, i3⟩, ⟨j0, j1, j2, j3⟩, p, s, d, n⟩ := q
  have EI := eq_ip
  have m3 : eqI ⟨i0, i1, i2, i3⟩ ⟨i0, i1, i2, i3⟩ = true := eqI_self _
  have m4 : eqI ⟨j0, j1, j2, j3⟩ ⟨j0, j1, j2, j3⟩ = true := eqI_self _
  unfold execOp
  simp [ho, hx, hy, Qu.cells, I4.vals, go_sem, EI, m3, m4]
section
variable {ops : Array Oper} {rest : List Oper} {o : Oper} {a : Act} {w : World} {Q : Exit → Act → World → Prop}
/-- an operation that was asked for -/
theorem wpList_valg (v : Value) (hw : Region.wanted o (yielded ops a.tmps) = true) (hrun : (execOp a.eval o).run Try.prog w = .ok (.value v) w) (h : wpList Try.prog ops Q rest (a.put o.dst v) w) : wpList Try.prog ops Q (o :: rest) a w := by
  refine wpList_step fun K hK => ?_
  rw [if_pos hw]
  unfold Oper.wp
  rw [hrun]
  exact hK _ _ h
theorem wpList_loadAg (T : TypeId) (n : Nat) (hag : ∀ W, (isAgg T).run Try.prog W = .ok true W) (hsz : ∀ W, (Go.sizeOf T).run Try.prog W = .ok n W) (x : Operand) (ho : o.op = .load T x)
    (s k : Nat) (hx : a.eval x = .pointer (some ⟨s, k, none⟩)) (vs : List Value) (hl : vs.length = n) (hg : CellsAt w s k vs) (hw : Region.wanted o (yielded ops a.tmps) = true)
    (h : wpList Try.prog ops Q rest (a.put o.dst (.agg vs.toArray)) w) : wpList Try.prog ops Q (o :: rest) a w := by
  refine wpList_step fun K hK => ?_
  rw [if_pos hw]
  unfold Oper.wp execOp
  have hg' := hg.loads
  rw [hl] at hg'
  simp only [ho, hx, Instr.loadAt, Instr.sureAddr, loadVar, Sem.run_bind, Sem.run_pure, Result.andThen_ok, hag, hsz, if_true, hg']
  exact hK _ _ h
end
theorem qtL_len (bs : List Int) (hB : Bytes bs) : (qtL bs).length ≤ 68 := by
  have := hsI_bd hB
  unfold qtL qtN
  rw [List.length_take]
  omega
set_option maxRecDepth 100000 in
set_option maxHeartbeats 16000000 in
theorem Quotes_walk (pv : Value) (p : List Int) (bv : Value) (b : List Int) (w : World) (hp : IsB w.heap.size w pv p) (hP : Bytes p) (lp : p.length ≤ 140737488351232) (hb : IsB w.heap.size w bv b) (hB : Bytes b) (lb : b.length ≤ 140737488351232) :
    Calls Try.prog 4 #[pv, bv] w fun e w' => e = .returned (.bool true) ∧ Below w.heap.size w w' := by
  obtain ⟨pa, pc, rfl, _⟩ := hp.shape
  obtain ⟨ba, bc, rfl, _⟩ := hb.shape
  obtain ⟨pn, hpn⟩ : ∃ pn, pn = p.length := ⟨_, rfl⟩
  obtain ⟨bn, hbn⟩ : ∃ bn, bn = b.length := ⟨_, rfl⟩
  have PB := hide hP
  have BB := hide hB
  have LP := hide lp
  have LB := hide lb
  rw [← hpn] at hp ⊢
  rw [← hbn] at hb ⊢
  have HPN := hide hpn
  have HBN := hide hbn
  have HP0 := hide hp
  have HB0 := hide hb
  clear hp hb hP hB hpn hbn lp lb
  go_enter Try.func4, Try.ntmps4
  go_wp2_with fail
  refine (icAwake_any w).mono ?_
  rintro _ w2 ⟨rfl, b2⟩
  have B2 := hide b2
  clear b2
  -- own
  have IB2 := hide (HP0.out.later B2.out)
  have LD2 : Hid (([] : List Int).length + p.length ≤ 140737488355328) := by unfold Hid; have := LP.out; simp; omega
  have EL2 : Hid (([] : List Int) ++ p = p) := rfl
  have GN2 : Hid (Gro w2.heap.size w2 (.slice none 0 0) []) := Gro.nil _ _
  have NN2 : Hid (w2.heap.size ≤ w2.heap.size) := Nat.le_refl _
  go_wp2_with (at_builtin; refine wpList_growB rfl (.const (.slice none 0 0)) (.tmp 16) rfl rfl w2.heap.size (.slice none 0 0) _ [] p rfl rfl GN2.out IB2.out NN2.out LD2.out p EL2.out ?_)
  intro oa oc w3 hc3 g3 b3
  rw [← HPN.out] at hc3 g3 ⊢
  have B3 := hide (later B2.out b3)
  have QC := hide (icQuoting_any (.slice oa pn oc) p w3 g3.isB PB.out (by have := LP.out; omega))
  have G3 := hide g3
  have OWN : Hid (∀ g x y, (.slice oa pn oc : Value) = .slice (some ⟨g, 0, none⟩) x y → g < w3.heap.size) := fun g x y e => (g3.lies g x y e).2
  clear hc3 g3 b3 IB2 LD2 EL2 GN2 NN2
  go_wp2_with fail
  refine QC.out.mono ?_
  rintro _ w4 ⟨xv, rfl, g4, b4⟩
  obtain ⟨xa, xc, rfl, _⟩ := g4.isB.shape
  obtain ⟨L, hL⟩ : ∃ L, L = qtL p := ⟨_, rfl⟩
  have L68 : L.length ≤ 68 := by rw [hL]; exact qtL_len p PB.out
  obtain ⟨xn, hxn⟩ : ∃ xn, xn = (qtL p).length := ⟨_, rfl⟩
  rw [← hxn] at g4 ⊢
  have xz : (xn : Int) ≤ 68 := by rw [hxn, ← hL]; omega
  have B4 := hide (later B3.out b4)
  have Z34 : Hid (w3.heap.size ≤ w4.heap.size) := b4.size
  have G4 := hide (G3.out.later b4)
  have X4 := hide g4
  have HXN := hide hxn
  have RQ := hide (rQuoting_any (.slice pa pn pc) p w4 (HP0.out.later B4.out) PB.out (by have := LP.out; omega))
  have XLI : Hid (∀ g x y, (.slice xa xn xc : Value) = .slice (some ⟨g, 0, none⟩) x y → w3.heap.size ≤ g ∧ g < w4.heap.size) := fun g x y e => g4.lies g x y e
  clear g4 b4 hxn hL L68 QC
  go_wp2_with fail
  refine RQ.out.mono ?_
  rintro _ wz ⟨yv, rfl, i5, e⟩
  subst e
  obtain ⟨ya, yc, rfl, _⟩ := i5.shape
  rw [← HXN.out] at i5 ⊢
  have t1 := conv_str X4.out.isB
  have t2 := conv_str i5
  obtain ⟨S1, hS1⟩ : ∃ S1, S1 = strB (qtL p) := ⟨_, rfl⟩
  rw [← hS1] at t1 t2
  clear hS1 i5 RQ
  obtain ⟨w4, hw4⟩ : ∃ w4, w4 = wz := ⟨_, rfl⟩
  rw [← hw4] at t1 t2 B4 Z34 G4 X4 XLI ⊢
  clear hw4
  go_upto_region 6 with fail
  clear t1 t2
  go_wp2
  have B3z : Hid (w.heap.size ≤ w3.heap.size) := B3.out.size
  go_loopw [10] (fun vi wr => ∃ (k : Nat) (Z : List Int), vi = .int .i64 (k : Int) ∧ k ≤ xn ∧ Hid (Z.length = xn) ∧ Hid (Gro w3.heap.size wr (.slice xa xn xc) Z) ∧ Hid (But (fun g => w3.heap.size ≤ g ∧ g < w4.heap.size) w4 wr)) (fun vi _ => xn - (intOf vi).toNat)
  case atStart => exact ⟨0, qtL p, rfl, Nat.zero_le _, HXN.out.symm, X4.out, But.refl _ _⟩
  case round =>
    obtain ⟨k, Z, rfl, hk, hZ, GZ, Bt⟩ := hrel
    by_cases hlt : k < xn
    · obtain ⟨qq, rfl, hq, hc, hf⟩ := GZ.out.block (by rw [hZ.out]; omega)
      have c9 := hc k (by rw [hZ.out]; exact hlt)
      have f9 := hf k
      have HQQ := hide (XLI.out qq _ _ rfl)
      obtain ⟨z, ez⟩ : ∃ z, Z[k]?.getD 0 = z := ⟨_, rfl⟩
      rw [ez] at c9
      clear ez hc hf hq hk
      go_wp2
      go_roundw
      case rel => exact ⟨k + 1, Z.set k ((z + 1) % 256), by go_num, by omega, by show _ = _; rw [List.length_set]; exact hZ.out, GZ.out.store hZ.out.symm k _, Bt.out.setCell (p := ⟨qq, k, none⟩) (.inr HQQ.out) _⟩
      case measure => simp [intOf]; omega
    · obtain ⟨w5, hw5⟩ : ∃ w5, w5 = wr := ⟨_, rfl⟩
      rw [← hw5] at Bt ⊢
      have GO := hide (G4.out.away Bt.out (fun g x y e k => by have := OWN.out g x y e; have := k.1; omega))
      have B5 := hide (B4.out.trans (Bt.out.below B4.out.size (fun g hg e => by have := e.1; have := B3z.out; omega)))
      have kz : ¬ (k : Int) < (xn : Int) := by omega
      clear GZ Bt hZ hlt hk hw5
      have CQ := hide (icQuoted_any (.slice ba bn bc) b w5 (HB0.out.later B5.out) BB.out (by have := LB.out; omega))
      go_wp2_with fail
      refine CQ.out.mono ?_
      rintro _ w6 ⟨rfl, b6⟩
      obtain ⟨X, hX⟩ : ∃ X, X = (quV b).cells := ⟨_, rfl⟩
      obtain ⟨E, hE⟩ : ∃ E, E = quE b := ⟨_, rfl⟩
      rw [← hX, ← hE]
      have LX : Hid (X.length = 12) := by rw [hX]; exact rfl
      have OX : Hid (∀ u ∈ X, u.oneCell' = true) := by rw [hX]; exact qu_one _
      have HX := hide hX
      have HE := hide hE
      obtain ⟨u7, w7, hu7, hw7, cu7, fu7, c7, b7, l7⟩ := newQ w6 X LX.out
      obtain ⟨s11, hs11⟩ : ∃ s11, s11 = w6.heap.size := ⟨_, rfl⟩
      rw [← hs11] at hw7 cu7 fu7 c7 l7
      have CU := hide cu7
      have FU := hide fu7
      have b57 := later b6 b7
      have B7 := hide (later B5.out b57)
      have G7 := hide (GO.out.later b57)
      have C7 := hide c7
      have RQ2 := rQuoted_any (.slice ba bn bc) b w7 (HB0.out.later B7.out) BB.out (by have := LB.out; omega)
      rw [← hX, ← hE] at RQ2
      have HRQ := hide RQ2
      have hu7' := hu7.symm
      simp only [zQ, Qu.cells, zI, I4.vals, List.cons_append, List.nil_append] at hu7'
      have hs11' := hs11.symm
      have hw7' := hw7.symm
      clear hX hE hu7 hw7 cu7 fu7 c7 b7 b6 b57 hs11 RQ2 CQ
      go_upto_region 11 with (refine wpList_storeA rfl 38 12 sizQ _ _ rfl s11 0 rfl X zQ.cells rfl LX.out rfl CU.out FU.out OX.out ?_; intro _; rw [hw7'])
      clear hu7' hw7' hs11' CU FU
      go_wp2_with fail
      refine HRQ.out.mono ?_
      rintro _ w8 ⟨rfl, b8⟩
      obtain ⟨u9, w9, hu9, hw9, cu9, fu9, c9, b9, l9⟩ := newQ w8 X LX.out
      obtain ⟨s13, hs13⟩ : ∃ s13, s13 = w8.heap.size := ⟨_, rfl⟩
      rw [← hs13] at hw9 cu9 fu9 c9 l9
      have CU := hide cu9
      have FU := hide fu9
      have b89 := later b8 b9
      have B9 := hide (later B7.out b89)
      have G9 := hide (G7.out.later b89)
      have C9 := hide c9
      have C9a := hide (C7.out.later l7 b89)
      have l9a : s11 < w9.heap.size := Nat.lt_of_lt_of_le l7 b89.size
      have hu9' := hu9.symm
      simp only [zQ, Qu.cells, zI, I4.vals, List.cons_append, List.nil_append] at hu9'
      have hs13' := hs13.symm
      have hw9' := hw9.symm
      clear hu9 hw9 cu9 fu9 c9 b9 b8 b89 hs13 HRQ
      go_upto_region 12 with (refine wpList_storeA rfl 38 12 sizQ _ _ rfl s13 0 rfl X zQ.cells rfl LX.out rfl CU.out FU.out OX.out ?_; intro _; rw [hw9'])
      clear hu9' hw9' hs13' CU FU
      have t1 := conv_str G9.out.isB
      have t2 := conv_str (HP0.out.later B9.out)
      obtain ⟨S2, hS2⟩ : ∃ S2, S2 = strB p := ⟨_, rfl⟩
      rw [← hS2] at t1 t2
      clear hS2
      go_wp2_with (first | refine wpList_loadAg 38 12 aggQ sizQ _ rfl s11 0 rfl X LX.out C9a.out (by kernel_rfl) ?_ | refine wpList_loadAg 38 12 aggQ sizQ _ rfl s13 0 rfl X LX.out C9.out (by kernel_rfl) ?_ | refine wpList_valg (.bool true) (by kernel_rfl) (exec_eqQ _ _ _ X (quV b) rfl rfl rfl HX.out) ?_)
      go_ret
      exact ⟨rfl, B9.out⟩
end Go.Proofs.Ytlhkdjockodneaa
