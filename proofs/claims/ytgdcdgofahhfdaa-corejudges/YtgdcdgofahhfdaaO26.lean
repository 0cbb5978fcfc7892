
/-
  CoreJudges: the walk.
-/
import Derived.Test.YtgdcdgofahhfdaaO25
namespace Go.Proofs.Ytgdcdgofahhfdaa
open Go.RowKit Go.Shelf

theorem exec_eqVd {o : Oper} {w : World} {ev : Operand → Value} (x y : Operand) (t : TypeId) (v : Vd) (ho : o.op = .binOp .eql 32 x y t) (hx : ev x = .agg v.cells.toArray) (hy : ev y = .agg v.cells.toArray) : (execOp ev o).run Try.prog w = .ok (.value (.bool true)) w := by
  unfold execOp
  simp [ho, hx, hy, go_sem, Vd.cells]
set_option maxRecDepth 100000 in
set_option maxHeartbeats 32000000 in
theorem judges_walk (c : Ct) (s : Sg) (gv dv : Value) (w : World) (hc : c.Ok) (hs : SgIn w s gv dv) :
    Calls Try.prog 3 #[.agg c.cells.toArray, .agg (s.cells gv dv).toArray] w fun e w' => e = .returned (.bool true) ∧ Below w.heap.size w w' := by
  obtain ⟨ga, gc, rfl⟩ := hs.got.shape
  obtain ⟨da, dc, rfl, _⟩ := hs.dat.shape
  obtain ⟨w1, w2, bcc, bss, hs1, hw1, hs2, hw2, u1, u2, n12, z1, b2⟩ := boxCS w c s (.slice ga s.got.length gc) (.slice da s.dat.length dc)
  rw [show (Value.agg c.cells.toArray) = .agg #[.int .i64 c.st, .int .u32 c.iss, .int .u32 c.una, .int .u32 c.nxt, .bool c.fs, .int .i64 c.wnd, .int .u32 c.wl1, .int .u32 c.wl2, .int .u32 c.irs, .int .u32 c.rcv, .int .u32 c.adv] from rfl]
  rw [show (Value.agg (s.cells (.slice ga s.got.length gc) (.slice da s.dat.length dc)).toArray) = .agg #[.int .i64 s.src, .int .i64 s.dst, .int .u32 s.seq, .int .u32 s.ack, .int .i64 s.flg, .int .i64 s.wnd, .int .i64 s.mss, .bool s.sak, .slice ga s.got.length gc, .slice da s.dat.length dc] from rfl]
  have BB := hide b2
  have HC := hide hc
  have HS := hide hs
  have ZBcc : Hid (w.heap.size ≤ bcc) := z1
  have ZBss : Hid (w.heap.size ≤ bss) := by unfold Hid; omega
  have D_cc_ss : Hid (bcc < bss) := n12
  obtain ⟨Xcc, hXcc⟩ : ∃ X, X = c.cells := ⟨_, rfl⟩
  have LXcc : Hid (Xcc.length = 11) := by rw [hXcc]; exact rfl
  have Ucc : Hid (Box w2 bcc Xcc) := by rw [hXcc]; exact u1
  have EXcc := hide hXcc
  clear hXcc
  obtain ⟨Xss, hXss⟩ : ∃ X, X = s.cells (.slice ga s.got.length gc) (.slice da s.dat.length dc) := ⟨_, rfl⟩
  have LXss : Hid (Xss.length = 10) := by rw [hXss]; exact rfl
  have Uss : Hid (Box w2 bss Xss) := by rw [hXss]; exact u2
  have EXss := hide hXss
  clear hXss
  have hs1' := hs1.symm
  have hw1' := hw1.symm
  have hs2' := hs2.symm
  have hw2' := hw2.symm
  clear hs1 hw1 hs2 hw2 u1 u2 n12 z1 b2 hc hs
  go_enter Try.func3, Try.ntmps3
  go_upto_region 1 with fail
  clear hs1' hw1' hs2' hw2'
  go_wp2_with fail
  refine (cAwake_any w2).mono ?_
  rintro _ wv1 ⟨rfl, bz⟩
  replace Ucc := hide (Ucc.out.later bz)
  replace Uss := hide (Uss.out.later bz)
  replace BB := hide (later BB.out bz)
  clear bz
  have UsO := hide Uss.out.1
  obtain ⟨Xow, hXow⟩ : ∃ X, X = s.cells (.slice ga s.got.length gc) (.slice da s.dat.length dc) := ⟨_, rfl⟩
  have LXow : Hid (Xow.length = 10) := by rw [hXow]; exact rfl
  have OXow : Hid (∀ u ∈ Xow, u.oneCell' = true) := by rw [hXow]; exact sg_one1 _ _ _ rfl rfl
  try rw [← hXow]
  obtain ⟨uv3, wv2, huow, hwow, cuow, fuow, ccow, bzow, lzow, ffow⟩ := newSg wv1 Xow LXow.out
  obtain ⟨bow, hbow⟩ : ∃ b, b = wv1.heap.size := ⟨_, rfl⟩
  rw [← hbow] at hwow cuow fuow ccow lzow ffow
  have EXow := hide hXow
  have D_cc_ow : Hid (bcc < bow) := by have h := Ucc.out.2.2; unfold Hid; omega
  have D_ss_ow : Hid (bss < bow) := by have h := Uss.out.2.2; unfold Hid; omega
  have ZBow : Hid (w.heap.size ≤ bow) := by have h := BB.out.size; unfold Hid; omega
  replace Ucc := hide (Ucc.out.later bzow)
  replace Uss := hide (Uss.out.later bzow)
  replace BB := hide (later BB.out bzow)
  have Uow : Hid (Box wv2 bow Xow) := ⟨ccow, ffow, lzow⟩
  have CUow := hide cuow
  have FUow := hide fuow
  have huow' := huow.symm
  simp only [zSg0, Sg.cells] at huow'
  have hwow' := hwow.symm
  have hbow' := hbow.symm
  clear hXow huow hwow cuow fuow ccow bzow lzow hbow ffow
  have EO : Xow = Xss := by rw [EXow.out, EXss.out]
  subst EO
  go_upto_region 3 with (first | refine wpList_loadA rfl 28 10 aggSg sizSg _ rfl bss 0 rfl Xow LXow.out UsO.out ?_ | (refine wpList_storeA rfl 28 10 sizSg _ _ rfl bow 0 rfl Xow (zSg0.cells (.slice none 0 0) (.slice none 0 0)) rfl LXow.out rfl CUow.out FUow.out OXow.out ?_; intro hcs; clear hcs; rw [hwow']))
  clear UsO
  clear huow' hwow' hbow' CUow FUow OXow
  have kd : wv2.cell? ⟨bss, 9, none⟩ = some (.slice da s.dat.length dc) := by have h := Uss.out.1; rw [EXss.out] at h; exact h 9 _ rfl
  have ID : Hid (IsB wv2.heap.size wv2 (.slice da s.dat.length dc) s.dat) := HS.out.dat.later BB.out
  have LD : Hid (([] : List Int).length + s.dat.length ≤ 140737488355328) := by have := HS.out.datl; unfold Hid; rw [List.length_nil]; omega
  have EL : Hid (([] : List Int) ++ s.dat = s.dat) := rfl
  have GN : Hid (Gro wv2.heap.size wv2 (.slice none 0 0) []) := Gro.nil _ _
  have NN : Hid (wv2.heap.size ≤ wv2.heap.size) := Nat.le_refl _
  have LOW : Hid (bow < wv2.heap.size) := Uow.out.2.2
  go_wp2_with (at_builtin; refine wpList_growB rfl (.const (.slice none 0 0)) (.tmp 11) rfl rfl wv2.heap.size (.slice none 0 0) _ [] s.dat rfl rfl GN.out ID.out NN.out LD.out s.dat EL.out ?_)
  intro a6 k6 w6 hc6 g6 b6
  have G6 := hide g6
  replace Ucc := hide (Ucc.out.later b6)
  replace Uss := hide (Uss.out.later b6)
  replace Uow := hide (Uow.out.later b6)
  replace BB := hide (later BB.out b6)
  clear hc6 g6 b6 kd ID LD EL GN NN
  obtain ⟨vo, so⟩ : ∃ v, w6.cell? ⟨bow, 9, none⟩ = some v := by have h := Uow.out.1 9 _ (List.getElem?_eq_getElem (by rw [LXow.out]; decide)); rw [Nat.zero_add] at h; exact ⟨_, h⟩
  have fo := Uow.out.2.1 9
  obtain ⟨wv4, hwo⟩ : ∃ w1, w1 = w6.setCell ⟨bow, 9, none⟩ (.slice a6 s.dat.length k6) := ⟨_, rfl⟩
  have bo : But (Only bow) w6 wv4 := by rw [hwo]; exact (But.refl (Only bow) w6).setOf (b := bow) rfl 9 _
  obtain ⟨Y5, hY⟩ : ∃ X, X = s.cells (.slice ga s.got.length gc) (.slice a6 s.dat.length k6) := ⟨_, rfl⟩
  have LY : Hid (Y5.length = 10) := by rw [hY]; exact rfl
  have U1 : Hid (Box wv4 bow Y5) := by rw [hwo, hY]; have h := Uow.out.one (k := 9) (by rw [LXow.out]; decide) (.slice a6 s.dat.length k6); rw [EXow.out] at h; exact h
  replace Ucc := hide (Ucc.out.but bo (fun e => by have e : bcc = bow := e; have := D_cc_ow.out; omega))
  replace Uss := hide (Uss.out.but bo (fun e => by have e : bss = bow := e; have := D_ss_ow.out; omega))
  replace BB : Hid (Below w.heap.size w wv4) := BB.out.trans (bo.below BB.out.size (fun g hg e => by have e : g = bow := e; have := ZBow.out; omega))
  have EY := hide hY
  have hwo' := hwo.symm
  clear hwo bo hY Uow LXow EXow
  have G7 : Hid (Gro wv2.heap.size wv4 (.slice a6 s.dat.length k6) s.dat) := by
    have bo2 : But (Only bow) w6 wv4 := by rw [← hwo']; exact (But.refl (Only bow) w6).setOf (b := bow) rfl 9 _
    exact G6.out.off bo2 (fun g x y e e2 => by have := (G6.out.lies g x y e).1; have := LOW.out; omega)
  go_upto_region 4 with fail
  clear hwo' so fo
  try clear vo
  try clear Xow
  obtain ⟨Xow, hXX⟩ : ∃ X, X = Y5 := ⟨_, rfl⟩
  subst hXX
  have Uow := U1
  have LXow := LY
  have EXow := EY
  clear U1 LY EY
  clear G6 LOW
  have G8 := G7
  have JD := Judge_any (gv := .slice ga s.got.length gc) (da := a6) (dc := k6) (s := s) c rfl (by have := HS.out.datl; omega) wv4
  rw [← EXcc.out, ← EXow.out] at JD
  have HJD := hide JD
  clear JD
  go_wp2_with (first | refine wpList_loadA rfl 24 11 aggCt sizCt _ rfl bcc 0 rfl Xcc LXcc.out Ucc.out.1 ?_ | refine wpList_loadA rfl 28 10 aggSg sizSg _ rfl bow 0 rfl Xow LXow.out Uow.out.1 ?_)
  refine HJD.out.mono ?_
  rintro _ wv6 ⟨rfl, bz⟩
  replace Ucc := hide (Ucc.out.later bz)
  replace Uss := hide (Uss.out.later bz)
  replace Uow := hide (Uow.out.later bz)
  replace G8 := hide (G8.out.later bz)
  replace BB := hide (later BB.out bz)
  clear bz
  clear HJD
  obtain ⟨Xv, hXv⟩ : ∃ X, X = (judge c s).cells := ⟨_, rfl⟩
  have LXv : Hid (Xv.length = 18) := by rw [hXv]; exact rfl
  have OXv : Hid (∀ u ∈ Xv, u.oneCell' = true) := by rw [hXv]; exact vd_one _
  try rw [← hXv]
  obtain ⟨uv8, wv7, huv, hwv, cuv, fuv, ccv, bzv, lzv, ffv⟩ := newVd wv6 Xv LXv.out
  obtain ⟨bv, hbv⟩ : ∃ b, b = wv6.heap.size := ⟨_, rfl⟩
  rw [← hbv] at hwv cuv fuv ccv lzv ffv
  have EXv := hide hXv
  have D_cc_v : Hid (bcc < bv) := by have h := Ucc.out.2.2; unfold Hid; omega
  have D_ss_v : Hid (bss < bv) := by have h := Uss.out.2.2; unfold Hid; omega
  have D_ow_v : Hid (bow < bv) := by have h := Uow.out.2.2; unfold Hid; omega
  have ZBv : Hid (w.heap.size ≤ bv) := by have h := BB.out.size; unfold Hid; omega
  replace Ucc := hide (Ucc.out.later bzv)
  replace Uss := hide (Uss.out.later bzv)
  replace Uow := hide (Uow.out.later bzv)
  replace G8 := hide (G8.out.later bzv)
  replace BB := hide (later BB.out bzv)
  have Uv : Hid (Box wv7 bv Xv) := ⟨ccv, ffv, lzv⟩
  have CUv := hide cuv
  have FUv := hide fuv
  have huv' := huv.symm
  simp only [zVdL, zVd, zCt, Vd.cells] at huv'
  have hwv' := hwv.symm
  have hbv' := hbv.symm
  clear hXv huv hwv cuv fuv ccv bzv lzv hbv ffv
  go_upto_region 5 with (refine wpList_storeA rfl 32 18 sizVd _ _ rfl bv 0 rfl Xv zVdL rfl LXv.out rfl CUv.out FUv.out OXv.out ?_; intro hcs; clear hcs; rw [hwv'])
  clear huv' hwv' hbv' CUv FUv OXv
  have t1 : ∀ W, Below wv7.heap.size wv7 W → IsB W.heap.size W (.slice a6 s.dat.length k6) s.dat := fun W hW => (G8.out.later hW).isB
  have t2 : ∀ W, Below wv7.heap.size wv7 W → IsB W.heap.size W (.slice da s.dat.length dc) s.dat := fun W hW => HS.out.dat.later (later BB.out hW)
  simp only [Act.put]
  refine region_quiet_C (fun W => Below wv7.heap.size wv7 W) (by kernel_rfl) (by kernel_rfl) (later_drew _) ?_
  go_big_quiet_step (fail)
  go_big_quiet_step (fail)
  go_big_quiet_want
  refine quiet_pure (.agg ((judge c s).cells).toArray) (fun W hW => exec_loadA 32 18 aggVd sizVd _ rfl bv 0 rfl ((judge c s).cells) rfl (by have h := (Uv.out.later hW).1; rw [EXv.out] at h; exact h)) ?_
  go_big_quiet_on
  simp only [Act.put, List.setIfInBounds_toArray, List.set_cons_succ, List.set_cons_zero]
  go_big_quiet_want
  refine quiet_pure (.agg (c.cells).toArray) (fun W hW => exec_loadA 24 11 aggCt sizCt _ rfl bcc 0 rfl (c.cells) rfl (by have h := (Ucc.out.later hW).1; rw [EXcc.out] at h; exact h)) ?_
  go_big_quiet_on
  simp only [Act.put, List.setIfInBounds_toArray, List.set_cons_succ, List.set_cons_zero]
  go_big_quiet_want
  refine quiet_pure (.agg (s.cells (.slice ga s.got.length gc) (.slice da s.dat.length dc)).toArray) (fun W hW => exec_loadA 28 10 aggSg sizSg _ rfl bss 0 rfl (s.cells (.slice ga s.got.length gc) (.slice da s.dat.length dc)) rfl (by have h := (Uss.out.later hW).1; rw [EXss.out] at h; exact h)) ?_
  go_big_quiet_on
  simp only [Act.put, List.setIfInBounds_toArray, List.set_cons_succ, List.set_cons_zero]
  go_big_quiet_want
  refine quiet_call 11 #[.agg c.cells.toArray, .agg (s.cells (.slice ga s.got.length gc) (.slice da s.dat.length dc)).toArray] (.agg (judge c s).cells.toArray) (fun _ => by simp [Act.eval, go_sem]) (fun W hW => (rJudge_any HC.out HS.out.ok rfl HS.out.datl W).mono fun e w' h => ⟨h.1, later hW h.2⟩) ?_
  go_big_quiet_on
  simp only [Act.put, List.setIfInBounds_toArray, List.set_cons_succ, List.set_cons_zero]
  go_big_quiet_want
  refine quiet_pure (.bool true) (fun W hW => exec_eqVd _ _ _ _ rfl rfl rfl) ?_
  go_big_quiet_on
  simp only [Act.put, List.setIfInBounds_toArray, List.set_cons_succ, List.set_cons_zero]
  go_big_quiet_want
  refine quiet_pure (.bool true) (fun W hW => exec_pick _ _ _ true _ rfl rfl rfl) ?_
  go_big_quiet_on
  simp only [Act.put, List.setIfInBounds_toArray, List.set_cons_succ, List.set_cons_zero]
  go_big_quiet_step (fail)
  go_big_quiet_want
  refine quiet_pure (.pointer (some ⟨bow, 9, none⟩)) (fun W hW => exec_fieldO 28 _ 9 bow 0 9 rfl rfl (fun w => by kernel_rfl)) ?_
  go_big_quiet_on
  simp only [Act.put, List.setIfInBounds_toArray, List.set_cons_succ, List.set_cons_zero]
  go_big_quiet_want
  refine quiet_pure (.slice a6 s.dat.length k6) (fun W hW => exec_load1 26 oneS _ rfl bow 9 rfl (.slice a6 s.dat.length k6) (by have h := (Uow.out.later hW).1; rw [EXow.out] at h; exact h 9 _ rfl)) ?_
  go_big_quiet_on
  simp only [Act.put, List.setIfInBounds_toArray, List.set_cons_succ, List.set_cons_zero]
  go_big_quiet_want
  refine quiet_pure (.string (strB s.dat)) (fun W hW => exec_str _ _ s.dat rfl rfl (t1 W hW)) ?_
  go_big_quiet_on
  simp only [Act.put, List.setIfInBounds_toArray, List.set_cons_succ, List.set_cons_zero]
  go_big_quiet_want
  refine quiet_pure (.pointer (some ⟨bss, 9, none⟩)) (fun W hW => exec_fieldO 28 _ 9 bss 0 9 rfl rfl (fun w => by kernel_rfl)) ?_
  go_big_quiet_on
  simp only [Act.put, List.setIfInBounds_toArray, List.set_cons_succ, List.set_cons_zero]
  go_big_quiet_want
  refine quiet_pure (.slice da s.dat.length dc) (fun W hW => exec_load1 26 oneS _ rfl bss 9 rfl (.slice da s.dat.length dc) (by have h := (Uss.out.later hW).1; rw [EXss.out] at h; exact h 9 _ rfl)) ?_
  go_big_quiet_on
  simp only [Act.put, List.setIfInBounds_toArray, List.set_cons_succ, List.set_cons_zero]
  go_big_quiet_want
  refine quiet_pure (.string (strB s.dat)) (fun W hW => exec_str _ _ s.dat rfl rfl (t2 W hW)) ?_
  go_big_quiet_on
  simp only [Act.put, List.setIfInBounds_toArray, List.set_cons_succ, List.set_cons_zero]
  go_big_quiet_want
  refine quiet_pure (.bool true) (fun W hW => exec_eqs _ _ _ _ rfl rfl rfl) ?_
  go_big_quiet_on
  simp only [Act.put, List.setIfInBounds_toArray, List.set_cons_succ, List.set_cons_zero]
  go_big_quiet_want
  refine quiet_pure (.bool true) (fun W hW => exec_pick _ _ _ true _ rfl rfl rfl) ?_
  go_big_quiet_on
  simp only [Act.put, List.setIfInBounds_toArray, List.set_cons_succ, List.set_cons_zero]
  go_big_quiet_step (fail)
  refine wpQuiet_nil ?_
  intro wq bq
  have BQ := hide (later BB.out bq)
  clear bq t1 t2
  go_wp2
  go_ret
  exact ⟨rfl, BQ.out⟩
end Go.Proofs.Ytgdcdgofahhfdaa
