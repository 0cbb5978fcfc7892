
/-
  CoreBegins: the walk.
-/
import Derived.Test.YtgdcdgofahhfdaaO13
import Derived.Test.YtgdcdgofahhfdaaORow
namespace Go.Proofs.Ytgdcdgofahhfdaa
open Go.RowKit Go.Shelf

section
variable {o : Oper} {w : World} {ev : Operand → Value}
theorem exec_eqCt (x y : Operand) (t : TypeId) (c : Ct) (ho : o.op = .binOp .eql 24 x y t) (hx : ev x = .agg c.cells.toArray) (hy : ev y = .agg c.cells.toArray) : (execOp ev o).run Try.prog w = .ok (.value (.bool true)) w := by
  unfold execOp
  simp [ho, hx, hy, go_sem, Ct.cells]
theorem exec_eqEr (x y : Operand) (t : TypeId) (a b : Int) (r : Bool) (ho : o.op = .binOp .eql 30 x y t) (hx : ev x = .int .i64 a) (hy : ev y = .int .i64 b) (hr : decide (a = b) = r) : (execOp ev o).run Try.prog w = .ok (.value (.bool r)) w := by
  subst hr
  unfold execOp
  simp [ho, hx, hy, go_sem]
  rfl
end
/-- the blocks of a connection and of a segment that came in -/
theorem boxCS (w : World) (c : Ct) (s : Sg) (gv dv : Value) : ∃ w1 w2 b1 b2, b1 = w.heap.size ∧ w1 = w.alloc (.cells #[.int .i64 c.st, .int .u32 c.iss, .int .u32 c.una, .int .u32 c.nxt, .bool c.fs, .int .i64 c.wnd, .int .u32 c.wl1, .int .u32 c.wl2, .int .u32 c.irs, .int .u32 c.rcv, .int .u32 c.adv] 24) ∧ b2 = w1.heap.size ∧ w2 = w1.alloc (.cells #[.int .i64 s.src, .int .i64 s.dst, .int .u32 s.seq, .int .u32 s.ack, .int .i64 s.flg, .int .i64 s.wnd, .int .i64 s.mss, .bool s.sak, gv, dv] 28) ∧ Box w2 b1 c.cells ∧ Box w2 b2 (s.cells gv dv) ∧ b1 < b2 ∧ w.heap.size ≤ b1 ∧ Below w.heap.size w w2 := by
  obtain ⟨w1, b1, h1, hw1, c1, f1, B1, l1⟩ := boxC w c
  obtain ⟨w2, b2, h2, hw2, c2, f2, B2, l2⟩ := boxS w1 s gv dv
  exact ⟨w1, w2, b1, b2, h1, hw1, h2, hw2, Box.later (W := w1) ⟨c1, f1, l1⟩ B2, ⟨c2, f2, l2⟩, by omega, by omega, later B1 B2⟩
set_option maxRecDepth 100000 in
set_option maxHeartbeats 16000000 in
theorem begins_walk (c : Ct) (s : Sg) (gv dv : Value) (now : Int) (w : World) (hc : c.Ok) (hs : SgIn w s gv dv) (_ : -9223372036854775808 ≤ now) (_ : now ≤ 9223372036854775807) :
    Calls Try.prog 4 #[.agg c.cells.toArray, .agg (s.cells gv dv).toArray, .int .i64 now] w fun e w' => e = .returned (.bool true) ∧ Below w.heap.size w w' := by
  obtain ⟨ga, gc, rfl⟩ := hs.got.shape
  obtain ⟨da, dc, rfl, _⟩ := hs.dat.shape
  obtain ⟨w1, w2, bcc, bss, hs1, hw1, hs2, hw2, u1, u2, n12, z1, b2⟩ := boxCS w c s (.slice ga s.got.length gc) (.slice da s.dat.length dc)
  rw [show (Value.agg c.cells.toArray) = .agg #[.int .i64 c.st, .int .u32 c.iss, .int .u32 c.una, .int .u32 c.nxt, .bool c.fs, .int .i64 c.wnd, .int .u32 c.wl1, .int .u32 c.wl2, .int .u32 c.irs, .int .u32 c.rcv, .int .u32 c.adv] from rfl]
  rw [show (Value.agg (s.cells (.slice ga s.got.length gc) (.slice da s.dat.length dc)).toArray) = .agg #[.int .i64 s.src, .int .i64 s.dst, .int .u32 s.seq, .int .u32 s.ack, .int .i64 s.flg, .int .i64 s.wnd, .int .i64 s.mss, .bool s.sak, .slice ga s.got.length gc, .slice da s.dat.length dc] from rfl]
  have BB := hide b2
  have HC := hide hc
  have ZBcc : Hid (w.heap.size ≤ bcc) := z1
  have D_cc_ss : Hid (bcc < bss) := n12
  obtain ⟨Xcc, hXcc⟩ : ∃ X, X = c.cells := ⟨_, rfl⟩
  have LXcc : Hid (Xcc.length = 11) := by rw [hXcc]; exact rfl
  have Ucc : Hid (Box w2 bcc Xcc) := by rw [hXcc]; exact u1
  have EXcc := hide hXcc
  clear hXcc
  obtain ⟨Xss, hXss⟩ : ∃ X, X = s.cells (.slice ga s.got.length gc) (.slice da s.dat.length dc) := ⟨_, rfl⟩
  have LXss : Hid (Xss.length = 10) := by rw [hXss]; exact rfl
  have Uss : Hid (Box w2 bss Xss) := by rw [hXss]; exact u2
  have EXss := hide hXss
  clear hXss
  have hs1' := hs1.symm
  have hw1' := hw1.symm
  have hs2' := hs2.symm
  have hw2' := hw2.symm
  clear hs1 hw1 hs2 hw2 u1 u2 n12 z1 b2 hc hs
  go_enter Try.func4, Try.ntmps4
  go_upto_region 1 with fail
  clear hs1' hw1' hs2' hw2'
  go_wp2_with fail
  refine (cAwake_any w2).mono ?_
  rintro _ wv1 ⟨rfl, bz⟩
  replace Ucc := hide (Ucc.out.later bz)
  replace Uss := hide (Uss.out.later bz)
  replace BB := hide (later BB.out bz)
  clear bz
  have CN := Passive_any s (.slice ga s.got.length gc) (.slice da s.dat.length dc) now wv1
  rw [← EXss.out] at CN
  have HCN := hide CN
  clear CN
  go_wp2_with (refine wpList_loadA rfl 28 10 aggSg sizSg _ rfl bss 0 rfl Xss LXss.out Uss.out.1 ?_)
  refine HCN.out.mono ?_
  rintro _ wv2 ⟨rfl, bz⟩
  replace Ucc := hide (Ucc.out.later bz)
  replace Uss := hide (Uss.out.later bz)
  replace BB := hide (later BB.out bz)
  clear bz
  clear HCN
  obtain ⟨Xp, hXp⟩ : ∃ X, X = (pasC s now).cells := ⟨_, rfl⟩
  have LXp : Hid (Xp.length = 11) := by rw [hXp]; exact rfl
  have OXp : Hid (∀ u ∈ Xp, u.oneCell' = true) := by rw [hXp]; exact ct_one _
  try rw [← hXp]
  obtain ⟨uv4, wv3, hup, hwp, cup, fup, ccp, bzp, lzp, ffp⟩ := newCt wv2 Xp LXp.out
  obtain ⟨bp, hbp⟩ : ∃ b, b = wv2.heap.size := ⟨_, rfl⟩
  rw [← hbp] at hwp cup fup ccp lzp ffp
  have EXp := hide hXp
  have D_cc_p : Hid (bcc < bp) := by have h := Ucc.out.2.2; unfold Hid; omega
  have D_ss_p : Hid (bss < bp) := by have h := Uss.out.2.2; unfold Hid; omega
  have ZBp : Hid (w.heap.size ≤ bp) := by have h := BB.out.size; unfold Hid; omega
  replace Ucc := hide (Ucc.out.later bzp)
  replace Uss := hide (Uss.out.later bzp)
  replace BB := hide (later BB.out bzp)
  have Up : Hid (Box wv3 bp Xp) := ⟨ccp, ffp, lzp⟩
  have CUp := hide cup
  have FUp := hide fup
  have hup' := hup.symm
  simp only [zCtL, zCt, Ct.cells] at hup'
  have hwp' := hwp.symm
  have hbp' := hbp.symm
  clear hXp hup hwp cup fup ccp bzp lzp hbp ffp
  go_upto_region 3 with (refine wpList_storeA rfl 24 11 sizCt _ _ rfl bp 0 rfl Xp zCtL rfl LXp.out rfl CUp.out FUp.out OXp.out ?_; intro _; rw [hwp'])
  clear hup' hwp' hbp' CUp FUp OXp
  have CN := rPassive_any s (.slice ga s.got.length gc) (.slice da s.dat.length dc) now wv3
  rw [← EXss.out] at CN
  have HCN := hide CN
  clear CN
  go_wp2_with (refine wpList_loadA rfl 28 10 aggSg sizSg _ rfl bss 0 rfl Xss LXss.out Uss.out.1 ?_)
  refine HCN.out.mono ?_
  rintro _ wv5 ⟨rfl, bz⟩
  replace Ucc := hide (Ucc.out.later bz)
  replace Uss := hide (Uss.out.later bz)
  replace Up := hide (Up.out.later bz)
  replace BB := hide (later BB.out bz)
  clear bz
  clear HCN
  obtain ⟨Xq, hXq⟩ : ∃ X, X = (pasC s now).cells := ⟨_, rfl⟩
  have LXq : Hid (Xq.length = 11) := by rw [hXq]; exact rfl
  have OXq : Hid (∀ u ∈ Xq, u.oneCell' = true) := by rw [hXq]; exact ct_one _
  try rw [← hXq]
  obtain ⟨uv7, wv6, huq, hwq, cuq, fuq, ccq, bzq, lzq, ffq⟩ := newCt wv5 Xq LXq.out
  obtain ⟨bq, hbq⟩ : ∃ b, b = wv5.heap.size := ⟨_, rfl⟩
  rw [← hbq] at hwq cuq fuq ccq lzq ffq
  have EXq := hide hXq
  have D_cc_q : Hid (bcc < bq) := by have h := Ucc.out.2.2; unfold Hid; omega
  have D_ss_q : Hid (bss < bq) := by have h := Uss.out.2.2; unfold Hid; omega
  have D_p_q : Hid (bp < bq) := by have h := Up.out.2.2; unfold Hid; omega
  have ZBq : Hid (w.heap.size ≤ bq) := by have h := BB.out.size; unfold Hid; omega
  replace Ucc := hide (Ucc.out.later bzq)
  replace Uss := hide (Uss.out.later bzq)
  replace Up := hide (Up.out.later bzq)
  replace BB := hide (later BB.out bzq)
  have Uq : Hid (Box wv6 bq Xq) := ⟨ccq, ffq, lzq⟩
  have CUq := hide cuq
  have FUq := hide fuq
  have huq' := huq.symm
  simp only [zCtL, zCt, Ct.cells] at huq'
  have hwq' := hwq.symm
  have hbq' := hbq.symm
  clear hXq huq hwq cuq fuq ccq bzq lzq hbq ffq
  go_upto_region 4 with (refine wpList_storeA rfl 24 11 sizCt _ _ rfl bq 0 rfl Xq zCtL rfl LXq.out rfl CUq.out FUq.out OXq.out ?_; intro _; rw [hwq'])
  clear huq' hwq' hbq' CUq FUq OXq
  have CN := Shut_any c wv6
  rw [← EXcc.out] at CN
  have HCN := hide CN
  clear CN
  go_wp2_with (refine wpList_loadA rfl 24 11 aggCt sizCt _ rfl bcc 0 rfl Xcc LXcc.out Ucc.out.1 ?_)
  refine HCN.out.mono ?_
  rintro _ wv8 ⟨rfl, bz⟩
  replace Ucc := hide (Ucc.out.later bz)
  replace Uss := hide (Uss.out.later bz)
  replace Up := hide (Up.out.later bz)
  replace Uq := hide (Uq.out.later bz)
  replace BB := hide (later BB.out bz)
  clear bz
  clear HCN
  obtain ⟨Xx, hXx⟩ : ∃ X, X = (shutC c).cells := ⟨_, rfl⟩
  have LXx : Hid (Xx.length = 11) := by rw [hXx]; exact rfl
  have OXx : Hid (∀ u ∈ Xx, u.oneCell' = true) := by rw [hXx]; exact ct_one _
  try rw [← hXx]
  obtain ⟨uv10, wv9, hux, hwx, cux, fux, ccx, bzx, lzx, ffx⟩ := newCt wv8 Xx LXx.out
  obtain ⟨bx, hbx⟩ : ∃ b, b = wv8.heap.size := ⟨_, rfl⟩
  rw [← hbx] at hwx cux fux ccx lzx ffx
  have EXx := hide hXx
  have D_cc_x : Hid (bcc < bx) := by have h := Ucc.out.2.2; unfold Hid; omega
  have D_ss_x : Hid (bss < bx) := by have h := Uss.out.2.2; unfold Hid; omega
  have D_p_x : Hid (bp < bx) := by have h := Up.out.2.2; unfold Hid; omega
  have D_q_x : Hid (bq < bx) := by have h := Uq.out.2.2; unfold Hid; omega
  have ZBx : Hid (w.heap.size ≤ bx) := by have h := BB.out.size; unfold Hid; omega
  replace Ucc := hide (Ucc.out.later bzx)
  replace Uss := hide (Uss.out.later bzx)
  replace Up := hide (Up.out.later bzx)
  replace Uq := hide (Uq.out.later bzx)
  replace BB := hide (later BB.out bzx)
  have Ux : Hid (Box wv9 bx Xx) := ⟨ccx, ffx, lzx⟩
  have CUx := hide cux
  have FUx := hide fux
  have hux' := hux.symm
  simp only [zCtL, zCt, Ct.cells] at hux'
  have hwx' := hwx.symm
  have hbx' := hbx.symm
  clear hXx hux hwx cux fux ccx bzx lzx hbx ffx
  go_upto_region 5 with (refine wpList_storeA rfl 24 11 sizCt _ _ rfl bx 0 rfl Xx zCtL rfl LXx.out rfl CUx.out FUx.out OXx.out ?_; intro _; rw [hwx'])
  clear hux' hwx' hbx' CUx FUx OXx
  have CN := rShut_any c wv9
  rw [← EXcc.out] at CN
  have HCN := hide CN
  clear CN
  go_wp2_with (refine wpList_loadA rfl 24 11 aggCt sizCt _ rfl bcc 0 rfl Xcc LXcc.out Ucc.out.1 ?_)
  refine HCN.out.mono ?_
  rintro _ wv11 ⟨rfl, bz⟩
  replace Ucc := hide (Ucc.out.later bz)
  replace Uss := hide (Uss.out.later bz)
  replace Up := hide (Up.out.later bz)
  replace Uq := hide (Uq.out.later bz)
  replace Ux := hide (Ux.out.later bz)
  replace BB := hide (later BB.out bz)
  clear bz
  clear HCN
  obtain ⟨Xz, hXz⟩ : ∃ X, X = (shutC c).cells := ⟨_, rfl⟩
  have LXz : Hid (Xz.length = 11) := by rw [hXz]; exact rfl
  have OXz : Hid (∀ u ∈ Xz, u.oneCell' = true) := by rw [hXz]; exact ct_one _
  try rw [← hXz]
  obtain ⟨uv13, wv12, huz, hwz, cuz, fuz, ccz, bzz, lzz, ffz⟩ := newCt wv11 Xz LXz.out
  obtain ⟨bz, hbz⟩ : ∃ b, b = wv11.heap.size := ⟨_, rfl⟩
  rw [← hbz] at hwz cuz fuz ccz lzz ffz
  have EXz := hide hXz
  have D_cc_z : Hid (bcc < bz) := by have h := Ucc.out.2.2; unfold Hid; omega
  have D_ss_z : Hid (bss < bz) := by have h := Uss.out.2.2; unfold Hid; omega
  have D_p_z : Hid (bp < bz) := by have h := Up.out.2.2; unfold Hid; omega
  have D_q_z : Hid (bq < bz) := by have h := Uq.out.2.2; unfold Hid; omega
  have D_x_z : Hid (bx < bz) := by have h := Ux.out.2.2; unfold Hid; omega
  have ZBz : Hid (w.heap.size ≤ bz) := by have h := BB.out.size; unfold Hid; omega
  replace Ucc := hide (Ucc.out.later bzz)
  replace Uss := hide (Uss.out.later bzz)
  replace Up := hide (Up.out.later bzz)
  replace Uq := hide (Uq.out.later bzz)
  replace Ux := hide (Ux.out.later bzz)
  replace BB := hide (later BB.out bzz)
  have Uz : Hid (Box wv12 bz Xz) := ⟨ccz, ffz, lzz⟩
  have CUz := hide cuz
  have FUz := hide fuz
  have huz' := huz.symm
  simp only [zCtL, zCt, Ct.cells] at huz'
  have hwz' := hwz.symm
  have hbz' := hbz.symm
  clear hXz huz hwz cuz fuz ccz bzz lzz hbz ffz
  go_upto_region 6 with (refine wpList_storeA rfl 24 11 sizCt _ _ rfl bz 0 rfl Xz zCtL rfl LXz.out rfl CUz.out FUz.out OXz.out ?_; intro _; rw [hwz'])
  clear huz' hwz' hbz' CUz FUz OXz
  refine region_quiet_C (fun W => Below wv12.heap.size wv12 W) (by kernel_rfl) (by kernel_rfl) (later_drew _) ?_
  go_big_quiet_step (fail)
  go_big_quiet_step (fail)
  go_big_quiet_step (fail)
  go_big_quiet_want
  refine quiet_call 16 #[.int .i64 now] (.agg (begC 1 (fst32 now)).cells.toArray) (fun _ => by simp [Act.eval, go_sem]) (fun W hW => (Active_any now W).mono fun e w' h => ⟨h.1, later hW h.2⟩) ?_
  go_big_quiet_on
  simp only [Act.put, List.setIfInBounds_toArray, List.set_cons_succ, List.set_cons_zero]
  go_big_quiet_step (fail)
  go_big_quiet_want
  refine quiet_call 17 #[.int .i64 now] (.agg (begC 1 (fst32 now)).cells.toArray) (fun _ => by simp [Act.eval, go_sem]) (fun W hW => (rActive_any now W).mono fun e w' h => ⟨h.1, later hW h.2⟩) ?_
  go_big_quiet_on
  simp only [Act.put, List.setIfInBounds_toArray, List.set_cons_succ, List.set_cons_zero]
  go_big_quiet_want
  refine quiet_pure (.bool true) (fun W hW => exec_eqCt _ _ _ _ rfl rfl rfl) ?_
  go_big_quiet_on
  simp only [Act.put, List.setIfInBounds_toArray, List.set_cons_succ, List.set_cons_zero]
  go_big_quiet_want
  refine quiet_pure (.bool true) (fun W hW => exec_pick _ _ _ true _ rfl rfl rfl) ?_
  go_big_quiet_on
  simp only [Act.put, List.setIfInBounds_toArray, List.set_cons_succ, List.set_cons_zero]
  go_big_quiet_step (fail)
  go_big_quiet_want
  refine quiet_pure (.agg ((pasC s now).cells).toArray) (fun W hW => exec_loadA 24 11 aggCt sizCt _ rfl bp 0 rfl ((pasC s now).cells) rfl (by have h := (Up.out.later hW).1; rw [EXp.out] at h; exact h)) ?_
  go_big_quiet_on
  simp only [Act.put, List.setIfInBounds_toArray, List.set_cons_succ, List.set_cons_zero]
  go_big_quiet_want
  refine quiet_pure (.agg ((pasC s now).cells).toArray) (fun W hW => exec_loadA 24 11 aggCt sizCt _ rfl bq 0 rfl ((pasC s now).cells) rfl (by have h := (Uq.out.later hW).1; rw [EXq.out] at h; exact h)) ?_
  go_big_quiet_on
  simp only [Act.put, List.setIfInBounds_toArray, List.set_cons_succ, List.set_cons_zero]
  go_big_quiet_want
  refine quiet_pure (.bool true) (fun W hW => exec_eqCt _ _ _ _ rfl rfl rfl) ?_
  go_big_quiet_on
  simp only [Act.put, List.setIfInBounds_toArray, List.set_cons_succ, List.set_cons_zero]
  go_big_quiet_want
  refine quiet_pure (.bool true) (fun W hW => exec_pick _ _ _ true _ rfl rfl rfl) ?_
  go_big_quiet_on
  simp only [Act.put, List.setIfInBounds_toArray, List.set_cons_succ, List.set_cons_zero]
  go_big_quiet_step (fail)
  go_big_quiet_step (fail)
  go_big_quiet_step (fail)
  go_big_quiet_want
  refine quiet_pure (.bool true) (fun W hW => exec_eqEr _ _ _ _ _ _ rfl rfl rfl (decide_eq_true rfl)) ?_
  go_big_quiet_on
  simp only [Act.put, List.setIfInBounds_toArray, List.set_cons_succ, List.set_cons_zero]
  go_big_quiet_want
  refine quiet_pure (.bool true) (fun W hW => exec_pick _ _ _ true _ rfl rfl rfl) ?_
  go_big_quiet_on
  simp only [Act.put, List.setIfInBounds_toArray, List.set_cons_succ, List.set_cons_zero]
  go_big_quiet_step (fail)
  go_big_quiet_want
  refine quiet_pure (.agg ((shutC c).cells).toArray) (fun W hW => exec_loadA 24 11 aggCt sizCt _ rfl bx 0 rfl ((shutC c).cells) rfl (by have h := (Ux.out.later hW).1; rw [EXx.out] at h; exact h)) ?_
  go_big_quiet_on
  simp only [Act.put, List.setIfInBounds_toArray, List.set_cons_succ, List.set_cons_zero]
  go_big_quiet_want
  refine quiet_pure (.agg ((shutC c).cells).toArray) (fun W hW => exec_loadA 24 11 aggCt sizCt _ rfl bz 0 rfl ((shutC c).cells) rfl (by have h := (Uz.out.later hW).1; rw [EXz.out] at h; exact h)) ?_
  go_big_quiet_on
  simp only [Act.put, List.setIfInBounds_toArray, List.set_cons_succ, List.set_cons_zero]
  go_big_quiet_want
  refine quiet_pure (.bool true) (fun W hW => exec_eqCt _ _ _ _ rfl rfl rfl) ?_
  go_big_quiet_on
  simp only [Act.put, List.setIfInBounds_toArray, List.set_cons_succ, List.set_cons_zero]
  go_big_quiet_want
  refine quiet_pure (.bool true) (fun W hW => exec_pick _ _ _ true _ rfl rfl rfl) ?_
  go_big_quiet_on
  simp only [Act.put, List.setIfInBounds_toArray, List.set_cons_succ, List.set_cons_zero]
  go_big_quiet_step (fail)
  go_big_quiet_step (fail)
  go_big_quiet_step (fail)
  go_big_quiet_want
  refine quiet_pure (.bool true) (fun W hW => exec_eqEr _ _ _ _ _ _ rfl rfl rfl (decide_eq_true rfl)) ?_
  go_big_quiet_on
  simp only [Act.put, List.setIfInBounds_toArray, List.set_cons_succ, List.set_cons_zero]
  go_big_quiet_want
  refine quiet_pure (.bool true) (fun W hW => exec_pick _ _ _ true _ rfl rfl rfl) ?_
  go_big_quiet_on
  simp only [Act.put, List.setIfInBounds_toArray, List.set_cons_succ, List.set_cons_zero]
  go_big_quiet_step (fail)
  go_big_quiet_want
  refine quiet_pure (.agg (c.cells).toArray) (fun W hW => exec_loadA 24 11 aggCt sizCt _ rfl bcc 0 rfl (c.cells) rfl (by have h := (Ucc.out.later hW).1; rw [EXcc.out] at h; exact h)) ?_
  go_big_quiet_on
  simp only [Act.put, List.setIfInBounds_toArray, List.set_cons_succ, List.set_cons_zero]
  go_big_quiet_want
  refine quiet_call 18 #[.agg c.cells.toArray] (.agg (endC c).cells.toArray) (fun _ => by simp [Act.eval, go_sem]) (fun W hW => (Ended_any c W).mono fun e w' h => ⟨h.1, later hW h.2⟩) ?_
  go_big_quiet_on
  simp only [Act.put, List.setIfInBounds_toArray, List.set_cons_succ, List.set_cons_zero]
  go_big_quiet_want
  refine quiet_pure (.agg (c.cells).toArray) (fun W hW => exec_loadA 24 11 aggCt sizCt _ rfl bcc 0 rfl (c.cells) rfl (by have h := (Ucc.out.later hW).1; rw [EXcc.out] at h; exact h)) ?_
  go_big_quiet_on
  simp only [Act.put, List.setIfInBounds_toArray, List.set_cons_succ, List.set_cons_zero]
  go_big_quiet_want
  refine quiet_call 19 #[.agg c.cells.toArray] (.agg (endC c).cells.toArray) (fun _ => by simp [Act.eval, go_sem]) (fun W hW => (rEnded_any c HC.out W).mono fun e w' h => ⟨h.1, later hW h.2⟩) ?_
  go_big_quiet_on
  simp only [Act.put, List.setIfInBounds_toArray, List.set_cons_succ, List.set_cons_zero]
  go_big_quiet_want
  refine quiet_pure (.bool true) (fun W hW => exec_eqCt _ _ _ _ rfl rfl rfl) ?_
  go_big_quiet_on
  simp only [Act.put, List.setIfInBounds_toArray, List.set_cons_succ, List.set_cons_zero]
  go_big_quiet_want
  refine quiet_pure (.bool true) (fun W hW => exec_pick _ _ _ true _ rfl rfl rfl) ?_
  go_big_quiet_on
  simp only [Act.put, List.setIfInBounds_toArray, List.set_cons_succ, List.set_cons_zero]
  go_big_quiet_step (fail)
  refine wpQuiet_nil ?_
  intro wq bq
  have BQ := hide (later BB.out bq)
  clear bq
  go_wp2
  go_ret
  exact ⟨rfl, BQ.out⟩
end Go.Proofs.Ytgdcdgofahhfdaa
