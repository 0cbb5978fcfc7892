
/-
  Package route: Drop.
-/
import Derived.Test.YtlfacppkgamkgaaM8
namespace Go.Proofs.Ytlfacppkgamkgaa
open Go.RowKit Go.Shelf
open Go.ChangeMaps (setBlock)

theorem exec_del {o : Oper} {w : World} {ev : Operand → Value} (x k : Operand) (T K : TypeId) (m kv : Value) (w' : World) (ho : o.op = .call { callee := .builtin .delete, args := #[x, k], argTypes := #[T, K] }) (hx : ev x = m) (hk : ev k = kv) (hrun : (Builtin.delete_ #[T, K] o.type #[m, kv]).run Try.prog w = .ok (.tuple #[]) w') : (execOp ev o).run Try.prog w = .ok (.value (.tuple #[])) w' := by
  unfold execOp
  simp [ho, hx, hk, resolve, invoke, builtin, hrun, Result.andThen]
theorem valD {ops : Array Oper} {Q : Exit → Act → World → Prop} {md : Region.Mode} {S : World → Prop} {oi : Oper} {fuel : Nat} {listed : Array Bool} {a : Act} {w w' : World} (i : Nat) (v : Value) (hr : Region.ready md ops listed = [i]) (hi : ops[i]? = some oi) (hd : oi.dst = none) (hw : Region.wanted oi (yielded ops a.tmps) = true)
    (hrun : (execOp a.eval oi).run Try.prog w = .ok (.value v) w') (hS : S w') (h : wpAnyH Try.prog md ops Q S fuel (listed.setIfInBounds i true) a w') : wpAnyH Try.prog md ops Q S (fuel + 1) listed a w := by
  refine wpAnyH_all hr (by simp) (fun k hk => ?_)
  obtain rfl : k = i := by simpa using hk
  unfold Go.wpOp
  simp only [hi, hw, if_true, Oper.wp, hrun, Oper.upon, hd, Act.put]
  exact .inl ⟨hS, h⟩
set_option maxRecDepth 100000 in
set_option maxHeartbeats 4000000 in
theorem Drop_any (n : I4) (k : Int) (hn : n.Ok) {w : World} {rt b : Nat} {ws : List Wy} {N : Int} (hr : Rt w rt b ws N) :
    Calls Try.prog 10 #[.pointer (some ⟨rt, 0, none⟩), n.val, .int .i64 k] w fun e w' => e = .returned (.int .i64 (drE ws n k)) ∧ Rt w' rt b (drL ws n k) N ∧ But (Two rt b) w w' := by
  obtain ⟨L, ck, bh, h1, h2, h3, h4, h5⟩ := hr
  obtain ⟨s, hs⟩ : ∃ s, s = w.heap.size := ⟨_, rfl⟩
  obtain ⟨V, hV⟩ : ∃ V, V = n.vals := ⟨_, rfl⟩
  obtain ⟨w1, hw1⟩ : ∃ w1, w1 = w.alloc (.cells V.toArray 31) := ⟨_, rfl⟩
  have b1 : Below w.heap.size w w1 := by rw [hw1]; exact (Below.refl _ w).alloc (Nat.le_refl _) _
  have c1 : CellsAt w1 s 0 V := by rw [hw1, hs]; exact CellsAt.new w V 31
  have LV : Hid (V.length = 4) := by rw [hV]; exact (rfl : n.vals.length = 4)
  have EV : Hid (n.val = .agg V.toArray) := by rw [hV]; exact rfl
  have HK := hide (keyOf_any n k hn w1)
  rw [EV.out] at HK ⊢
  have HB1 := hide b1
  have C1 := hide c1
  have H1 := hide h1
  have H2 := hide h2
  have H3 := hide h3
  have hw1' := hw1.symm
  have hs' := hs.symm
  clear b1 c1 h1 h2 h3 hw1 hs hV hn
  go_enter Try.func10, Try.ntmps10
  go_wp2_with (refine wpList_loadA rfl 31 4 aggI sizI _ rfl s 0 rfl V LV.out C1.out ?_)
  clear hw1' hs'
  refine HK.out.mono ?_
  rintro _ w3 ⟨rfl, b3⟩
  have HB3 : Hid (Below w.heap.size w w3) := later HB1.out b3
  obtain ⟨KC, hKC⟩ : ∃ KC, KC = keyc n k := ⟨_, rfl⟩
  rw [← hKC]
  have LK : Hid (KC.length = 5) := by rw [hKC]; exact (rfl : (keyc n k).length = 5)
  have OK : Hid (∀ u ∈ KC, u.oneCell' = true) := by rw [hKC]; exact key_one _ _
  obtain ⟨u4, w4, hu4, hw4, cu4, fu4, c4, b4, l4⟩ := newV w3 54 zK KC (by rw [LK.out]; rfl)
  obtain ⟨s5, hs5⟩ : ∃ s5, s5 = w3.heap.size := ⟨_, rfl⟩
  rw [← hs5] at hw4 cu4 fu4 c4 l4
  have CU := hide cu4
  have FU := hide fu4
  have C4 := hide c4
  have HB4 : Hid (Below w.heap.size w w4) := later HB3.out b4
  have hu4' := hu4.symm
  simp only [zK] at hu4'
  have hw4' := hw4.symm
  have hs5' := hs5.symm
  have HKC := hide hKC
  clear hu4 hw4 hs5 cu4 fu4 c4 b3 b4 HK hKC C1 HB1 HB3
  go_upto_region 2 with (refine wpList_storeA rfl 54 5 sizK _ _ rfl s5 0 rfl KC zK rfl LK.out rfl CU.out FU.out OK.out ?_; intro _; rw [hw4'])
  clear hu4' hw4' hs5' CU FU
  have R4 := H1.out.later HB4.out
  obtain ⟨G, hG⟩ : ∃ G, G = gotR n k L := ⟨_, rfl⟩
  obtain ⟨B0, hB0⟩ : ∃ B0, B0 = (fnd n k L).isSome := ⟨_, rfl⟩
  have LK4 : ∀ W, MapAt W b L ck → (Instr.lookup 48 (.map (some b)) (.agg KC.toArray) true).run Try.prog W = .ok (.tuple #[.agg G.cells.toArray, .bool B0]) W := fun W h => by
    rw [HKC.out, hG, hB0]; exact look_run h n k
  have Sd : RtAt w4.drew rt b L ck bh ∧ CellsAt w4.drew s5 0 KC := ⟨R4.later (later_drew _), C4.out⟩
  obtain ⟨u5, w5, hu5, hw5, cu5, fu5, c5, b5, l5⟩ := newV w4.drew 57 zRw.cells G.cells rfl
  have Su : RtAt u5 rt b L ck bh ∧ CellsAt u5 s5 0 KC := ⟨Sd.1.later (by rw [hu5]; exact (Below.refl _ _).alloc (Nat.le_refl _) _), Sd.2.later (C4.out.lt (by rw [LK.out]; decide)) (by rw [hu5]; exact (Below.refl _ _).alloc (Nat.le_refl _) _)⟩
  have S5 : RtAt w5 rt b L ck bh ∧ CellsAt w5 s5 0 KC := ⟨Sd.1.later b5, Sd.2.later (C4.out.lt (by rw [LK.out]; decide)) b5⟩
  refine wp_region_held (S := fun W => RtAt W rt b L ck bh ∧ CellsAt W s5 0 KC) (by kernel_rfl) ?_
  refine takeD (i := 0) (v := .pointer (some ⟨rt, 0, none⟩)) 14 rfl rfl (by kernel_rfl) (by kernel_rfl) (by kernel_rfl) (fun _ _ _ h => h) (.inl ⟨by rfl, fun W hW => exec_move _ _ rfl rfl⟩) (Sd) ?_
  try simp only [Act.put, List.setIfInBounds_toArray, List.set_cons_zero, List.set_cons_succ]
  refine takeD (i := 1) (v := .pointer (some ⟨rt, 0, none⟩)) 15 rfl rfl (by kernel_rfl) (by kernel_rfl) (by kernel_rfl) (fun _ _ _ h => h) (.inl ⟨by rfl, fun W hW => exec_nil _ _ rfl rfl⟩) (Sd) ?_
  try simp only [Act.put, List.setIfInBounds_toArray, List.set_cons_zero, List.set_cons_succ]
  refine takeD (i := 2) (v := .pointer (some ⟨rt, 0, none⟩)) 16 rfl rfl (by kernel_rfl) (by kernel_rfl) (by kernel_rfl) (fun _ _ _ h => h) (.inl ⟨by rfl, fun W hW => exec_fieldO 51 _ 0 rt 0 0 rfl rfl (fun w => by kernel_rfl)⟩) (Sd) ?_
  try simp only [Act.put, List.setIfInBounds_toArray, List.set_cons_zero, List.set_cons_succ]
  refine takeD (i := 3) (v := .map (some b)) 17 rfl rfl (by kernel_rfl) (by kernel_rfl) (by kernel_rfl) (fun _ _ _ h => h) (.inl ⟨by rfl, fun W hW => exec_load1 48 oneMp _ rfl rt 0 rfl (.map (some b)) (hW.1.c0)⟩) (Sd) ?_
  try simp only [Act.put, List.setIfInBounds_toArray, List.set_cons_zero, List.set_cons_succ]
  refine takeD (i := 4) (v := .agg KC.toArray) 18 rfl rfl (by kernel_rfl) (by kernel_rfl) (by kernel_rfl) (fun _ _ _ h => h) (.inl ⟨by rfl, fun W hW => exec_loadA 54 5 aggK sizK _ rfl s5 0 rfl KC LK.out hW.2⟩) (Sd) ?_
  try simp only [Act.put, List.setIfInBounds_toArray, List.set_cons_zero, List.set_cons_succ]
  refine takeD (i := 5) (v := .tuple #[.agg G.cells.toArray, .bool B0]) 19 rfl rfl (by kernel_rfl) (by kernel_rfl) (by kernel_rfl) (fun _ _ _ h => h) (.inl ⟨by rfl, fun W hW => exec_look _ _ _ _ _ _ _ rfl rfl rfl (LK4 W hW.1.map)⟩) (Sd) ?_
  try simp only [Act.put, List.setIfInBounds_toArray, List.set_cons_zero, List.set_cons_succ]
  refine takeD (i := 6) (v := .tuple #[.agg G.cells.toArray, .bool B0]) 13 rfl rfl (by kernel_rfl) (by kernel_rfl) (by kernel_rfl) (fun _ _ _ h => h) (.inl ⟨by rfl, fun W hW => exec_move _ _ rfl rfl⟩) (Sd) ?_
  try simp only [Act.put, List.setIfInBounds_toArray, List.set_cons_zero, List.set_cons_succ]
  refine takeD (i := 7) (v := .agg G.cells.toArray) 20 rfl rfl (by kernel_rfl) (by kernel_rfl) (by kernel_rfl) (fun _ _ _ h => h) (.inl ⟨by rfl, fun W hW => exec_ext _ _ [.agg G.cells.toArray, .bool B0] _ rfl rfl rfl⟩) (Sd) ?_
  try simp only [Act.put, List.setIfInBounds_toArray, List.set_cons_zero, List.set_cons_succ]
  refine takeD (i := 8) (v := .bool B0) 21 rfl rfl (by kernel_rfl) (by kernel_rfl) (by kernel_rfl) (fun _ _ _ h => h) (.inl ⟨by rfl, fun W hW => exec_ext _ _ [.agg G.cells.toArray, .bool B0] _ rfl rfl rfl⟩) (Sd) ?_
  try simp only [Act.put, List.setIfInBounds_toArray, List.set_cons_zero, List.set_cons_succ]
  refine nextD (w' := u5) 9 8 (.pointer (some ⟨w4.drew.heap.size, 0, none⟩)) (by kernel_rfl) rfl rfl (by rfl) (by rw [hu5]; exact exec_allocR rfl) (Su) ?_
  try simp only [Act.put, List.setIfInBounds_toArray, List.set_cons_zero, List.set_cons_succ]
  refine storeD (w' := w5) 10 (by kernel_rfl) rfl rfl (by rfl) (by rw [hw5]; exact exec_storeA 57 11 sizR _ _ rfl w4.drew.heap.size 0 rfl _ zRw.cells rfl rfl rfl cu5 fu5 (row_one _)) (S5) ?_
  try simp only [Act.put, List.setIfInBounds_toArray, List.set_cons_zero, List.set_cons_succ]
  refine takeD (i := 11) (v := .bool B0) 9 rfl rfl (by kernel_rfl) (by kernel_rfl) (by kernel_rfl) (fun _ _ _ h => h) (.inl ⟨by rfl, fun W hW => exec_assign _ _ rfl rfl⟩) (S5) ?_
  try simp only [Act.put, List.setIfInBounds_toArray, List.set_cons_zero, List.set_cons_succ]
  refine wpAnyH_done (by kernel_rfl) ?_ _
  obtain ⟨s6, hs6⟩ : ∃ s6, s6 = w4.drew.heap.size := ⟨_, rfl⟩
  rw [← hs6] at c5 l5 ⊢
  have HB5 : Hid (Below w.heap.size w w5) := later HB4.out (later (later_drew _) b5)
  have C5k := hide S5.2
  have R5 := hide S5.1
  have FI := hide (fnd_ix n k L)
  rw [H3.out] at FI
  have HB0 := hide hB0
  clear Sd Su S5 hu5 hw5 cu5 fu5 c5 b5 LK4 R4 hG hB0 hs6 C4 HB4
  cases hf : fnd n k L with
  | some ir =>
    obtain ⟨i, r⟩ := ir
    have eB : B0 = true := by rw [HB0.out, hf]; rfl
    have ei : Hid (ix n k ws = some i) := by unfold Hid; rw [FI.out, hf]; rfl
    have e1 : Hid (drE ws n k = 0) := by unfold Hid drE; rw [if_neg (by rw [ei.out]; simp)]
    have e2 : Hid (drL ws n k = ws.eraseIdx i) := by unfold Hid drL; rw [ei.out]
    subst eB
    have HF := hide hf
    clear hf
    go_upto_region 5 with fail
    obtain ⟨we, hwe⟩ : ∃ we, we = setBlock w5.drew b (.map ((L.eraseIdx i).map ent).toArray ck) := ⟨_, rfl⟩
    have RE : RtAt we rt b (L.eraseIdx i) ck bh := by rw [hwe]; exact (R5.out.later (later_drew _)).set _ ck
    have BE : But (Only b) w5.drew we := by rw [hwe]; exact But.block_ (K := Only b) rfl _
    have Sd : w5.drew.cell? ⟨rt, 0, none⟩ = some (.map (some b)) ∧ CellsAt w5.drew s5 0 KC := ⟨R5.out.c0, C5k.out⟩
    have ks : s5 ≠ b := fun e => by
      have h0 := C5k.out 0 (.int .i64 n.a) (by rw [HKC.out]; rfl)
      have h1 := R5.out.map
      unfold MapAt at h1
      rw [e] at h0
      simp [World.cell?, h1] at h0
    have Se : we.cell? ⟨rt, 0, none⟩ = some (.map (some b)) ∧ CellsAt we s5 0 KC := ⟨RE.c0, Sd.2.but (K := Only b) (C5k.out.lt (by rw [LK.out]; decide)) BE ks⟩
    refine wp_region_held (S := fun W => W.cell? ⟨rt, 0, none⟩ = some (.map (some b)) ∧ CellsAt W s5 0 KC) (by kernel_rfl) ?_
    refine takeD (i := 0) (v := .pointer (some ⟨rt, 0, none⟩)) 24 rfl rfl (by kernel_rfl) (by kernel_rfl) (by kernel_rfl) (fun _ _ _ h => h) (.inl ⟨by rfl, fun W hW => exec_move _ _ rfl rfl⟩) (Sd) ?_
    try simp only [Act.put, List.setIfInBounds_toArray, List.set_cons_zero, List.set_cons_succ]
    refine takeD (i := 1) (v := .pointer (some ⟨rt, 0, none⟩)) 25 rfl rfl (by kernel_rfl) (by kernel_rfl) (by kernel_rfl) (fun _ _ _ h => h) (.inl ⟨by rfl, fun W hW => exec_nil _ _ rfl rfl⟩) (Sd) ?_
    try simp only [Act.put, List.setIfInBounds_toArray, List.set_cons_zero, List.set_cons_succ]
    refine takeD (i := 2) (v := .pointer (some ⟨rt, 0, none⟩)) 26 rfl rfl (by kernel_rfl) (by kernel_rfl) (by kernel_rfl) (fun _ _ _ h => h) (.inl ⟨by rfl, fun W hW => exec_fieldO 51 _ 0 rt 0 0 rfl rfl (fun w => by kernel_rfl)⟩) (Sd) ?_
    try simp only [Act.put, List.setIfInBounds_toArray, List.set_cons_zero, List.set_cons_succ]
    refine takeD (i := 3) (v := .map (some b)) 27 rfl rfl (by kernel_rfl) (by kernel_rfl) (by kernel_rfl) (fun _ _ _ h => h) (.inl ⟨by rfl, fun W hW => exec_load1 48 oneMp _ rfl rt 0 rfl (.map (some b)) (hW.1)⟩) (Sd) ?_
    try simp only [Act.put, List.setIfInBounds_toArray, List.set_cons_zero, List.set_cons_succ]
    refine takeD (i := 4) (v := .agg KC.toArray) 28 rfl rfl (by kernel_rfl) (by kernel_rfl) (by kernel_rfl) (fun _ _ _ h => h) (.inl ⟨by rfl, fun W hW => exec_loadA 54 5 aggK sizK _ rfl s5 0 rfl KC LK.out hW.2⟩) (Sd) ?_
    try simp only [Act.put, List.setIfInBounds_toArray, List.set_cons_zero, List.set_cons_succ]
    refine valD (w' := we) 5 (.tuple #[]) (by kernel_rfl) rfl rfl rfl (by rw [hwe, HKC.out]; exact exec_del _ _ _ _ _ _ _ rfl rfl rfl (del_run (R5.out.later (later_drew _)).map n k i r HF.out _)) Se ?_
    refine wpAnyH_done (by kernel_rfl) ?_ _
    have RF := hide RE
    have BF : Hid (But (Two rt b) w we) := ((But.of_below HB5.out).drew).trans (BE.mono (fun g e => .inr e))
    clear Sd Se hwe RE BE ks
    go_wp2
    go_ret
    refine ⟨by rw [e1.out]; rfl, ?_, BF.out⟩
    rw [e2.out]
    refine ⟨_, ck, bh, RF.out, H2.out.cut i, ?_, h4, h5⟩
    rw [← H3.out, Go.ChangeMaps.map_eraseIdx]
  | none =>
    have eB : B0 = false := by rw [HB0.out, hf]; rfl
    have ei : Hid (ix n k ws = none) := by unfold Hid; rw [FI.out, hf]; rfl
    have e1 : Hid (drE ws n k = 7) := by unfold Hid drE; rw [if_pos ei.out]
    have e2 : Hid (drL ws n k = ws) := by unfold Hid drL; rw [ei.out]
    subst eB
    clear hf
    go_wp2
    go_ret
    refine ⟨by rw [e1.out]; rfl, ?_, But.of_below HB5.out⟩
    rw [e2.out]
    exact ⟨L, ck, bh, R5.out, H2.out, H3.out, h4, h5⟩
end Go.Proofs.Ytlfacppkgamkgaa
