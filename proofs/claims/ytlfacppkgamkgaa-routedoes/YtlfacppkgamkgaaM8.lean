
/-
  Package route: Add, Drop.
-/
import Derived.Test.YtlfacppkgamkgaaM7
namespace Go.Proofs.Ytlfacppkgamkgaa
open Go.RowKit Go.Shelf
open Go.ChangeMaps (setBlock)

section
variable {o : Oper} {w : World} {ev : Operand → Value}
theorem exec_look (x k : Operand) (c : Bool) (T : TypeId) (m kv v : Value) (ho : o.op = .lookup T x k c) (hx : ev x = m) (hk : ev k = kv) (hrun : (Instr.lookup T m kv c).run Try.prog w = .ok v w) : (execOp ev o).run Try.prog w = .ok (.value v) w := by
  unfold execOp
  simp [ho, hx, hk, hrun, Result.andThen]
theorem exec_upd (x k y : Operand) (T : TypeId) (m kv v : Value) (w' : World) (ho : o.op = .mapUpdate T x k y) (hx : ev x = m) (hk : ev k = kv) (hy : ev y = v) (hrun : (Instr.mapUpdate T m kv v).run Try.prog w = .ok () w') : (execOp ev o).run Try.prog w = .ok .skip w' := by
  unfold execOp
  simp [ho, hx, hk, hy, hrun, Result.andThen]
theorem exec_allocR (ho : o.op = .alloc 57) : (execOp ev o).run Try.prog w = .ok (.value (.pointer (some ⟨w.heap.size, 0, none⟩))) (w.alloc (.cells zRw.cells.toArray 57)) := by
  unfold execOp
  simp [ho, go_sem]
  rfl
theorem exec_bldR (x y : Operand) (a : Wy) (p : Int) (ho : o.op = .build 57 #[(0, x), (1, y)]) (hx : ev x = .agg a.cells.toArray) (hy : ev y = .int .i64 p) : (execOp ev o).run Try.prog w = .ok (.value (.agg (a.cells ++ [Value.int .i64 p]).toArray)) w := by
  unfold execOp
  simp [ho, hx, hy, go_sem, Wy.cells, I4.vals]
end
theorem oneMp (w : World) : (isAgg 48).run Try.prog w = .ok false w := by kernel_rfl
theorem row_one (r : Rw) : ∀ u ∈ r.cells, u.oneCell' = true := by
  intro u hu
  simp only [Rw.cells, Wy.cells, I4.vals, List.cons_append, List.nil_append, List.mem_cons, List.not_mem_nil, or_false] at hu
  rcases hu with rfl | rfl | rfl | rfl | rfl | rfl | rfl | rfl | rfl | rfl | rfl <;> rfl
theorem key_one (n : I4) (k : Int) : ∀ u ∈ keyc n k, u.oneCell' = true := by
  intro u hu
  simp only [keyc, List.mem_cons, List.not_mem_nil, or_false] at hu
  rcases hu with rfl | rfl | rfl | rfl | rfl <;> rfl
def zK : List Value := [.int .i64 0, .int .i64 0, .int .i64 0, .int .i64 0, .int .i64 0]
/-- what was found, or a row of noughts -/
def gotR (n : I4) (k : Int) (L : List Rw) : Rw := match fnd n k L with | some p => p.2 | none => zRw
/-- two blocks may have turned -/
def Two (a b : Nat) : Nat → Prop := fun g => g = a ∨ g = b
/-- a new variable, a struct in it -/
theorem newV (w : World) (T : TypeId) (Z X : List Value) (hX : X.length = Z.length) : ∃ w0 w1, w0 = w.alloc (.cells Z.toArray T) ∧ w1 = w0.setCells w.heap.size 0 X ∧ CellsAt w0 w.heap.size 0 Z ∧ (∀ y, w0.frozen? ⟨w.heap.size, y, none⟩ = false) ∧ CellsAt w1 w.heap.size 0 X ∧ Below w.heap.size w w1 ∧ w.heap.size < w1.heap.size := by
  refine ⟨_, _, rfl, rfl, CellsAt.new w _ _, fun y => frozen_new w _ _ _, (CellsAt.new w _ _).stored hX, (Below.refl _ w).alloc (Nat.le_refl _) _ |>.trans ((But.cells w.heap.size X 0 _).below (by simp) (fun g hg e => by have e : g = w.heap.size := e; omega)), ?_⟩
  have h := (But.cells w.heap.size X 0 (w.alloc (.cells Z.toArray T))).size
  rw [World.size_alloc] at h
  omega
set_option maxRecDepth 100000 in
set_option maxHeartbeats 4000000 in
theorem Add_any (x : Wy) (hx : x.Ok) {w : World} {rt b : Nat} {ws : List Wy} {N : Int} (hr : Rt w rt b ws N) (hN : N ≤ 4611686018427387904) :
    Calls Try.prog 8 #[.pointer (some ⟨rt, 0, none⟩), x.val] w fun e w' => e = .returned (.int .i64 (adE ws x)) ∧ Rt w' rt b (adL ws x) (N + 1) ∧ But (Two rt b) w w' := by
  obtain ⟨L, ck, bh, h1, h2, h3, h4, h5⟩ := hr
  obtain ⟨s, hs⟩ : ∃ s, s = w.heap.size := ⟨_, rfl⟩
  obtain ⟨X, hX⟩ : ∃ X, X = x.cells := ⟨_, rfl⟩
  obtain ⟨w1, hw1⟩ : ∃ w1, w1 = w.alloc (.cells X.toArray 33) := ⟨_, rfl⟩
  have b1 : Below w.heap.size w w1 := by rw [hw1]; exact (Below.refl _ w).alloc (Nat.le_refl _) _
  have c1 : CellsAt w1 s 0 X := by rw [hw1, hs]; exact CellsAt.new w X 33
  have LX : Hid (X.length = 10) := by rw [hX]; exact (rfl : x.cells.length = 10)
  have l1 : s < w1.heap.size := c1.lt (by rw [LX.out]; decide)
  have EX : Hid (x.val = .agg X.toArray) := by rw [hX]; exact rfl
  have HMB := hide (mayBe_any x hx w1)
  rw [EX.out] at HMB ⊢
  have HW := hide hx
  have HB1 := hide b1
  have C1 := hide c1
  have HX := hide hX
  have H1 := hide h1
  have H2 := hide h2
  have H3 := hide h3
  have hw1' := hw1.symm
  have hs' := hs.symm
  have HS := hide hs
  clear b1 c1 h1 h2 h3 hw1 hs hX hx
  go_enter Try.func8, Try.ntmps8
  go_wp2_with (refine wpList_loadA rfl 33 10 aggW sizW _ rfl s 0 rfl X LX.out C1.out ?_)
  clear hw1' hs'
  refine HMB.out.mono ?_
  rintro _ w2 ⟨rfl, b2⟩
  have HB2 : Hid (Below w.heap.size w w2) := later HB1.out b2
  have C2 := hide (C1.out.later l1 b2)
  have L2 : s < w2.heap.size := Nat.lt_of_lt_of_le l1 b2.size
  clear b2 HMB C1 HB1 l1
  cases hm : mayW x with
  | false =>
    have e1 : Hid (adE ws x = 1) := by unfold Hid adE; rw [if_pos hm]
    have e2 : Hid (adL ws x = ws) := by unfold Hid adL; rw [if_pos hm]
    go_wp2
    go_ret
    refine ⟨by rw [e1.out]; rfl, ?_, But.of_below HB2.out⟩
    rw [e2.out]
    exact ⟨L, ck, bh, H1.out.later HB2.out, H2.out, H3.out, h4, by omega⟩
  | true =>
    have P2 := Wy.parts (x := x) (by rw [← HX.out]; exact C2.out)
    obtain ⟨p1, p2, _, _⟩ := P2
    have PN := hide p1
    simp only [Nat.zero_add] at p2
    have HK := hide (keyOf_any x.net x.bits HW.out.net w2)
    obtain ⟨V, hV⟩ : ∃ V, V = x.net.vals := ⟨_, rfl⟩
    have LV : Hid (V.length = 4) := by rw [hV]; exact (rfl : x.net.vals.length = 4)
    have EV : Hid (x.net.val = .agg V.toArray) := by rw [hV]; exact rfl
    rw [← hV] at PN
    rw [EV.out] at HK
    clear p1 hV
    go_wp2_with (refine wpList_loadA rfl 31 4 aggI sizI _ rfl s 0 rfl V LV.out PN.out ?_)
    refine HK.out.mono ?_
    rintro _ w3 ⟨rfl, b3⟩
    have HB3 : Hid (Below w.heap.size w w3) := later HB2.out b3
    obtain ⟨KC, hKC⟩ : ∃ KC, KC = keyc x.net x.bits := ⟨_, rfl⟩
    rw [← hKC]
    have LK : Hid (KC.length = 5) := by rw [hKC]; exact (rfl : (keyc x.net x.bits).length = 5)
    have OK : Hid (∀ u ∈ KC, u.oneCell' = true) := by rw [hKC]; exact key_one _ _
    obtain ⟨u4, w4, hu4, hw4, cu4, fu4, c4, b4, l4⟩ := newV w3 54 zK KC (by rw [LK.out]; rfl)
    obtain ⟨s5, hs5⟩ : ∃ s5, s5 = w3.heap.size := ⟨_, rfl⟩
    rw [← hs5] at hw4 cu4 fu4 c4 l4
    have CU := hide cu4
    have FU := hide fu4
    have C4 := hide c4
    have b34 := later b3 b4
    have HB4 : Hid (Below w.heap.size w w4) := later HB3.out b4
    have C4s := hide (C2.out.later L2 b34)
    have L4s : s < w4.heap.size := Nat.lt_of_lt_of_le L2 b34.size
    have hu4' := hu4.symm
    simp only [zK] at hu4'
    have hw4' := hw4.symm
    have hs5' := hs5.symm
    have HKC := hide hKC
    clear hu4 hw4 hs5 cu4 fu4 c4 b3 b4 b34 HK PN p2 C2 L2 HB2 hKC
    go_upto_region 4 with (refine wpList_storeA rfl 54 5 sizK _ _ rfl s5 0 rfl KC zK rfl LK.out rfl CU.out FU.out OK.out ?_; intro _; rw [hw4'])
    clear hu4' hw4' hs5' CU FU
    have R4 := H1.out.later HB4.out
    obtain ⟨G, hG⟩ : ∃ G, G = gotR x.net x.bits L := ⟨_, rfl⟩
    obtain ⟨B0, hB0⟩ : ∃ B0, B0 = (fnd x.net x.bits L).isSome := ⟨_, rfl⟩
    have LK4 : ∀ W, MapAt W b L ck → (Instr.lookup 48 (.map (some b)) (.agg KC.toArray) true).run Try.prog W = .ok (.tuple #[.agg G.cells.toArray, .bool B0]) W := fun W h => by
      rw [HKC.out, hG, hB0]; exact look_run h x.net x.bits
    have Sd : RtAt w4.drew rt b L ck bh ∧ CellsAt w4.drew s5 0 KC := ⟨R4.later (later_drew _), C4.out⟩
    obtain ⟨u5, w5, hu5, hw5, cu5, fu5, c5, b5, l5⟩ := newV w4.drew 57 zRw.cells G.cells rfl
    have Su : RtAt u5 rt b L ck bh ∧ CellsAt u5 s5 0 KC := ⟨Sd.1.later (by rw [hu5]; exact (Below.refl _ _).alloc (Nat.le_refl _) _), Sd.2.later (C4.out.lt (by rw [LK.out]; decide)) (by rw [hu5]; exact (Below.refl _ _).alloc (Nat.le_refl _) _)⟩
    have S5 : RtAt w5 rt b L ck bh ∧ CellsAt w5 s5 0 KC := ⟨Sd.1.later b5, Sd.2.later (C4.out.lt (by rw [LK.out]; decide)) b5⟩
    refine wp_region_held (S := fun W => RtAt W rt b L ck bh ∧ CellsAt W s5 0 KC) (by kernel_rfl) ?_
    refine takeD (i := 0) (v := .pointer (some ⟨rt, 0, none⟩)) 17 rfl rfl (by kernel_rfl) (by kernel_rfl) (by kernel_rfl) (fun _ _ _ h => h) (.inl ⟨by rfl, fun W hW => exec_move _ _ rfl rfl⟩) (Sd) ?_
    try simp only [Act.put, List.setIfInBounds_toArray, List.set_cons_zero, List.set_cons_succ]
    refine takeD (i := 1) (v := .pointer (some ⟨rt, 0, none⟩)) 18 rfl rfl (by kernel_rfl) (by kernel_rfl) (by kernel_rfl) (fun _ _ _ h => h) (.inl ⟨by rfl, fun W hW => exec_nil _ _ rfl rfl⟩) (Sd) ?_
    try simp only [Act.put, List.setIfInBounds_toArray, List.set_cons_zero, List.set_cons_succ]
    refine takeD (i := 2) (v := .pointer (some ⟨rt, 0, none⟩)) 19 rfl rfl (by kernel_rfl) (by kernel_rfl) (by kernel_rfl) (fun _ _ _ h => h) (.inl ⟨by rfl, fun W hW => exec_fieldO 51 _ 0 rt 0 0 rfl rfl (fun w => by kernel_rfl)⟩) (Sd) ?_
    try simp only [Act.put, List.setIfInBounds_toArray, List.set_cons_zero, List.set_cons_succ]
    refine takeD (i := 3) (v := .map (some b)) 20 rfl rfl (by kernel_rfl) (by kernel_rfl) (by kernel_rfl) (fun _ _ _ h => h) (.inl ⟨by rfl, fun W hW => exec_load1 48 oneMp _ rfl rt 0 rfl (.map (some b)) (hW.1.c0)⟩) (Sd) ?_
    try simp only [Act.put, List.setIfInBounds_toArray, List.set_cons_zero, List.set_cons_succ]
    refine takeD (i := 4) (v := .agg KC.toArray) 21 rfl rfl (by kernel_rfl) (by kernel_rfl) (by kernel_rfl) (fun _ _ _ h => h) (.inl ⟨by rfl, fun W hW => exec_loadA 54 5 aggK sizK _ rfl s5 0 rfl KC LK.out hW.2⟩) (Sd) ?_
    try simp only [Act.put, List.setIfInBounds_toArray, List.set_cons_zero, List.set_cons_succ]
    refine takeD (i := 5) (v := .tuple #[.agg G.cells.toArray, .bool B0]) 22 rfl rfl (by kernel_rfl) (by kernel_rfl) (by kernel_rfl) (fun _ _ _ h => h) (.inl ⟨by rfl, fun W hW => exec_look _ _ _ _ _ _ _ rfl rfl rfl (LK4 W hW.1.map)⟩) (Sd) ?_
    try simp only [Act.put, List.setIfInBounds_toArray, List.set_cons_zero, List.set_cons_succ]
    refine takeD (i := 6) (v := .tuple #[.agg G.cells.toArray, .bool B0]) 16 rfl rfl (by kernel_rfl) (by kernel_rfl) (by kernel_rfl) (fun _ _ _ h => h) (.inl ⟨by rfl, fun W hW => exec_move _ _ rfl rfl⟩) (Sd) ?_
    try simp only [Act.put, List.setIfInBounds_toArray, List.set_cons_zero, List.set_cons_succ]
    refine takeD (i := 7) (v := .agg G.cells.toArray) 23 rfl rfl (by kernel_rfl) (by kernel_rfl) (by kernel_rfl) (fun _ _ _ h => h) (.inl ⟨by rfl, fun W hW => exec_ext _ _ [.agg G.cells.toArray, .bool B0] _ rfl rfl rfl⟩) (Sd) ?_
    try simp only [Act.put, List.setIfInBounds_toArray, List.set_cons_zero, List.set_cons_succ]
    refine takeD (i := 8) (v := .bool B0) 24 rfl rfl (by kernel_rfl) (by kernel_rfl) (by kernel_rfl) (fun _ _ _ h => h) (.inl ⟨by rfl, fun W hW => exec_ext _ _ [.agg G.cells.toArray, .bool B0] _ rfl rfl rfl⟩) (Sd) ?_
    try simp only [Act.put, List.setIfInBounds_toArray, List.set_cons_zero, List.set_cons_succ]
    refine nextD (w' := u5) 9 6 (.pointer (some ⟨w4.drew.heap.size, 0, none⟩)) (by kernel_rfl) rfl rfl (by rfl) (by rw [hu5]; exact exec_allocR rfl) (Su) ?_
    try simp only [Act.put, List.setIfInBounds_toArray, List.set_cons_zero, List.set_cons_succ]
    refine storeD (w' := w5) 10 (by kernel_rfl) rfl rfl (by rfl) (by rw [hw5]; exact exec_storeA 57 11 sizR _ _ rfl w4.drew.heap.size 0 rfl _ zRw.cells rfl rfl rfl cu5 fu5 (row_one _)) (S5) ?_
    try simp only [Act.put, List.setIfInBounds_toArray, List.set_cons_zero, List.set_cons_succ]
    refine takeD (i := 11) (v := .bool B0) 7 rfl rfl (by kernel_rfl) (by kernel_rfl) (by kernel_rfl) (fun _ _ _ h => h) (.inl ⟨by rfl, fun W hW => exec_assign _ _ rfl rfl⟩) (S5) ?_
    try simp only [Act.put, List.setIfInBounds_toArray, List.set_cons_zero, List.set_cons_succ]
    refine wpAnyH_done (by kernel_rfl) ?_ _
    obtain ⟨s6, hs6⟩ : ∃ s6, s6 = w4.drew.heap.size := ⟨_, rfl⟩
    rw [← hs6] at c5 l5 ⊢
    have C5 := hide c5
    have HB5 : Hid (Below w.heap.size w w5) := later HB4.out (later (later_drew _) b5)
    have C5s := hide (C4s.out.later L4s (later (later_drew _) b5))
    have C5k := hide S5.2
    have R5 := hide S5.1
    have L5s : s < w5.heap.size := Nat.lt_of_lt_of_le L4s (later (later_drew _) b5).size
    have LL : Hid (ws.length = L.length) := by unfold Hid; rw [← H3.out, List.length_map]
    have FI := hide (fnd_ix x.net x.bits L)
    rw [H3.out] at FI
    have HG := hide hG
    have HB0 := hide hB0
    have EX2 : Hid (∀ q : Int, X ++ [Value.int .i64 q] = x.cells ++ [.int .i64 q]) := fun q => by rw [HX.out]
    clear Sd Su S5 hu5 hw5 cu5 fu5 c5 b5 LK4 R4 hG hB0 hs6 C4 C4s L4s HB4
    cases hf : fnd x.net x.bits L with
    | some ir =>
      obtain ⟨i, r⟩ := ir
      have eB : B0 = true := by rw [HB0.out, hf]; rfl
      have eG : G = r := by rw [HG.out]; unfold gotR; rw [hf]
      have ei : Hid (ix x.net x.bits ws = some i) := by unfold Hid; rw [FI.out, hf]; rfl
      have e1 : Hid (adE ws x = 0) := by unfold Hid adE; rw [if_neg (by rw [hm]; decide), if_neg (by rw [ei.out]; simp)]
      have e2 : Hid (adL ws x = ws.set i x) := by unfold Hid adL; rw [if_neg (by rw [hm]; decide), ei.out]
      subst eB eG
      have x10 : w5.cell? ⟨s6, 10, none⟩ = some (.int .i64 G.pl) := C5.out 10 _ rfl
      have HF := hide hf
      clear hf
      go_upto_region 8 with fail
      have UP : ∀ W, MapAt W b L ck → (Instr.mapUpdate 48 (.map (some b)) (.agg KC.toArray) (.agg (X ++ [Value.int .i64 G.pl]).toArray)).run Try.prog W = .ok () (setBlock W b (.map ((L.set i (⟨x, G.pl, G.bn⟩ : Rw)).map ent).toArray ck)) := fun W h => by
        rw [HKC.out, EX2.out]; exact upd_old h x i G HF.out
      have RW : ∀ W, Below w5.heap.size w5.drew W → RtAt W rt b L ck bh := fun W hb => (R5.out.later (later_drew _)).later hb
      have KW : ∀ W, Below w5.heap.size w5.drew W → CellsAt W s5 0 KC := fun W hb => C5k.out.later (C5k.out.lt (by rw [LK.out]; decide)) (later (later_drew _) hb)
      have XW : ∀ W, Below w5.heap.size w5.drew W → CellsAt W s 0 X := fun W hb => C5s.out.later L5s (later (later_drew _) hb)
      have GW : ∀ W, Below w5.heap.size w5.drew W → W.cell? ⟨s6, 10, none⟩ = some (.int .i64 G.pl) := fun W hb => (hb.cell (p := ⟨s6, 10, none⟩) l5).trans x10
      refine region_grow_store (w := w5) (fun i v W => match i with | 0 => v = .pointer (some ⟨rt, 0, none⟩) | 1 => v = .pointer (some ⟨rt, 0, none⟩) | 2 => v = .pointer (some ⟨rt, 0, none⟩) | 3 => v = .map (some b) | 4 => v = .agg KC.toArray | 5 => v = .agg X.toArray | 6 => v = .pointer (some ⟨s6, 10, none⟩) | 7 => v = .int .i64 G.pl | 8 => v = .agg (X ++ [Value.int .i64 G.pl]).toArray | _ => True) (by kernel_rfl) (by kernel_rfl) (by kernel_rfl) 9 rfl _ rfl rfl (no_guard (by kernel_rfl)) (fun i v W W' h hb => match i, h with | 0, h => h | 1, h => h | 2, h => h | 3, h => h | 4, h => h | 5, h => h | 6, h => h | 7, h => h | 8, h => h | _ + 9, h => h) ?_ ?_
      · intro listed a W hM hn i o ho hlt hr
        have B := hM.bel
        match i, ho, hlt, hr with
        | 0, ho, _, hr =>
          have u0 : a.eval (.tmp 0) = .pointer (some ⟨rt, 0, none⟩) := hM.keep (t := 0) (by kernel_rfl)
          exact Step.of rfl (.inl ⟨.pointer (some ⟨rt, 0, none⟩), W, exec_move _ _ rfl u0, Below.refl _ _, rfl⟩) ho
        | 1, ho, _, hr =>
          have u45 := hM.use hr rfl (j := 0) (by kernel_rfl) rfl rfl
          have u45 : a.eval (.tmp 45) = .pointer (some ⟨rt, 0, none⟩) := u45
          exact Step.of rfl (.inl ⟨.pointer (some ⟨rt, 0, none⟩), W, exec_nil _ _ rfl u45, Below.refl _ _, rfl⟩) ho
        | 2, ho, _, hr =>
          have u46 := hM.use hr rfl (j := 1) (by kernel_rfl) rfl rfl
          have u46 : a.eval (.tmp 46) = .pointer (some ⟨rt, 0, none⟩) := u46
          exact Step.of rfl (.inl ⟨.pointer (some ⟨rt, 0, none⟩), W, exec_fieldO 51 _ 0 rt 0 0 rfl u46 (fun w => by kernel_rfl), Below.refl _ _, rfl⟩) ho
        | 3, ho, _, hr =>
          have u47 := hM.use hr rfl (j := 2) (by kernel_rfl) rfl rfl
          have u47 : a.eval (.tmp 47) = .pointer (some ⟨rt, 0, none⟩) := u47
          exact Step.of rfl (.inl ⟨.map (some b), W, exec_load1 48 oneMp _ rfl rt 0 u47 (.map (some b)) ((RW W B).c0), Below.refl _ _, rfl⟩) ho
        | 4, ho, _, hr =>
          have u5 : a.eval (.tmp 5) = .pointer (some ⟨s5, 0, none⟩) := hM.keep (t := 5) (by kernel_rfl)
          exact Step.of rfl (.inl ⟨.agg KC.toArray, W, exec_loadA 54 5 aggK sizK _ rfl s5 0 u5 KC LK.out (KW W B), Below.refl _ _, rfl⟩) ho
        | 5, ho, _, hr =>
          have u3 : a.eval (.tmp 3) = .pointer (some ⟨s, 0, none⟩) := hM.keep (t := 3) (by kernel_rfl)
          exact Step.of rfl (.inl ⟨.agg X.toArray, W, exec_loadA 33 10 aggW sizW _ rfl s 0 u3 X LX.out (XW W B), Below.refl _ _, rfl⟩) ho
        | 6, ho, _, hr =>
          have u6 : a.eval (.tmp 6) = .pointer (some ⟨s6, 0, none⟩) := hM.keep (t := 6) (by kernel_rfl)
          exact Step.of rfl (.inl ⟨.pointer (some ⟨s6, 10, none⟩), W, exec_fieldO 57 _ 1 s6 0 10 rfl u6 (fun w => by kernel_rfl), Below.refl _ _, rfl⟩) ho
        | 7, ho, _, hr =>
          have u51 := hM.use hr rfl (j := 6) (by kernel_rfl) rfl rfl
          have u51 : a.eval (.tmp 51) = .pointer (some ⟨s6, 10, none⟩) := u51
          exact Step.of rfl (.inl ⟨.int .i64 G.pl, W, exec_load1 3 one1 _ rfl s6 10 u51 (.int .i64 G.pl) (GW W B), Below.refl _ _, rfl⟩) ho
        | 8, ho, _, hr =>
          have u50 := hM.use hr rfl (j := 5) (by kernel_rfl) rfl rfl
          have u50 : a.eval (.tmp 50) = .agg X.toArray := u50
          have u52 := hM.use hr rfl (j := 7) (by kernel_rfl) rfl rfl
          have u52 : a.eval (.tmp 52) = .int .i64 G.pl := u52
          exact Step.of rfl (.inl ⟨.agg (X ++ [Value.int .i64 G.pl]).toArray, W, (by rw [EX2.out]; exact exec_bldR _ _ x G.pl rfl (by rw [← HX.out]; exact u50) u52), Below.refl _ _, rfl⟩) ho
        | n + 9, _, hlt, _ => exact absurd hlt (by omega)
      intro listed a W hM hl
      have B := hM.bel
      have p45 : a.tmps.getD 45 undef = .pointer (some ⟨rt, 0, none⟩) := hM.got 0 _ _ rfl (hl 0 (by decide)) rfl
      have p46 : a.tmps.getD 46 undef = .pointer (some ⟨rt, 0, none⟩) := hM.got 1 _ _ rfl (hl 1 (by decide)) rfl
      have p47 : a.tmps.getD 47 undef = .pointer (some ⟨rt, 0, none⟩) := hM.got 2 _ _ rfl (hl 2 (by decide)) rfl
      have p48 : a.tmps.getD 48 undef = .map (some b) := hM.got 3 _ _ rfl (hl 3 (by decide)) rfl
      have p49 : a.tmps.getD 49 undef = .agg KC.toArray := hM.got 4 _ _ rfl (hl 4 (by decide)) rfl
      have p50 : a.tmps.getD 50 undef = .agg X.toArray := hM.got 5 _ _ rfl (hl 5 (by decide)) rfl
      have p51 : a.tmps.getD 51 undef = .pointer (some ⟨s6, 10, none⟩) := hM.got 6 _ _ rfl (hl 6 (by decide)) rfl
      have p52 : a.tmps.getD 52 undef = .int .i64 G.pl := hM.got 7 _ _ rfl (hl 7 (by decide)) rfl
      have p53 : a.tmps.getD 53 undef = .agg (X ++ [Value.int .i64 G.pl]).toArray := hM.got 8 _ _ rfl (hl 8 (by decide)) rfl
      refine ⟨setBlock W b (.map ((L.set i (⟨x, G.pl, G.bn⟩ : Rw)).map ent).toArray ck), exec_upd _ _ _ _ _ _ _ _ rfl p48 p49 p53 (UP W (RW W B).map), ?_⟩
      rw [hM.lit [45, 46, 47, 48, 49, 50, 51, 52, 53] (by kernel_rfl)]
      clear hM hl
      simp only [fill, List.foldl_cons, List.foldl_nil, Act.put, List.setIfInBounds_toArray, List.set_cons_zero, List.set_cons_succ]
      clear p45
      generalize a.tmps.getD 45 undef = x45 at *
      clear p46
      generalize a.tmps.getD 46 undef = x46 at *
      clear p47
      generalize a.tmps.getD 47 undef = x47 at *
      clear p48
      generalize a.tmps.getD 48 undef = x48 at *
      clear p49
      generalize a.tmps.getD 49 undef = x49 at *
      clear p50
      generalize a.tmps.getD 50 undef = x50 at *
      clear p51
      generalize a.tmps.getD 51 undef = x51 at *
      clear p52
      generalize a.tmps.getD 52 undef = x52 at *
      clear p53
      generalize a.tmps.getD 53 undef = x53 at *
      have RE := hide ((RW W B).set (L.set i (⟨x, G.pl, G.bn⟩ : Rw)) ck)
      have BE : Hid (But (Two rt b) w (setBlock W b (.map ((L.set i (⟨x, G.pl, G.bn⟩ : Rw)).map ent).toArray ck))) := (But.of_below (later HB5.out (later (later_drew _) B))).trans (But.block_ (K := Two rt b) (.inr rfl) _)
      obtain ⟨we, hwe⟩ : ∃ we, we = setBlock W b (.map ((L.set i (⟨x, G.pl, G.bn⟩ : Rw)).map ent).toArray ck) := ⟨_, rfl⟩
      rw [← hwe] at RE BE ⊢
      clear hwe B RW KW XW GW UP x10
      go_wp2
      go_ret
      refine ⟨by rw [e1.out]; rfl, ?_, BE.out⟩
      rw [e2.out]
      refine ⟨_, ck, bh, RE.out, H2.out.put hm HW.out HF.out, ?_, h4, by omega⟩
      rw [← H3.out, List.map_set]
    | none =>
      have eB : B0 = false := by rw [HB0.out, hf]; rfl
      have ei : Hid (ix x.net x.bits ws = none) := by unfold Hid; rw [FI.out, hf]; rfl
      subst eB
      have HF := hide hf
      have LEN : ∀ ty, (Builtin.len_ #[48] ty #[.map (some b)]).run Try.prog w5 = .ok (.int .i64 (L.length : Int)) w5 := fun ty => len_run R5.out.map ty
      obtain ⟨n, hn⟩ : ∃ n, n = L.length := ⟨_, rfl⟩
      rw [← hn] at LEN LL
      have q0 := R5.out.c0
      clear hf
      by_cases h8 : n = 8
      · have e1 : Hid (adE ws x = 6) := by unfold Hid adE; rw [if_neg (by rw [hm]; decide), if_pos ⟨ei.out, by rw [LL.out]; exact h8⟩]
        have e2 : Hid (adL ws x = ws) := by unfold Hid adL; rw [if_neg (by rw [hm]; decide), ei.out]; exact if_pos (by rw [LL.out]; exact h8)
        have z8 : ((n : Int) == 8) = true := by rw [h8]; rfl
        clear hn h8
        go_wp2
        go_ret
        refine ⟨by rw [e1.out]; rfl, ?_, But.of_below HB5.out⟩
        rw [e2.out]
        exact ⟨L, ck, bh, R5.out, H2.out, H3.out, h4, by omega⟩
      · have e1 : Hid (adE ws x = 0) := by unfold Hid adE; rw [if_neg (by rw [hm]; decide), if_neg (by rw [LL.out]; exact fun h => h8 h.2)]
        have e2 : Hid (adL ws x = ws ++ [x]) := by unfold Hid adL; rw [if_neg (by rw [hm]; decide), ei.out]; exact if_neg (by rw [LL.out]; exact h8)
        have z8 : ((n : Int) == 8) = false := by simp; omega
        have lt8 : Hid (L.length < 8) := by have := H2.out.len; unfold Hid; omega
        clear hn h8
        go_upto_region 5 with fail
        clear LEN z8 q0
        have UP : ∀ W, MapAt W b L ck → (Instr.mapUpdate 48 (.map (some b)) (.agg KC.toArray) (.agg (X ++ [Value.int .i64 bh]).toArray)).run Try.prog W = .ok () (setBlock W b (.map ((L ++ [(⟨x, bh, ck⟩ : Rw)]).map ent).toArray (ck + 1))) := fun W h => by
          rw [HKC.out, EX2.out]; exact upd_new h x bh HF.out
        have RW : ∀ W, Below w5.heap.size w5.drew W → RtAt W rt b L ck bh := fun W hb => (R5.out.later (later_drew _)).later hb
        have KW : ∀ W, Below w5.heap.size w5.drew W → CellsAt W s5 0 KC := fun W hb => C5k.out.later (C5k.out.lt (by rw [LK.out]; decide)) (later (later_drew _) hb)
        have XW : ∀ W, Below w5.heap.size w5.drew W → CellsAt W s 0 X := fun W hb => C5s.out.later L5s (later (later_drew _) hb)
        refine region_grow_store (w := w5) (fun i v W => match i with | 0 => v = .pointer (some ⟨rt, 0, none⟩) | 1 => v = .pointer (some ⟨rt, 0, none⟩) | 2 => v = .pointer (some ⟨rt, 0, none⟩) | 3 => v = .map (some b) | 4 => v = .agg KC.toArray | 5 => v = .agg X.toArray | 6 => v = .pointer (some ⟨rt, 0, none⟩) | 7 => v = .pointer (some ⟨rt, 0, none⟩) | 8 => v = .pointer (some ⟨rt, 2, none⟩) | 9 => v = .int .i64 bh | 10 => v = .agg (X ++ [Value.int .i64 bh]).toArray | _ => True) (by kernel_rfl) (by kernel_rfl) (by kernel_rfl) 11 rfl _ rfl rfl (no_guard (by kernel_rfl)) (fun i v W W' h hb => match i, h with | 0, h => h | 1, h => h | 2, h => h | 3, h => h | 4, h => h | 5, h => h | 6, h => h | 7, h => h | 8, h => h | 9, h => h | 10, h => h | _ + 11, h => h) ?_ ?_
        · intro listed a W hM hn i o ho hlt hr
          have B := hM.bel
          match i, ho, hlt, hr with
          | 0, ho, _, hr =>
            have u0 : a.eval (.tmp 0) = .pointer (some ⟨rt, 0, none⟩) := hM.keep (t := 0) (by kernel_rfl)
            exact Step.of rfl (.inl ⟨.pointer (some ⟨rt, 0, none⟩), W, exec_move _ _ rfl u0, Below.refl _ _, rfl⟩) ho
          | 1, ho, _, hr =>
            have u25 := hM.use hr rfl (j := 0) (by kernel_rfl) rfl rfl
            have u25 : a.eval (.tmp 25) = .pointer (some ⟨rt, 0, none⟩) := u25
            exact Step.of rfl (.inl ⟨.pointer (some ⟨rt, 0, none⟩), W, exec_nil _ _ rfl u25, Below.refl _ _, rfl⟩) ho
          | 2, ho, _, hr =>
            have u26 := hM.use hr rfl (j := 1) (by kernel_rfl) rfl rfl
            have u26 : a.eval (.tmp 26) = .pointer (some ⟨rt, 0, none⟩) := u26
            exact Step.of rfl (.inl ⟨.pointer (some ⟨rt, 0, none⟩), W, exec_fieldO 51 _ 0 rt 0 0 rfl u26 (fun w => by kernel_rfl), Below.refl _ _, rfl⟩) ho
          | 3, ho, _, hr =>
            have u27 := hM.use hr rfl (j := 2) (by kernel_rfl) rfl rfl
            have u27 : a.eval (.tmp 27) = .pointer (some ⟨rt, 0, none⟩) := u27
            exact Step.of rfl (.inl ⟨.map (some b), W, exec_load1 48 oneMp _ rfl rt 0 u27 (.map (some b)) ((RW W B).c0), Below.refl _ _, rfl⟩) ho
          | 4, ho, _, hr =>
            have u5 : a.eval (.tmp 5) = .pointer (some ⟨s5, 0, none⟩) := hM.keep (t := 5) (by kernel_rfl)
            exact Step.of rfl (.inl ⟨.agg KC.toArray, W, exec_loadA 54 5 aggK sizK _ rfl s5 0 u5 KC LK.out (KW W B), Below.refl _ _, rfl⟩) ho
          | 5, ho, _, hr =>
            have u3 : a.eval (.tmp 3) = .pointer (some ⟨s, 0, none⟩) := hM.keep (t := 3) (by kernel_rfl)
            exact Step.of rfl (.inl ⟨.agg X.toArray, W, exec_loadA 33 10 aggW sizW _ rfl s 0 u3 X LX.out (XW W B), Below.refl _ _, rfl⟩) ho
          | 6, ho, _, hr =>
            have u0 : a.eval (.tmp 0) = .pointer (some ⟨rt, 0, none⟩) := hM.keep (t := 0) (by kernel_rfl)
            exact Step.of rfl (.inl ⟨.pointer (some ⟨rt, 0, none⟩), W, exec_move _ _ rfl u0, Below.refl _ _, rfl⟩) ho
          | 7, ho, _, hr =>
            have u31 := hM.use hr rfl (j := 6) (by kernel_rfl) rfl rfl
            have u31 : a.eval (.tmp 31) = .pointer (some ⟨rt, 0, none⟩) := u31
            exact Step.of rfl (.inl ⟨.pointer (some ⟨rt, 0, none⟩), W, exec_nil _ _ rfl u31, Below.refl _ _, rfl⟩) ho
          | 8, ho, _, hr =>
            have u32 := hM.use hr rfl (j := 7) (by kernel_rfl) rfl rfl
            have u32 : a.eval (.tmp 32) = .pointer (some ⟨rt, 0, none⟩) := u32
            exact Step.of rfl (.inl ⟨.pointer (some ⟨rt, 2, none⟩), W, exec_fieldO 51 _ 2 rt 0 2 rfl u32 (fun w => by kernel_rfl), Below.refl _ _, rfl⟩) ho
          | 9, ho, _, hr =>
            have u33 := hM.use hr rfl (j := 8) (by kernel_rfl) rfl rfl
            have u33 : a.eval (.tmp 33) = .pointer (some ⟨rt, 2, none⟩) := u33
            exact Step.of rfl (.inl ⟨.int .i64 bh, W, exec_load1 3 one1 _ rfl rt 2 u33 (.int .i64 bh) ((RW W B).c2), Below.refl _ _, rfl⟩) ho
          | 10, ho, _, hr =>
            have u30 := hM.use hr rfl (j := 5) (by kernel_rfl) rfl rfl
            have u30 : a.eval (.tmp 30) = .agg X.toArray := u30
            have u34 := hM.use hr rfl (j := 9) (by kernel_rfl) rfl rfl
            have u34 : a.eval (.tmp 34) = .int .i64 bh := u34
            exact Step.of rfl (.inl ⟨.agg (X ++ [Value.int .i64 bh]).toArray, W, (by rw [EX2.out]; exact exec_bldR _ _ x bh rfl (by rw [← HX.out]; exact u30) u34), Below.refl _ _, rfl⟩) ho
          | n + 11, _, hlt, _ => exact absurd hlt (by omega)
        intro listed a W hM hl
        have B := hM.bel
        have p25 : a.tmps.getD 25 undef = .pointer (some ⟨rt, 0, none⟩) := hM.got 0 _ _ rfl (hl 0 (by decide)) rfl
        have p26 : a.tmps.getD 26 undef = .pointer (some ⟨rt, 0, none⟩) := hM.got 1 _ _ rfl (hl 1 (by decide)) rfl
        have p27 : a.tmps.getD 27 undef = .pointer (some ⟨rt, 0, none⟩) := hM.got 2 _ _ rfl (hl 2 (by decide)) rfl
        have p28 : a.tmps.getD 28 undef = .map (some b) := hM.got 3 _ _ rfl (hl 3 (by decide)) rfl
        have p29 : a.tmps.getD 29 undef = .agg KC.toArray := hM.got 4 _ _ rfl (hl 4 (by decide)) rfl
        have p30 : a.tmps.getD 30 undef = .agg X.toArray := hM.got 5 _ _ rfl (hl 5 (by decide)) rfl
        have p31 : a.tmps.getD 31 undef = .pointer (some ⟨rt, 0, none⟩) := hM.got 6 _ _ rfl (hl 6 (by decide)) rfl
        have p32 : a.tmps.getD 32 undef = .pointer (some ⟨rt, 0, none⟩) := hM.got 7 _ _ rfl (hl 7 (by decide)) rfl
        have p33 : a.tmps.getD 33 undef = .pointer (some ⟨rt, 2, none⟩) := hM.got 8 _ _ rfl (hl 8 (by decide)) rfl
        have p34 : a.tmps.getD 34 undef = .int .i64 bh := hM.got 9 _ _ rfl (hl 9 (by decide)) rfl
        have p35 : a.tmps.getD 35 undef = .agg (X ++ [Value.int .i64 bh]).toArray := hM.got 10 _ _ rfl (hl 10 (by decide)) rfl
        refine ⟨setBlock W b (.map ((L ++ [(⟨x, bh, ck⟩ : Rw)]).map ent).toArray (ck + 1)), exec_upd _ _ _ _ _ _ _ _ rfl p28 p29 p35 (UP W (RW W B).map), ?_⟩
        rw [hM.lit [25, 26, 27, 28, 29, 30, 31, 32, 33, 34, 35] (by kernel_rfl)]
        clear hM hl
        simp only [fill, List.foldl_cons, List.foldl_nil, Act.put, List.setIfInBounds_toArray, List.set_cons_zero, List.set_cons_succ]
        clear p25
        generalize a.tmps.getD 25 undef = x25 at *
        clear p26
        generalize a.tmps.getD 26 undef = x26 at *
        clear p27
        generalize a.tmps.getD 27 undef = x27 at *
        clear p28
        generalize a.tmps.getD 28 undef = x28 at *
        clear p29
        generalize a.tmps.getD 29 undef = x29 at *
        clear p30
        generalize a.tmps.getD 30 undef = x30 at *
        clear p31
        generalize a.tmps.getD 31 undef = x31 at *
        clear p32
        generalize a.tmps.getD 32 undef = x32 at *
        clear p33
        generalize a.tmps.getD 33 undef = x33 at *
        clear p34
        generalize a.tmps.getD 34 undef = x34 at *
        clear p35
        generalize a.tmps.getD 35 undef = x35 at *
        have RE := hide ((RW W B).set (L ++ [(⟨x, bh, ck⟩ : Rw)]) (ck + 1))
        have BE : Hid (But (Two rt b) w (setBlock W b (.map ((L ++ [(⟨x, bh, ck⟩ : Rw)]).map ent).toArray (ck + 1)))) := (But.of_below (later HB5.out (later (later_drew _) B))).trans (But.block_ (K := Two rt b) (.inr rfl) _)
        obtain ⟨we, hwe⟩ : ∃ we, we = setBlock W b (.map ((L ++ [(⟨x, bh, ck⟩ : Rw)]).map ent).toArray (ck + 1)) := ⟨_, rfl⟩
        rw [← hwe] at RE BE ⊢
        have r2 := RE.out.c2
        have rf := RE.out.fz
        have bb : bh ≤ 4611686018427387904 := by omega
        clear hwe B RW KW XW UP
        go_wp2
        go_ret
        refine ⟨by rw [e1.out]; rfl, ?_, BE.out.trans ((But.refl (Two rt b) we).cellb (b := rt) (.inl rfl) 2 _)⟩
        rw [e2.out]
        refine ⟨_, ck + 1, bh + 1, RE.out.next (bh + 1), H2.out.add hm HW.out HF.out lt8.out, ?_, by omega, by omega⟩
        rw [← H3.out, List.map_append]
        rfl
end Go.Proofs.Ytlfacppkgamkgaa
