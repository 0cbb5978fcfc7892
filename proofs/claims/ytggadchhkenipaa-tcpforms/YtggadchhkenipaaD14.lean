
/-
  The document's Same, where two segments are the same.
-/
import Derived.Test.YtggadchhkenipaaD13
namespace Go.Proofs.Ytggadchhkenipaa
open Go.RowKit Go.Shelf

theorem exec_neSp {o : Oper} {w : World} {ev : Operand → Value} (x y : Operand) (t : TypeId) (p : Sp) (ho : o.op = .binOp .neq 68 x y t) (hx : ev x = .agg p.cells.toArray) (hy : ev y = .agg p.cells.toArray) : (execOp ev o).run Try.prog w = .ok (.value (.bool false)) w := by
  obtain ⟨a, b⟩ := p
  unfold execOp
  simp [ho, hx, hy, go_sem, Sp.cells]
theorem exec_ixSp {o : Oper} {w : World} {ev : Operand → Value} (x y : Operand) (g off n c k : Nat) (ho : o.op = .indexAddr 23 x y) (hx : ev x = .slice (some ⟨g, off, none⟩) n c) (hy : ev y = .int .i64 (k : Int)) (hk : k < n) : (execOp ev o).run Try.prog w = .ok (.value (.pointer (some ⟨g, off + k * 2, none⟩))) w := by
  have hki : (k : Int) < n := by omega
  have hs : (Go.sizeOf 68).run Try.prog w = .ok 2 w := sizSp w
  unfold execOp
  simp [ho, hx, hy, go_sem, hki]
set_option maxRecDepth 100000 in
set_option maxHeartbeats 8000000 in
theorem SameT_true {P Q : Nat → Prop} (s : Sg) (gu du gv dv : Value) (w : World) (h1 : CG P w gu s.got) (h2 : CG Q w gv s.got) (d1 : IsB w.heap.size w du s.dat) (d2 : IsB w.heap.size w dv s.dat) (hgl : s.got.length ≤ 140737488355328) :
    Calls Try.prog 22 #[.agg (s.cells gu du).toArray, .agg (s.cells gv dv).toArray] w fun e w' => e = .returned (.bool true) ∧ Below w.heap.size w w' := by
  obtain ⟨s2, hs2⟩ : ∃ s2, s2 = w.heap.size := ⟨_, rfl⟩
  obtain ⟨X, hX⟩ : ∃ X, X = s.cells gu du := ⟨_, rfl⟩
  obtain ⟨Y, hY⟩ : ∃ Y, Y = s.cells gv dv := ⟨_, rfl⟩
  obtain ⟨w1, hw1⟩ : ∃ w1, w1 = (w.alloc (.cells X.toArray 26)).alloc (.cells Y.toArray 26) := ⟨_, rfl⟩
  have b1 : Below w.heap.size w w1 := by rw [hw1]; exact ((Below.refl _ w).alloc (Nat.le_refl _) _).alloc (by simp) _
  have cx : CellsAt w1 s2 0 (s.cells gu du) := by
    rw [hw1, hs2, ← hX]
    exact (CellsAt.new w X 26).but (by simp) ((But.refl (fun _ => False) _).alloc _) id
  have cy : CellsAt w1 (s2 + 1) 0 (s.cells gv dv) := by
    have := CellsAt.new (w.alloc (.cells X.toArray 26)) Y 26
    rw [World.size_alloc, ← hs2] at this
    rw [hw1, ← hY]; exact this
  obtain ⟨SO, hSO⟩ : ∃ SO, SO = strB s.dat := ⟨_, rfl⟩
  have CS : Hid (∀ W, Below w1.heap.size w1 W → (convert 24 9 du).run Try.prog W = .ok (.string SO) W ∧ (convert 24 9 dv).run Try.prog W = .ok (.string SO) W) := fun W hW => by
    rw [hSO]
    exact ⟨conv_str ((d1.later b1).later hW), conv_str ((d2.later b1).later hW)⟩
  have g1 := h1.later b1
  have g2 := h2.later b1
  obtain ⟨ga, gc, rfl⟩ := h1.shape
  obtain ⟨ha, hc, rfl⟩ := h2.shape
  obtain ⟨n, hn⟩ : ∃ n, n = s.got.length := ⟨_, rfl⟩
  rw [← hn] at cx cy hX hY hgl
  have zn : (n : Int) ≤ 140737488355328 := by omega
  have x0 := cx 0 _ rfl
  have y0 := cy 0 _ rfl
  have x1 := cx 1 _ rfl
  have y1 := cy 1 _ rfl
  have x2 := cx 2 _ rfl
  have y2 := cy 2 _ rfl
  have x3 := cx 3 _ rfl
  have y3 := cy 3 _ rfl
  have x4 := cx 4 _ rfl
  have y4 := cy 4 _ rfl
  have x5 := cx 5 _ rfl
  have y5 := cy 5 _ rfl
  have x6 := cx 6 _ rfl
  have y6 := cy 6 _ rfl
  have x7 := cx 7 _ rfl
  have y7 := cy 7 _ rfl
  have x8 := cx 8 _ rfl
  have y8 := cy 8 _ rfl
  have x9 := cx 9 _ rfl
  have y9 := cy 9 _ rfl
  simp only [Nat.zero_add] at x0 y0 x1 y1 x2 y2 x3 y3 x4 y4 x5 y5 x6 y6 x7 y7 x8 y8 x9 y9
  have HB := hide b1
  have HN := hide hn
  have CX := hide cx
  have CY := hide cy
  have G1 := hide g1
  have G2 := hide g2
  have hw1' : (w.alloc (.cells #[.int .i64 s.src, .int .i64 s.dst, .int .u32 s.seq, .int .u32 s.ack, .int .i64 s.flg, .int .i64 s.wnd, .int .i64 s.mss, .bool s.sak, .slice ga n gc, du] 26)).alloc (.cells #[.int .i64 s.src, .int .i64 s.dst, .int .u32 s.seq, .int .u32 s.ack, .int .i64 s.flg, .int .i64 s.wnd, .int .i64 s.mss, .bool s.sak, .slice ha n hc, dv] 26) = w1 := by rw [hw1, hX, hY]; rfl
  have hs2' := hs2.symm
  have HS2 := hide hs2
  rw [← hn]
  rw [show (Value.agg (s.cells (.slice ga n gc) du).toArray) = .agg #[.int .i64 s.src, .int .i64 s.dst, .int .u32 s.seq, .int .u32 s.ack, .int .i64 s.flg, .int .i64 s.wnd, .int .i64 s.mss, .bool s.sak, .slice ga n gc, du] from rfl, show (Value.agg (s.cells (.slice ha n hc) dv).toArray) = .agg #[.int .i64 s.src, .int .i64 s.dst, .int .u32 s.seq, .int .u32 s.ack, .int .i64 s.flg, .int .i64 s.wnd, .int .i64 s.mss, .bool s.sak, .slice ha n hc, dv] from rfl]
  clear hX hY cx cy b1 d1 d2 hSO h1 h2 g1 g2 hn hw1 hs2
  go_enter Try.func22, Try.ntmps22
  go_upto_region 3 with fail
  clear hw1' hs2' x0 y0 x1 y1 x2 y2 x3 y3 x4 y4 x5 y5 x6 y6 x7 y7
  have CC : Hid (∀ W, Below w1.heap.size w1 W → CellsAt W s2 0 (s.cells (.slice ga n gc) du) ∧ CellsAt W (s2 + 1) 0 (s.cells (.slice ha n hc) dv)) := fun W hW => ⟨CX.out.later (CX.out.lt (by rw [Sg.cells_len]; decide)) hW, CY.out.later (CY.out.lt (by rw [Sg.cells_len]; decide)) hW⟩
  clear CX CY x8 y8 x9 y9
  go_wp2
  go_loopw [5] (fun v5 wr => ∃ i : Nat, v5 = .int .i64 (i : Int) ∧ i ≤ n ∧ Hid (Below w1.heap.size w1 wr)) (fun v5 _ => n - (intOf v5).toNat)
  case atStart => exact ⟨0, rfl, Nat.zero_le _, Below.refl _ _⟩
  case round =>
    obtain ⟨i, rfl, hi, HW⟩ := hrel
    obtain ⟨cx, cy⟩ := CC.out wr HW.out
    have x8 : wr.cell? ⟨s2, 8, none⟩ = some (.slice ga n gc) := cx 8 _ rfl
    by_cases hlt : i < n
    · have zi : (i : Int) < (n : Int) := by omega
      obtain ⟨x, hx⟩ : ∃ x, s.got[i]? = some x := ⟨_, List.getElem?_eq_getElem (by rw [← HN.out]; exact hlt)⟩
      obtain ⟨_, _, e1, _, _, k1⟩ := G1.out.later HW.out
      simp only [Value.slice.injEq] at e1
      obtain ⟨e1, _, _⟩ := e1
      obtain ⟨g, og, e3, _, gl, kx⟩ := k1 (by rw [← HN.out]; omega)
      rw [← e1] at e3
      obtain ⟨_, _, e2, _, _, k2⟩ := G2.out.later HW.out
      simp only [Value.slice.injEq] at e2
      obtain ⟨e2, _, _⟩ := e2
      obtain ⟨h, oh, e4, _, hl, ky⟩ := k2 (by rw [← HN.out]; omega)
      rw [← e2] at e4
      have KX := hide (kx i x hx)
      have KY := hide (ky i x hx)
      subst e3 e4
      have lg : g < wr.heap.size := gl
      have lh : h < wr.heap.size := hl
      clear kx ky k1 k2 e1 e2 hx cx cy gl hl
      go_upto_region 6 with fail
      clear x8
      refine region_quiet_C (fun W => Below wr.heap.size wr W) (by kernel_rfl) (by kernel_rfl) (later_drew _) ?_
      go_big_quiet_want
      refine quiet_pure (.pointer (some ⟨s2, 8, none⟩)) (fun W hW => exec_fieldO 26 _ 8 s2 0 8 rfl rfl (fun w => by kernel_rfl)) ?_
      go_big_quiet_on
      simp only [Act.put, List.setIfInBounds_toArray, List.set_cons_succ, List.set_cons_zero]
      go_big_quiet_want
      refine quiet_pure (.slice (some ⟨g, og, none⟩) n gc) (fun W hW => exec_load1 23 oneSps _ rfl s2 8 rfl (.slice (some ⟨g, og, none⟩) n gc) ((CC.out W (later HW.out hW)).1 8 _ rfl)) ?_
      go_big_quiet_on
      simp only [Act.put, List.setIfInBounds_toArray, List.set_cons_succ, List.set_cons_zero]
      go_big_quiet_step (fail)
      go_big_quiet_want
      refine quiet_pure (.pointer (some ⟨g, og + i * 2, none⟩)) (fun W hW => exec_ixSp _ _ g og n gc i rfl rfl rfl hlt) ?_
      go_big_quiet_on
      simp only [Act.put, List.setIfInBounds_toArray, List.set_cons_succ, List.set_cons_zero]
      go_big_quiet_want
      refine quiet_pure (.agg (x.cells).toArray) (fun W hW => exec_loadA 68 2 aggSp sizSp _ rfl g (og + i * 2) rfl (x.cells) rfl (KX.out.later lg hW)) ?_
      go_big_quiet_on
      simp only [Act.put, List.setIfInBounds_toArray, List.set_cons_succ, List.set_cons_zero]
      go_big_quiet_want
      refine quiet_pure (.pointer (some ⟨s2 + 1, 8, none⟩)) (fun W hW => exec_fieldO 26 _ 8 (s2 + 1) 0 8 rfl rfl (fun w => by kernel_rfl)) ?_
      go_big_quiet_on
      simp only [Act.put, List.setIfInBounds_toArray, List.set_cons_succ, List.set_cons_zero]
      go_big_quiet_want
      refine quiet_pure (.slice (some ⟨h, oh, none⟩) n hc) (fun W hW => exec_load1 23 oneSps _ rfl (s2 + 1) 8 rfl (.slice (some ⟨h, oh, none⟩) n hc) ((CC.out W (later HW.out hW)).2 8 _ rfl)) ?_
      go_big_quiet_on
      simp only [Act.put, List.setIfInBounds_toArray, List.set_cons_succ, List.set_cons_zero]
      go_big_quiet_step (fail)
      go_big_quiet_want
      refine quiet_pure (.pointer (some ⟨h, oh + i * 2, none⟩)) (fun W hW => exec_ixSp _ _ h oh n hc i rfl rfl rfl hlt) ?_
      go_big_quiet_on
      simp only [Act.put, List.setIfInBounds_toArray, List.set_cons_succ, List.set_cons_zero]
      go_big_quiet_want
      refine quiet_pure (.agg (x.cells).toArray) (fun W hW => exec_loadA 68 2 aggSp sizSp _ rfl h (oh + i * 2) rfl (x.cells) rfl (KY.out.later lh hW)) ?_
      go_big_quiet_on
      simp only [Act.put, List.setIfInBounds_toArray, List.set_cons_succ, List.set_cons_zero]
      go_big_quiet_want
      refine quiet_pure (.bool false) (fun W hW => exec_neSp _ _ _ x rfl rfl rfl) ?_
      go_big_quiet_on
      simp only [Act.put, List.setIfInBounds_toArray, List.set_cons_succ, List.set_cons_zero]
      refine wpQuiet_nil ?_
      intro wq bq
      have BQ := hide (later HW.out bq)
      clear bq KX KY
      go_wp2
      go_roundw
      case rel => exact ⟨i + 1, by go_num, hlt, BQ.out⟩
      case measure => simp [intOf]; omega
    · obtain rfl : i = n := by omega
      have zi : ¬ (i : Int) < (i : Int) := by omega
      have x9 : wr.cell? ⟨s2, 9, none⟩ = some du := cx 9 _ rfl
      have y9 : wr.cell? ⟨s2 + 1, 9, none⟩ = some dv := cy 9 _ rfl
      obtain ⟨so, su⟩ := CS.out wr HW.out
      have BF := hide (HB.out.trans (HW.out.mono HB.out.size))
      clear cx cy
      go_wp2
      go_ret
      exact ⟨rfl, BF.out⟩
end Go.Proofs.Ytggadchhkenipaa
