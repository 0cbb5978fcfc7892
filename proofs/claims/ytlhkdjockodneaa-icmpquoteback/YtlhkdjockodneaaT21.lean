
/-
  Package icmp: ports.
-/
import Derived.Test.YtlhkdjockodneaaT20
namespace Go.Proofs.Ytlhkdjockodneaa
open Go.RowKit Go.Shelf

/-- what a quote says -/
structure Qu where
  src : I4
  dst : I4
  pr : Int
  sp : Int
  dp : Int
  sq : Int
def Qu.cells (q : Qu) : List Value := q.src.vals ++ (q.dst.vals ++ [.int .i64 q.pr, .int .i64 q.sp, .int .i64 q.dp, .int .u32 q.sq])
def zQ : Qu := ⟨zI, zI, 0, 0, 0, 0⟩
def w32 (bs : List Int) (k : Nat) : Int := 16777216 * nb bs k + 65536 * nb bs (k + 1) + 256 * nb bs (k + 2) + nb bs (k + 3)
def pt (pr : Int) (bs : List Int) : Qu := ⟨zI, zI, pr, if pr = 6 ∨ pr = 17 then w16 bs 0 else if pr = 1 then w16 bs 4 else 0, if pr = 6 ∨ pr = 17 then w16 bs 2 else 0, if pr = 6 then w32 bs 4 else 0⟩
theorem aggQ (w : World) : (isAgg 38).run Try.prog w = .ok true w := by kernel_rfl
theorem sizQ (w : World) : (Go.sizeOf 38).run Try.prog w = .ok 12 w := by kernel_rfl
theorem qu_one (q : Qu) : ∀ u ∈ q.cells, u.oneCell' = true := by
  intro u hu
  simp only [Qu.cells, I4.vals, List.cons_append, List.nil_append, List.mem_cons, List.not_mem_nil, or_false] at hu
  rcases hu with rfl | rfl | rfl | rfl | rfl | rfl | rfl | rfl | rfl | rfl | rfl | rfl <;> rfl
theorem CellsAt.set {W : World} {q : Nat} {vs : List Value} (h : CellsAt W q 0 vs) (k : Nat) (x : Value) : CellsAt (W.setCell ⟨q, k, none⟩ x) q 0 (vs.set k x) := by
  intro j v hv
  rw [Nat.zero_add]
  rw [List.getElem?_set] at hv
  by_cases e : k = j
  · subst e
    rw [if_pos rfl] at hv
    split at hv
    · rename_i hk
      cases hv
      have := h k _ (List.getElem?_eq_getElem hk)
      rw [Nat.zero_add] at this
      exact World.cell?_setCell_same _ _ _ this
    · cases hv
  · rw [if_neg e] at hv
    rw [setCell_out (fun e2 => e e2.symm)]
    have := h j v hv
    rw [Nat.zero_add] at this
    exact this
theorem exec_zQ {o : Oper} {w : World} {ev : Operand → Value} (ho : o.op = .build 38 #[]) : (execOp ev o).run Try.prog w = .ok (.value (.agg zQ.cells.toArray)) w := by
  unfold execOp
  rw [ho]
  kernel_rfl
theorem exec_bldQ {o : Oper} {w : World} {ev : Operand → Value} (x : Operand) (p : Int) (ho : o.op = .build 38 #[(2, x)]) (hx : ev x = .int .i64 p) : (execOp ev o).run Try.prog w = .ok (.value (.agg (Qu.cells ⟨zI, zI, p, 0, 0, 0⟩).toArray)) w := by
  unfold execOp
  rw [ho]
  simp only [List.map_toArray, List.map_cons, List.map_nil, hx]
  kernel_rfl
/-- a new variable, a quote in it -/
theorem newQ (w : World) (X : List Value) (hX : X.length = 12) : ∃ w0 w1, w0 = w.alloc (.cells zQ.cells.toArray 38) ∧ w1 = w0.setCells w.heap.size 0 X ∧ CellsAt w0 w.heap.size 0 zQ.cells ∧ (∀ y, w0.frozen? ⟨w.heap.size, y, none⟩ = false) ∧ CellsAt w1 w.heap.size 0 X ∧ Below w.heap.size w w1 ∧ w.heap.size < w1.heap.size := by
  refine ⟨_, _, rfl, rfl, CellsAt.new w _ _, fun y => frozen_new w _ _ _, (CellsAt.new w _ _).stored hX, (later_alloc w _).trans ((But.cells w.heap.size X 0 _).below (by simp) (fun g hg e => by have e : g = w.heap.size := e; omega)), ?_⟩
  rw [size_setCells, World.size_alloc]
  omega
theorem At32_val (v : Value) (bs : List Int) (k : Nat) (W : World) (hb : IsB W.heap.size W v bs) (hB : Bytes bs) (hl : (bs.length : Int) ≤ 4611686018427387904) (hk : k + 4 ≤ bs.length) :
    Calls Try.prog 55 #[v, .int .i64 (k : Int)] W fun e W' => e = .returned (.tuple #[.int .u32 (w32 bs k), .int .i64 0]) ∧ Below W.heap.size W W' :=
  (At32_any v bs (k : Int) W hb hB hl (by omega)).mono (by
    rintro _ W' ⟨rfl, h⟩
    have hs : stB bs.length (k : Int) 4 = true := by unfold stB; exact decide_eq_true ⟨by omega, by omega⟩
    refine ⟨?_, h⟩
    unfold rd32 errOf
    rw [if_pos hs, if_pos hs]
    rfl)
set_option maxRecDepth 100000 in
set_option maxHeartbeats 8000000 in
theorem icPorts_any (pr : Int) (v : Value) (bs : List Int) (w : World) (hb : IsB w.heap.size w v bs) (hB : Bytes bs) (hl : (bs.length : Int) ≤ 4611686018427387904) (h8 : 8 ≤ bs.length) :
    Calls Try.prog 42 #[.int .i64 pr, v] w fun e w' => e = .returned (.agg (pt pr bs).cells.toArray) ∧ Below w.heap.size w w' := by
  obtain ⟨a, cap, rfl, _⟩ := hb.shape
  obtain ⟨s4, hs4⟩ : ∃ s4, s4 = w.heap.size := ⟨_, rfl⟩
  obtain ⟨w1, hw1⟩ : ∃ w1, w1 = w.alloc (.cells zQ.cells.toArray 38) := ⟨_, rfl⟩
  have b1 : Below w.heap.size w w1 := by rw [hw1]; exact later_alloc _ _
  have c1 : CellsAt w1 s4 0 zQ.cells := by rw [hw1, hs4]; exact CellsAt.new w _ _
  have f1 : ∀ y, w1.frozen? ⟨s4, y, none⟩ = false := fun y => by rw [hw1, hs4]; exact frozen_new w _ _ _
  have l1 : s4 < w1.heap.size := by rw [hw1, hs4]; simp
  obtain ⟨X, hX⟩ : ∃ X, X = Qu.cells ⟨zI, zI, pr, 0, 0, 0⟩ := ⟨_, rfl⟩
  have LX : Hid (X.length = 12) := by rw [hX]; exact rfl
  have OX : Hid (∀ u ∈ X, u.oneCell' = true) := by rw [hX]; exact qu_one _
  obtain ⟨u2, w2, hu2, hw2, cu2, fu2, c2, b2, l2⟩ := newQ w1 X LX.out
  obtain ⟨s5, hs5⟩ : ∃ s5, s5 = w1.heap.size := ⟨_, rfl⟩
  rw [← hs5] at hw2 cu2 fu2 c2 l2
  have f2 : ∀ y, w2.frozen? ⟨s5, y, none⟩ = false := fun y => by rw [hw2, World.frozen?_setCells]; exact fu2 y
  have CU := hide cu2
  have FU := hide fu2
  have HX := hide hX
  have B12 := hide b2
  have B2 := hide (later b1 b2)
  have C2 := hide c2
  have F2 := hide f2
  have R2 : Hid (∀ W, Below w2.heap.size w2 W → CellsAt W s4 0 zQ.cells ∧ ∀ y, W.frozen? ⟨s4, y, none⟩ = false) := fun W hW => ⟨c1.later l1 (later b2 hW), fun y => ((later b2 hW).frozen (p := ⟨s4, y, none⟩) l1).trans (f1 y)⟩
  have IB := hide hb
  have BY := hide hB
  have HL := hide hl
  have H8 := hide h8
  have S45 : s4 < s5 := by rw [hs5]; exact l1
  have HS4 := hide hs4
  obtain ⟨n, hn⟩ : ∃ n, n = bs.length := ⟨_, rfl⟩
  rw [← hn] at IB ⊢
  -- the end: q is told
  have FIN : ∀ (W : World) (Q : List Value), Below w2.heap.size w2 W ∨ But (Only s5) w2 W → True := fun _ _ _ => trivial
  have hw1' := hw1.symm
  have hs4' := hs4.symm
  have hu2' := hu2.symm
  have hs5' := hs5.symm
  have hw2' := hw2.symm
  simp only [zQ, Qu.cells, zI, I4.vals, List.cons_append, List.nil_append] at hw1' hu2'
  have EX : Hid (Value.agg (Qu.cells ⟨zI, zI, pr, 0, 0, 0⟩).toArray = .agg X.toArray) := by rw [hX]; exact rfl
  clear hb hB hl h8 hs4 hw1 b1 c1 f1 hX hu2 hw2 cu2 fu2 c2 b2 f2 hs5 hn FIN
  go_enter Try.func42, Try.ntmps42
  go_upto_region 2 with (first | (refine wpList_val rfl (exec_bldQ _ pr rfl rfl) ?_; rw [EX.out]) | (refine wpList_storeA rfl 38 12 sizQ _ _ rfl s5 0 rfl X zQ.cells rfl LX.out rfl CU.out FU.out OX.out ?_; intro _; rw [hw2']))
  clear hw1' hs4' hu2' hs5' hw2' CU FU
  have LZ0 : s4 < w2.heap.size := Nat.lt_of_lt_of_le l1 B12.out.size
  have C20 := C2.out
  rw [HX.out] at C20
  by_cases e6 : pr = 6
  · subst e6
    have AW : Hid (Calls Try.prog 55 #[.slice a n cap, .int .i64 4] w2 fun e W' => e = .returned (.tuple #[.int .u32 (w32 bs 4), .int .i64 0]) ∧ Below w2.heap.size w2 W') := At32_val _ bs 4 w2 (IB.out.later B2.out) BY.out HL.out (by have := H8.out; omega)
    go_wp2_with fail
    refine AW.out.mono ?_
    rintro _ w3 ⟨rfl, b3⟩
    have c3 := C20.later l2 b3
    have l3 : s5 < w3.heap.size := Nat.lt_of_lt_of_le l2 b3.size
    have f3 : ∀ y, w3.frozen? ⟨s5, y, none⟩ = false := fun y => (b3.frozen (p := ⟨s5, y, none⟩) l2).trans (F2.out y)
    have y11 : w3.cell? ⟨s5, 11, none⟩ = some (.int .u32 0) := c3 11 _ rfl
    have y11f := f3 11
    obtain ⟨wx, hwx⟩ : ∃ wx, wx = w3.setCell ⟨s5, 11, none⟩ (.int .u32 (w32 bs 4)) := ⟨_, rfl⟩
    have CQ0 : Hid (CellsAt wx s5 0 (Qu.cells ⟨zI, zI, 6, 0, 0, w32 bs 4⟩)) := by rw [hwx]; exact c3.set 11 _
    have FQ0 : Hid (∀ y, wx.frozen? ⟨s5, y, none⟩ = false) := fun y => by rw [hwx, World.frozen?_setCell]; exact f3 y
    have box : But (Only s5) w3 wx := by rw [hwx]; exact (But.refl (Only s5) w3).cellb (b := s5) rfl 11 _
    have n45x : ¬ Only s5 s4 := fun e => by have e : s4 = s5 := e; omega
    have r3 := R2.out w3 b3
    have LZ3 : s4 < w3.heap.size := Nat.lt_of_lt_of_le LZ0 b3.size
    have RZ0 : Hid (CellsAt wx s4 0 zQ.cells ∧ ∀ y, wx.frozen? ⟨s4, y, none⟩ = false) := ⟨r3.1.but LZ3 box n45x, fun y => (box.frozen (p := ⟨s4, y, none⟩) LZ3 n45x).trans (r3.2 y)⟩
    have BW0 : Hid (Below w.heap.size w wx) := (later B2.out b3).trans (box.below (later B2.out b3).size (fun g hg e => by have e : g = s5 := e; have := HS4.out; omega))
    have L0 : s5 < wx.heap.size := Nat.lt_of_lt_of_le l3 box.size
    have LZ0 : s4 < wx.heap.size := Nat.lt_of_lt_of_le LZ3 box.size
    have hwx' := hwx.symm
    clear c3 f3 hwx box r3 b3 AW C20
    have A0 : Hid (Calls Try.prog 54 #[.slice a n cap, .int .i64 0] wx fun e W' => e = .returned (.int .i64 (w16 bs 0)) ∧ Below wx.heap.size wx W') :=
      (icAt_val _ bs 0 wx (IB.out.later BW0.out) BY.out HL.out (by have := H8.out; omega)).mono (by rintro _ W' ⟨_, rfl, rfl, h⟩; exact ⟨rfl, h⟩)
    go_wp2_with fail
    refine A0.out.mono ?_
    rintro _ w4 ⟨rfl, bw4⟩
    have BW4 := hide (later BW0.out bw4)
    have c4 := CQ0.out.later L0 bw4
    have L4 : s5 < w4.heap.size := Nat.lt_of_lt_of_le L0 bw4.size
    have A2 : Hid (Calls Try.prog 54 #[.slice a n cap, .int .i64 2] w4 fun e W' => e = .returned (.int .i64 (w16 bs 2)) ∧ Below w4.heap.size w4 W') :=
      (icAt_val _ bs 2 w4 (IB.out.later BW4.out) BY.out HL.out (by have := H8.out; omega)).mono (by rintro _ W' ⟨_, rfl, rfl, h⟩; exact ⟨rfl, h⟩)
    go_wp2_with fail
    refine A2.out.mono ?_
    rintro _ w5 ⟨rfl, bw5⟩
    have BW5 := hide (later BW4.out bw5)
    have c5 := c4.later L4 bw5
    have f5 : ∀ y, w5.frozen? ⟨s5, y, none⟩ = false := fun y => ((later bw4 bw5).frozen (p := ⟨s5, y, none⟩) L0).trans (FQ0.out y)
    have rz5 : CellsAt w5 s4 0 zQ.cells ∧ ∀ y, w5.frozen? ⟨s4, y, none⟩ = false := ⟨RZ0.out.1.later LZ0 (later bw4 bw5), fun y => ((later bw4 bw5).frozen (p := ⟨s4, y, none⟩) LZ0).trans (RZ0.out.2 y)⟩
    have LZ5 : s4 < w5.heap.size := Nat.lt_of_lt_of_le LZ0 (later bw4 bw5).size
    have y9 : w5.cell? ⟨s5, 9, none⟩ = some (.int .i64 0) := c5 9 _ rfl
    have y9f := f5 9
    obtain ⟨w6, hw6⟩ : ∃ w6, w6 = w5.setCell ⟨s5, 9, none⟩ (.int .i64 (w16 bs 0)) := ⟨_, rfl⟩
    have c6 : CellsAt w6 s5 0 (Qu.cells ⟨zI, zI, 6, w16 bs 0, 0, w32 bs 4⟩) := by rw [hw6]; exact c5.set 9 _
    have y10 : w6.cell? ⟨s5, 10, none⟩ = some (.int .i64 0) := c6 10 _ rfl
    have y10f : w6.frozen? ⟨s5, 10, none⟩ = false := by rw [hw6, World.frozen?_setCell]; exact f5 10
    obtain ⟨w7, hw7⟩ : ∃ w7, w7 = w6.setCell ⟨s5, 10, none⟩ (.int .i64 (w16 bs 2)) := ⟨_, rfl⟩
    have CQ : Hid (CellsAt w7 s5 0 (Qu.cells ⟨zI, zI, 6, w16 bs 0, w16 bs 2, w32 bs 4⟩)) := by rw [hw7]; exact c6.set 10 _
    have bo7 : But (Only s5) w5 w7 := by rw [hw7, hw6]; exact ((But.refl (Only s5) w5).cellb (b := s5) rfl 9 _).cellb (b := s5) rfl 10 _
    have n45 : ¬ Only s5 s4 := fun e => by have e : s4 = s5 := e; omega
    have RZ : Hid (CellsAt w7 s4 0 zQ.cells ∧ ∀ y, w7.frozen? ⟨s4, y, none⟩ = false) := ⟨rz5.1.but LZ5 bo7 n45, fun y => (bo7.frozen (p := ⟨s4, y, none⟩) LZ5 n45).trans (rz5.2 y)⟩
    have BW : Hid (Below w.heap.size w w7) := BW5.out.trans (bo7.below BW5.out.size (fun g hg e => by have e : g = s5 := e; have := HS4.out; omega))
    have hw6' := hw6.symm
    have hw7' := hw7.symm
    clear bw4 bw5 c4 c5 f5 rz5 hw6 hw7 c6 bo7 A0 A2
    obtain ⟨Z, hZ⟩ : ∃ Z, Z = Qu.cells ⟨zI, zI, 6, w16 bs 0, w16 bs 2, w32 bs 4⟩ := ⟨_, rfl⟩
    rw [← hZ] at CQ
    have LZ : Hid (Z.length = 12) := by rw [hZ]; exact rfl
    have OZ : Hid (∀ u ∈ Z, u.oneCell' = true) := by rw [hZ]; exact qu_one _
    obtain ⟨w9, hw9⟩ : ∃ w9, w9 = w7.setCells s4 0 Z := ⟨_, rfl⟩
    have bo9 := But.cells s4 Z 0 w7
    rw [← hw9] at bo9
    have C9 : Hid (CellsAt w9 s4 0 Z) := by rw [hw9]; exact RZ.out.1.stored (by rw [LZ.out]; rfl)
    have B9 : Hid (Below w.heap.size w w9) := BW.out.trans (bo9.below BW.out.size (fun g hg e => by have e : g = s4 := e; have := HS4.out; omega))
    have EZ : Hid (Z = (pt 6 bs).cells) := by rw [hZ]; exact (rfl)
    have hw9' := hw9.symm
    clear hZ hw9 bo9
    go_upto_region 9 with fail
    refine wp_region_list ?_
    refine wpList_loadA rfl 38 12 aggQ sizQ _ rfl s5 0 rfl Z LZ.out CQ.out ?_
    simp only [Act.put, List.setIfInBounds_toArray, List.set_cons_zero, List.set_cons_succ]
    refine wpList_storeA rfl 38 12 sizQ _ _ rfl s4 0 rfl Z zQ.cells rfl LZ.out rfl RZ.out.1 RZ.out.2 OZ.out ?_
    intro _
    rw [hw9']
    clear hw9'
    simp only [Act.put]
    go_wp2
    refine bodyPost_ret (v := .agg Z.toArray) (results_A rfl _ _ s4 _ rfl (run_loadVarA 38 12 aggQ sizQ s4 0 Z LZ.out C9.out)) rfl ?_
    exact ⟨by rw [EZ.out], B9.out⟩
  have z6 : (pr == 6) = false := by simpa using e6
  by_cases e17 : pr = 17
  · subst e17
    have CQ0 : Hid (CellsAt w2 s5 0 (Qu.cells ⟨zI, zI, 17, 0, 0, 0⟩)) := C20
    have FQ0 := F2
    have RZ0 := hide (R2.out w2 (Below.refl _ _))
    have BW0 := B2
    have L0 := l2
    clear C20 z6
    have A0 : Hid (Calls Try.prog 54 #[.slice a n cap, .int .i64 0] w2 fun e W' => e = .returned (.int .i64 (w16 bs 0)) ∧ Below w2.heap.size w2 W') :=
      (icAt_val _ bs 0 w2 (IB.out.later BW0.out) BY.out HL.out (by have := H8.out; omega)).mono (by rintro _ W' ⟨_, rfl, rfl, h⟩; exact ⟨rfl, h⟩)
    go_wp2_with fail
    refine A0.out.mono ?_
    rintro _ w4 ⟨rfl, bw4⟩
    have BW4 := hide (later BW0.out bw4)
    have c4 := CQ0.out.later L0 bw4
    have L4 : s5 < w4.heap.size := Nat.lt_of_lt_of_le L0 bw4.size
    have A2 : Hid (Calls Try.prog 54 #[.slice a n cap, .int .i64 2] w4 fun e W' => e = .returned (.int .i64 (w16 bs 2)) ∧ Below w4.heap.size w4 W') :=
      (icAt_val _ bs 2 w4 (IB.out.later BW4.out) BY.out HL.out (by have := H8.out; omega)).mono (by rintro _ W' ⟨_, rfl, rfl, h⟩; exact ⟨rfl, h⟩)
    go_wp2_with fail
    refine A2.out.mono ?_
    rintro _ w5 ⟨rfl, bw5⟩
    have BW5 := hide (later BW4.out bw5)
    have c5 := c4.later L4 bw5
    have f5 : ∀ y, w5.frozen? ⟨s5, y, none⟩ = false := fun y => ((later bw4 bw5).frozen (p := ⟨s5, y, none⟩) L0).trans (FQ0.out y)
    have rz5 : CellsAt w5 s4 0 zQ.cells ∧ ∀ y, w5.frozen? ⟨s4, y, none⟩ = false := ⟨RZ0.out.1.later LZ0 (later bw4 bw5), fun y => ((later bw4 bw5).frozen (p := ⟨s4, y, none⟩) LZ0).trans (RZ0.out.2 y)⟩
    have LZ5 : s4 < w5.heap.size := Nat.lt_of_lt_of_le LZ0 (later bw4 bw5).size
    have y9 : w5.cell? ⟨s5, 9, none⟩ = some (.int .i64 0) := c5 9 _ rfl
    have y9f := f5 9
    obtain ⟨w6, hw6⟩ : ∃ w6, w6 = w5.setCell ⟨s5, 9, none⟩ (.int .i64 (w16 bs 0)) := ⟨_, rfl⟩
    have c6 : CellsAt w6 s5 0 (Qu.cells ⟨zI, zI, 17, w16 bs 0, 0, 0⟩) := by rw [hw6]; exact c5.set 9 _
    have y10 : w6.cell? ⟨s5, 10, none⟩ = some (.int .i64 0) := c6 10 _ rfl
    have y10f : w6.frozen? ⟨s5, 10, none⟩ = false := by rw [hw6, World.frozen?_setCell]; exact f5 10
    obtain ⟨w7, hw7⟩ : ∃ w7, w7 = w6.setCell ⟨s5, 10, none⟩ (.int .i64 (w16 bs 2)) := ⟨_, rfl⟩
    have CQ : Hid (CellsAt w7 s5 0 (Qu.cells ⟨zI, zI, 17, w16 bs 0, w16 bs 2, 0⟩)) := by rw [hw7]; exact c6.set 10 _
    have bo7 : But (Only s5) w5 w7 := by rw [hw7, hw6]; exact ((But.refl (Only s5) w5).cellb (b := s5) rfl 9 _).cellb (b := s5) rfl 10 _
    have n45 : ¬ Only s5 s4 := fun e => by have e : s4 = s5 := e; omega
    have RZ : Hid (CellsAt w7 s4 0 zQ.cells ∧ ∀ y, w7.frozen? ⟨s4, y, none⟩ = false) := ⟨rz5.1.but LZ5 bo7 n45, fun y => (bo7.frozen (p := ⟨s4, y, none⟩) LZ5 n45).trans (rz5.2 y)⟩
    have BW : Hid (Below w.heap.size w w7) := BW5.out.trans (bo7.below BW5.out.size (fun g hg e => by have e : g = s5 := e; have := HS4.out; omega))
    have hw6' := hw6.symm
    have hw7' := hw7.symm
    clear bw4 bw5 c4 c5 f5 rz5 hw6 hw7 c6 bo7 A0 A2
    obtain ⟨Z, hZ⟩ : ∃ Z, Z = Qu.cells ⟨zI, zI, 17, w16 bs 0, w16 bs 2, 0⟩ := ⟨_, rfl⟩
    rw [← hZ] at CQ
    have LZ : Hid (Z.length = 12) := by rw [hZ]; exact rfl
    have OZ : Hid (∀ u ∈ Z, u.oneCell' = true) := by rw [hZ]; exact qu_one _
    obtain ⟨w9, hw9⟩ : ∃ w9, w9 = w7.setCells s4 0 Z := ⟨_, rfl⟩
    have bo9 := But.cells s4 Z 0 w7
    rw [← hw9] at bo9
    have C9 : Hid (CellsAt w9 s4 0 Z) := by rw [hw9]; exact RZ.out.1.stored (by rw [LZ.out]; rfl)
    have B9 : Hid (Below w.heap.size w w9) := BW.out.trans (bo9.below BW.out.size (fun g hg e => by have e : g = s4 := e; have := HS4.out; omega))
    have EZ : Hid (Z = (pt 17 bs).cells) := by rw [hZ]; exact (rfl)
    have hw9' := hw9.symm
    clear hZ hw9 bo9
    go_upto_region 9 with fail
    refine wp_region_list ?_
    refine wpList_loadA rfl 38 12 aggQ sizQ _ rfl s5 0 rfl Z LZ.out CQ.out ?_
    simp only [Act.put, List.setIfInBounds_toArray, List.set_cons_zero, List.set_cons_succ]
    refine wpList_storeA rfl 38 12 sizQ _ _ rfl s4 0 rfl Z zQ.cells rfl LZ.out rfl RZ.out.1 RZ.out.2 OZ.out ?_
    intro _
    rw [hw9']
    clear hw9'
    simp only [Act.put]
    go_wp2
    refine bodyPost_ret (v := .agg Z.toArray) (results_A rfl _ _ s4 _ rfl (run_loadVarA 38 12 aggQ sizQ s4 0 Z LZ.out C9.out)) rfl ?_
    exact ⟨by rw [EZ.out], B9.out⟩
  have z17 : (pr == 17) = false := by simpa using e17
  by_cases e1 : pr = 1
  · subst e1
    clear z6 z17
    have A4 : Hid (Calls Try.prog 54 #[.slice a n cap, .int .i64 4] w2 fun e W' => e = .returned (.int .i64 (w16 bs 4)) ∧ Below w2.heap.size w2 W') :=
      (icAt_val _ bs 4 w2 (IB.out.later B2.out) BY.out HL.out (by have := H8.out; omega)).mono (by rintro _ W' ⟨_, rfl, rfl, h⟩; exact ⟨rfl, h⟩)
    go_wp2_with fail
    refine A4.out.mono ?_
    rintro _ w4 ⟨rfl, bw4⟩
    have BW4 := hide (later B2.out bw4)
    have c4 := C20.later l2 bw4
    have f4 : ∀ y, w4.frozen? ⟨s5, y, none⟩ = false := fun y => (bw4.frozen (p := ⟨s5, y, none⟩) l2).trans (F2.out y)
    have rz4 := R2.out w4 bw4
    have LZ4 : s4 < w4.heap.size := Nat.lt_of_lt_of_le LZ0 bw4.size
    have y9 : w4.cell? ⟨s5, 9, none⟩ = some (.int .i64 0) := c4 9 _ rfl
    have y9f := f4 9
    obtain ⟨w6, hw6⟩ : ∃ w6, w6 = w4.setCell ⟨s5, 9, none⟩ (.int .i64 (w16 bs 4)) := ⟨_, rfl⟩
    have CQ : Hid (CellsAt w6 s5 0 (Qu.cells ⟨zI, zI, 1, w16 bs 4, 0, 0⟩)) := by rw [hw6]; exact c4.set 9 _
    have bo6 : But (Only s5) w4 w6 := by rw [hw6]; exact (But.refl (Only s5) w4).cellb (b := s5) rfl 9 _
    have n45 : ¬ Only s5 s4 := fun e => by have e : s4 = s5 := e; omega
    have RZ : Hid (CellsAt w6 s4 0 zQ.cells ∧ ∀ y, w6.frozen? ⟨s4, y, none⟩ = false) := ⟨rz4.1.but LZ4 bo6 n45, fun y => (bo6.frozen (p := ⟨s4, y, none⟩) LZ4 n45).trans (rz4.2 y)⟩
    have BW : Hid (Below w.heap.size w w6) := BW4.out.trans (bo6.below BW4.out.size (fun g hg e => by have e : g = s5 := e; have := HS4.out; omega))
    have hw6' := hw6.symm
    clear bw4 c4 f4 rz4 hw6 bo6 A4 C20
    obtain ⟨Z, hZ⟩ : ∃ Z, Z = Qu.cells ⟨zI, zI, 1, w16 bs 4, 0, 0⟩ := ⟨_, rfl⟩
    rw [← hZ] at CQ
    have LZ : Hid (Z.length = 12) := by rw [hZ]; exact rfl
    have OZ : Hid (∀ u ∈ Z, u.oneCell' = true) := by rw [hZ]; exact qu_one _
    obtain ⟨w9, hw9⟩ : ∃ w9, w9 = w6.setCells s4 0 Z := ⟨_, rfl⟩
    have bo9 := But.cells s4 Z 0 w6
    rw [← hw9] at bo9
    have C9 : Hid (CellsAt w9 s4 0 Z) := by rw [hw9]; exact RZ.out.1.stored (by rw [LZ.out]; rfl)
    have B9 : Hid (Below w.heap.size w w9) := BW.out.trans (bo9.below BW.out.size (fun g hg e => by have e : g = s4 := e; have := HS4.out; omega))
    have EZ : Hid (Z = (pt 1 bs).cells) := by rw [hZ]; exact (rfl)
    have hw9' := hw9.symm
    clear hZ hw9 bo9
    go_upto_region 9 with fail
    refine wp_region_list ?_
    refine wpList_loadA rfl 38 12 aggQ sizQ _ rfl s5 0 rfl Z LZ.out CQ.out ?_
    simp only [Act.put, List.setIfInBounds_toArray, List.set_cons_zero, List.set_cons_succ]
    refine wpList_storeA rfl 38 12 sizQ _ _ rfl s4 0 rfl Z zQ.cells rfl LZ.out rfl RZ.out.1 RZ.out.2 OZ.out ?_
    intro _
    rw [hw9']
    clear hw9'
    simp only [Act.put]
    go_wp2
    refine bodyPost_ret (v := .agg Z.toArray) (results_A rfl _ _ s4 _ rfl (run_loadVarA 38 12 aggQ sizQ s4 0 Z LZ.out C9.out)) rfl ?_
    exact ⟨by rw [EZ.out], B9.out⟩
  · have z1 : (pr == 1) = false := by simpa using e1
    have CQ : Hid (CellsAt w2 s5 0 (Qu.cells ⟨zI, zI, pr, 0, 0, 0⟩)) := C20
    have RZ := hide (R2.out w2 (Below.refl _ _))
    have BW := B2
    clear C20
    obtain ⟨Z, hZ⟩ : ∃ Z, Z = Qu.cells ⟨zI, zI, pr, 0, 0, 0⟩ := ⟨_, rfl⟩
    rw [← hZ] at CQ
    have LZ : Hid (Z.length = 12) := by rw [hZ]; exact rfl
    have OZ : Hid (∀ u ∈ Z, u.oneCell' = true) := by rw [hZ]; exact qu_one _
    obtain ⟨w9, hw9⟩ : ∃ w9, w9 = w2.setCells s4 0 Z := ⟨_, rfl⟩
    have bo9 := But.cells s4 Z 0 w2
    rw [← hw9] at bo9
    have C9 : Hid (CellsAt w9 s4 0 Z) := by rw [hw9]; exact RZ.out.1.stored (by rw [LZ.out]; rfl)
    have B9 : Hid (Below w.heap.size w w9) := BW.out.trans (bo9.below BW.out.size (fun g hg e => by have e : g = s4 := e; have := HS4.out; omega))
    have EZ : Hid (Z = (pt pr bs).cells) := by rw [hZ]; exact (by unfold Hid pt; simp [e6, e17, e1])
    have hw9' := hw9.symm
    clear hZ hw9 bo9
    go_upto_region 9 with fail
    refine wp_region_list ?_
    refine wpList_loadA rfl 38 12 aggQ sizQ _ rfl s5 0 rfl Z LZ.out CQ.out ?_
    simp only [Act.put, List.setIfInBounds_toArray, List.set_cons_zero, List.set_cons_succ]
    refine wpList_storeA rfl 38 12 sizQ _ _ rfl s4 0 rfl Z zQ.cells rfl LZ.out rfl RZ.out.1 RZ.out.2 OZ.out ?_
    intro _
    rw [hw9']
    clear hw9'
    simp only [Act.put]
    go_wp2
    refine bodyPost_ret (v := .agg Z.toArray) (results_A rfl _ _ s4 _ rfl (run_loadVarA 38 12 aggQ sizQ s4 0 Z LZ.out C9.out)) rfl ?_
    exact ⟨by rw [EZ.out], B9.out⟩
end Go.Proofs.Ytlhkdjockodneaa