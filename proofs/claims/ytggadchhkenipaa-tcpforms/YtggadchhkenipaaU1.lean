
/-
  Out of I13 I14 I15 I16 I17 I20 I21 I22 T10 T11 T15 T16 T18 T19 T21 T27: Pseudo_any, rPseudo_any, conv_same, lit_B, Gro.away, Gro.lies, Up, Up.now, Up.next, Up.and, CellsAt.up, Gro.up, IsB.up, exec_str, exec_eqs, exec_nes, exec_neErr, exec_neInt, turned, CellsAt.set.
-/
import Derived.Test.YtggadchhkenipaaT8
import Derived.Lib.SmallJoins
import Derived.Lib.SmallJoins
namespace Go.Proofs.Ytggadchhkenipaa
open Go.RowKit Go.Shelf

theorem conv_same (w : World) (C : Array Value) (n c : Nat) : (convert 24 24 (.slice (some ⟨w.heap.size, 0, none⟩) n c)).run Try.prog (w.alloc (.cells C 5)) = .ok (.slice (some ⟨w.heap.size, 0, none⟩) n c) (w.alloc (.cells C 5 (C.size, C.size + 1))) :=
  Lib.run_convert_bytes_const w _ _ C n c Try.underlying24 Try.underlying5
theorem lit_B (w : World) (bs : List Int) (fz : Nat × Nat) : IsB (w.heap.size + 1) (w.alloc (.cells (bs.map (Value.int .u8)).toArray 5 fz)) (.slice (some ⟨w.heap.size, 0, none⟩) bs.length bs.length) bs :=
  ⟨_, _, rfl, Nat.le_refl _, (fun h => by cases h), fun _ => ⟨w.heap.size, 0, rfl, by omega, fun j hj => by
    rw [Nat.zero_add, cell_of_row _ w.heap.size j (bs.map (Value.int .u8)).toArray 5 fz (heap_alloc_new w _)]
    simp [hj]⟩⟩
theorem Gro.cells {B : Nat} {W : World} {v : Value} {bs : List Int} (h : Gro B W v bs) (h0 : 0 < bs.length) : ∃ g c, v = .slice (some ⟨g, 0, none⟩) bs.length c ∧ B ≤ g ∧ g < W.heap.size ∧ bs.length ≤ c ∧ (∀ j, j < bs.length → W.cell? ⟨g, j, none⟩ = some (.int .u8 (nb bs j))) ∧ ∀ j, W.frozen? ⟨g, j, none⟩ = false := by
  obtain ⟨a, c, rfl, hc⟩ := h.isB.shape
  obtain ⟨g, rfl, hg, hcs, hf⟩ := h.block h0
  exact ⟨g, c, rfl, hg, World.block_lt_of_cell? W _ (hcs 0 h0), hc, hcs, hf⟩
/-- what a sum begins with -/
def psB (x y : I4) (p n : Int) : List Int := ipL x ++ (ipL y ++ ([0, p % 256] ++ put16 n))
theorem exec_conv8w {o : Oper} {w : World} {ev : Operand → Value} (x : Operand) (n : Int) (ho : o.op = .convert 3 5 x) (hx : ev x = .int .i64 n) : (execOp ev o).run Try.prog w = .ok (.value (.int .u8 (n % 256))) w := by
  have e : IntKind.u8.wrap n = n % 256 := by rw [IntKind.wrap_u8]
  unfold execOp
  simp [ho, hx, go_sem, e]
theorem exec_bsP4 {o : Oper} {w : World} {ev : Operand → Value} (x y z u : Operand) (a b c d : Option Addr) (la lb lc ld ca cb cc cd : Nat) (ho : o.op = .buildSlice 72 4 #[(0, x), (1, y), (2, z), (3, u)]) (hx : ev x = .slice a la ca) (hy : ev y = .slice b lb cb) (hz : ev z = .slice c lc cc) (hu : ev u = .slice d ld cd) : (execOp ev o).run Try.prog w = .ok (.value (.slice (some ⟨w.heap.size, 0, none⟩) 4 4)) (w.alloc (.cells #[.slice a la ca, .slice b lb cb, .slice c lc cc, .slice d ld cd] 24)) := by
  unfold execOp
  rw [ho]
  simp only [List.map_toArray, List.map_cons, List.map_nil, hx, hy, hz, hu]
  kernel_rfl
theorem row_parts4 {ev : Operand → Value} {o : Oper} {W : World} {x y z u : Operand} {p1 p2 p3 p4 : List Int} (ho : o.op = .buildSlice 72 4 #[(0, x), (1, y), (2, z), (3, u)]) (h1 : IsB W.heap.size W (ev x) p1) (h2 : IsB W.heap.size W (ev y) p2) (h3 : IsB W.heap.size W (ev z) p3) (h4 : IsB W.heap.size W (ev u) p4) :
    ∃ v W', (execOp ev o).run Try.prog W = .ok (.value v) W' ∧ Below W.heap.size W W' ∧ IsP W'.heap.size W' v [p1, p2, p3, p4] := by
  obtain ⟨a1, c1, e1, _⟩ := h1.shape
  obtain ⟨a2, c2, e2, _⟩ := h2.shape
  obtain ⟨a3, c3, e3, _⟩ := h3.shape
  obtain ⟨a4, c4, e4, _⟩ := h4.shape
  refine ⟨_, _, exec_bsP4 x y z u _ _ _ _ _ _ _ _ _ _ _ _ ho e1 e2 e3 e4, later_alloc _ _, ?_⟩
  rw [World.size_alloc, ← e1, ← e2, ← e3, ← e4]
  exact IsP_new [ev x, ev y, ev z, ev u] [p1, p2, p3, p4] rfl (fun j hj => by
    match j, hj with
    | 0, _ => exact h1
    | 1, _ => exact h2
    | 2, _ => exact h3
    | 3, _ => exact h4)
/-- two new variables with an address each -/
theorem twoI (w : World) (x y : I4) : ∃ w1 w2 s1 s2, s1 = w.heap.size ∧ w1 = w.alloc (.cells #[.int .u8 x.a, .int .u8 x.b, .int .u8 x.c, .int .u8 x.d] 35) ∧ s2 = w1.heap.size ∧ w2 = w1.alloc (.cells #[.int .u8 y.a, .int .u8 y.b, .int .u8 y.c, .int .u8 y.d] 35) ∧ CellsAt w2 s1 0 x.vals ∧ CellsAt w2 s2 0 y.vals ∧ Below w.heap.size w w2 ∧ s1 < w2.heap.size ∧ s2 < w2.heap.size ∧ s2 ≠ s1 := by
  refine ⟨_, _, _, _, rfl, rfl, rfl, rfl, (CellsAt.new w x.vals 35).later (by simp) (later_alloc _ _), CellsAt.new _ y.vals 35, (later_alloc w _).trans ((later_alloc _ _).mono (by simp)), by simp; omega, by simp, by simp⟩
set_option maxRecDepth 100000 in
set_option maxHeartbeats 4000000 in
theorem Pseudo_any (x y : I4) (p n : Int) (w : World) : Calls Try.prog 33 #[x.val, y.val, .int .i64 p, .int .i64 n] w fun e w' => ∃ v, e = .returned v ∧ IsB w'.heap.size w' v (psB x y p n) ∧ Below w.heap.size w w' := by
  obtain ⟨w1, w2, s1, s2, hs1, hw1, hs2, hw2, c1, c2, b2, l1, l2, _⟩ := twoI w x y
  have C1 := hide c1
  have C2 := hide c2
  have B2 := hide b2
  rw [show x.val = .agg #[.int .u8 x.a, .int .u8 x.b, .int .u8 x.c, .int .u8 x.d] from rfl, show y.val = .agg #[.int .u8 y.a, .int .u8 y.b, .int .u8 y.c, .int .u8 y.d] from rfl]
  have hs1' := hs1.symm
  have hs2' := hs2.symm
  have hw1' := hw1.symm
  have hw2' := hw2.symm
  have HS1 := hide hs1
  clear c1 c2 b2 hs1 hs2 hw1 hw2
  go_enter Try.func33, Try.ntmps33
  go_upto_region 1 with fail
  clear hs1' hs2' hw1' hw2'
  have CW : ∀ W, Below w2.heap.size w2.drew W → CellsAt W s1 0 x.vals ∧ CellsAt W s2 0 y.vals := fun W hb => ⟨C1.out.later l1 (((Below.refl _ w2).drew).trans hb), C2.out.later l2 (((Below.refl _ w2).drew).trans hb)⟩
  refine region_grow (w := w2) (fun i v W => match i with | 0 => v = .slice (some ⟨s1, 0, none⟩) 4 4 | 1 => v = .slice (some ⟨s2, 0, none⟩) 4 4 | 2 => v = .int .i64 p | 3 => v = .int .u8 (p % 256) | 4 => IsB W.heap.size W v [0, p % 256] | 5 => v = .int .i64 n | 6 => IsB W.heap.size W v (put16 n) | 7 => IsP W.heap.size W v [ipL x, ipL y, [0, p % 256], put16 n] | 8 => IsB W.heap.size W v ([ipL x, ipL y, [0, p % 256], put16 n].flatten) | 9 => IsB W.heap.size W v ([ipL x, ipL y, [0, p % 256], put16 n].flatten) | _ => True) (by kernel_rfl) (by kernel_rfl) (by kernel_rfl) (no_guard (by kernel_rfl)) (fun i v W W' h hb => match i, h with | 0, h => h | 1, h => h | 2, h => h | 3, h => h | 4, h => IsB.later h hb | 5, h => h | 6, h => IsB.later h hb | 7, h => IsP.later h hb | 8, h => IsB.later h hb | 9, h => IsB.later h hb | _ + 10, h => h) ?_ ?_
  · intro listed a W hM hn i o ho hr
    have B := hM.bel
    match i, ho, hr with
    | 0, ho, hr =>
      have u4 : a.eval (.tmp 4) = .pointer (some ⟨s1, 0, none⟩) := hM.keep (t := 4) (by kernel_rfl)
      exact Step.of rfl (.inl ⟨.slice (some ⟨s1, 0, none⟩) 4 4, W, exec_slI _ s1 0 rfl u4, Below.refl _ _, rfl⟩) ho
    | 1, ho, hr =>
      have u5 : a.eval (.tmp 5) = .pointer (some ⟨s2, 0, none⟩) := hM.keep (t := 5) (by kernel_rfl)
      exact Step.of rfl (.inl ⟨.slice (some ⟨s2, 0, none⟩) 4 4, W, exec_slI _ s2 0 rfl u5, Below.refl _ _, rfl⟩) ho
    | 2, ho, hr =>
      have u2 : a.eval (.tmp 2) = .int .i64 p := hM.keep (t := 2) (by kernel_rfl)
      exact Step.of rfl (.inl ⟨.int .i64 p, W, exec_move _ _ rfl u2, Below.refl _ _, rfl⟩) ho
    | 3, ho, hr =>
      have u11 := hM.use hr rfl (j := 2) (by kernel_rfl) rfl rfl
      have u11 : a.eval (.tmp 11) = .int .i64 p := u11
      exact Step.of rfl (.inl ⟨.int .u8 (p % 256), W, exec_conv8w _ _ rfl u11, Below.refl _ _, rfl⟩) ho
    | 4, ho, hr =>
      have u12 := hM.use hr rfl (j := 3) (by kernel_rfl) rfl rfl
      have u12 : a.eval (.tmp 12) = .int .u8 (p % 256) := u12
      refine Step.of rfl (.inl ?_) ho
      exact row_bytes2 rfl rfl u12
    | 5, ho, hr =>
      have u3 : a.eval (.tmp 3) = .int .i64 n := hM.keep (t := 3) (by kernel_rfl)
      exact Step.of rfl (.inl ⟨.int .i64 n, W, exec_move _ _ rfl u3, Below.refl _ _, rfl⟩) ho
    | 6, ho, hr =>
      have u14 := hM.use hr rfl (j := 5) (by kernel_rfl) rfl rfl
      have u14 : a.eval (.tmp 14) = .int .i64 n := u14
      refine Step.of rfl (.inr ⟨52, #[.int .i64 n], exec_callF _ _ _ _ rfl (map1 u14) (enters_of Try.func52 (by kernel_rfl) rfl), ?_⟩) ho
      exact number_isB _ W
    | 7, ho, hr =>
      have u9 := hM.use hr rfl (j := 0) (by kernel_rfl) rfl rfl
      have u9 : a.eval (.tmp 9) = .slice (some ⟨s1, 0, none⟩) 4 4 := u9
      have u10 := hM.use hr rfl (j := 1) (by kernel_rfl) rfl rfl
      have u10 : a.eval (.tmp 10) = .slice (some ⟨s2, 0, none⟩) 4 4 := u10
      have u13 := hM.use hr rfl (j := 4) (by kernel_rfl) rfl rfl
      have u13 : (fun v W => IsB W.heap.size W v [0, p % 256]) (a.eval (.tmp 13)) W := u13
      have u15 := hM.use hr rfl (j := 6) (by kernel_rfl) rfl rfl
      have u15 : (fun v W => IsB W.heap.size W v (put16 n)) (a.eval (.tmp 15)) W := u15
      refine Step.of rfl (.inl ?_) ho
      exact row_parts4 rfl (by rw [u9]; exact ip_isB (CW W B).1) (by rw [u10]; exact ip_isB (CW W B).2) u13 u15
    | 8, ho, hr =>
      have u16 := hM.use hr rfl (j := 7) (by kernel_rfl) rfl rfl
      have u16 : (fun v W => IsP W.heap.size W v [ipL x, ipL y, [0, p % 256], put16 n]) (a.eval (.tmp 16)) W := u16
      refine Step.of rfl (.inr ⟨51, #[a.eval (.tmp 16)], exec_callF _ _ _ _ rfl (map1 rfl) (enters_of Try.func51 (by kernel_rfl) rfl), ?_⟩) ho
      exact join_isB u16 (by simp) (by simp [ipL, put16])
    | 9, ho, hr =>
      have u17 := hM.use hr rfl (j := 8) (by kernel_rfl) rfl rfl
      have u17 : (fun v W => IsB W.heap.size W v ([ipL x, ipL y, [0, p % 256], put16 n].flatten)) (a.eval (.tmp 17)) W := u17
      exact Step.of rfl (.inl ⟨_, W, exec_assign _ _ rfl rfl, Below.refl _ _, u17⟩) ho
    | n + 10, ho, _ => exact absurd (Array.getElem?_eq_some_iff.1 ho).1 (by simp)
  intro listed a W hM hl
  have B := hM.bel
  have p9 : a.tmps.getD 9 undef = .slice (some ⟨s1, 0, none⟩) 4 4 := hM.got 0 _ _ rfl (hl 0 (by decide)) rfl
  have p10 : a.tmps.getD 10 undef = .slice (some ⟨s2, 0, none⟩) 4 4 := hM.got 1 _ _ rfl (hl 1 (by decide)) rfl
  have p11 : a.tmps.getD 11 undef = .int .i64 p := hM.got 2 _ _ rfl (hl 2 (by decide)) rfl
  have p12 : a.tmps.getD 12 undef = .int .u8 (p % 256) := hM.got 3 _ _ rfl (hl 3 (by decide)) rfl
  have p13 : (fun v W => IsB W.heap.size W v [0, p % 256]) (a.tmps.getD 13 undef) W := hM.got 4 _ _ rfl (hl 4 (by decide)) rfl
  have p14 : a.tmps.getD 14 undef = .int .i64 n := hM.got 5 _ _ rfl (hl 5 (by decide)) rfl
  have p15 : (fun v W => IsB W.heap.size W v (put16 n)) (a.tmps.getD 15 undef) W := hM.got 6 _ _ rfl (hl 6 (by decide)) rfl
  have p16 : (fun v W => IsP W.heap.size W v [ipL x, ipL y, [0, p % 256], put16 n]) (a.tmps.getD 16 undef) W := hM.got 7 _ _ rfl (hl 7 (by decide)) rfl
  have p17 : (fun v W => IsB W.heap.size W v ([ipL x, ipL y, [0, p % 256], put16 n].flatten)) (a.tmps.getD 17 undef) W := hM.got 8 _ _ rfl (hl 8 (by decide)) rfl
  have p8 : (fun v W => IsB W.heap.size W v ([ipL x, ipL y, [0, p % 256], put16 n].flatten)) (a.tmps.getD 8 undef) W := hM.got 9 _ _ rfl (hl 9 (by decide)) rfl
  rw [hM.lit [9, 10, 11, 12, 13, 14, 15, 16, 17, 8] (by kernel_rfl)]
  clear hM hl
  simp only [fill, List.foldl_cons, List.foldl_nil, Act.put, List.setIfInBounds_toArray, List.set_cons_zero, List.set_cons_succ]
  clear p9
  generalize a.tmps.getD 9 undef = x9 at *
  clear p10
  generalize a.tmps.getD 10 undef = x10 at *
  clear p11
  generalize a.tmps.getD 11 undef = x11 at *
  clear p12
  generalize a.tmps.getD 12 undef = x12 at *
  generalize a.tmps.getD 13 undef = x13 at *
  clear p14
  generalize a.tmps.getD 14 undef = x14 at *
  generalize a.tmps.getD 15 undef = x15 at *
  generalize a.tmps.getD 16 undef = x16 at *
  generalize a.tmps.getD 17 undef = x17 at *
  generalize a.tmps.getD 8 undef = x8 at *
  have B4 : Hid (Below w.heap.size w W) := B2.out.trans ((((Below.refl _ w2).drew).trans B).mono B2.out.size)
  have I8 : Hid (IsB W.heap.size W x8 (psB x y p n)) := by
    unfold Hid psB
    have e : ([ipL x, ipL y, [0, p % 256], put16 n] : List (List Int)).flatten = ipL x ++ (ipL y ++ ([0, p % 256] ++ put16 n)) := by simp
    rw [← e]
    exact p8
  obtain ⟨a8, c8, e8, _⟩ := I8.out.shape
  subst e8
  clear p13 p15 p16 p17 p8 B CW
  go_wp2
  go_ret
  exact ⟨_, rfl, I8.out, B4.out⟩
set_option maxHeartbeats 4000000 in
/-- ip: bytes with an address behind them -/
theorem rip_any (v : Value) (bs : List Int) (x : I4) (B : Nat) (w : World) (hB : B ≤ w.heap.size) (g : Gro B w v bs) (hl : bs.length ≤ 100000) : Calls Try.prog 63 #[v, x.val] w fun e w' => ∃ v', e = .returned v' ∧ Gro B w' v' (bs ++ ipL x) ∧ Below B w w' := by
  obtain ⟨a, c, rfl, _⟩ := g.isB.shape
  obtain ⟨s, hs⟩ : ∃ s, s = w.heap.size := ⟨_, rfl⟩
  obtain ⟨w1, hw1⟩ : ∃ w1, w1 = w.alloc (.cells #[.int .u8 x.a, .int .u8 x.b, .int .u8 x.c, .int .u8 x.d] 35) := ⟨_, rfl⟩
  have b1 : Below w.heap.size w w1 := by rw [hw1]; exact later_alloc _ _
  have c1 : CellsAt w1 s 0 x.vals := by rw [hw1, hs]; exact CellsAt.new w x.vals 35
  have x0 := c1 0 _ rfl
  have x1 := c1 1 _ rfl
  have x2 := c1 2 _ rfl
  have x3 := c1 3 _ rfl
  simp only [Nat.zero_add] at x0 x1 x2 x3
  obtain ⟨s2, hs2⟩ : ∃ s2, s2 = w1.heap.size := ⟨_, rfl⟩
  obtain ⟨w2, hw2⟩ : ∃ w2, w2 = w1.alloc (.cells #[.int .u8 x.a, .int .u8 x.b, .int .u8 x.c, .int .u8 x.d] 5) := ⟨_, rfl⟩
  have b2 : Below w1.heap.size w1 w2 := by rw [hw2]; exact later_alloc _ _
  have i2 : IsB w2.heap.size w2 (.slice (some ⟨s2, 0, none⟩) 4 4) (ipL x) := by rw [hw2, World.size_alloc, hs2]; exact IsB_new (ipL x) (by omega)
  have G2 := hide (g.later (b1.trans (b2.mono b1.size)))
  have I2 := hide i2
  have B2 : Hid (Below B w w2) := (b1.trans (b2.mono b1.size)).mono hB
  have Z2 : Hid (B ≤ w2.heap.size) := Nat.le_trans hB (b1.trans (b2.mono b1.size)).size
  obtain ⟨L, hL⟩ : ∃ L, bs ++ ipL x = L := ⟨_, rfl⟩
  have HL := hide hL
  have L4 : Hid (bs.length + (ipL x).length ≤ 140737488355328) := by show _ ≤ _; simp [ipL]; omega
  obtain ⟨N, hN⟩ : ∃ N, N = bs.length := ⟨_, rfl⟩
  rw [← hN] at G2 ⊢
  have HN := hide hN
  rw [hL]
  rw [show x.val = .agg #[.int .u8 x.a, .int .u8 x.b, .int .u8 x.c, .int .u8 x.d] from rfl]
  have hs' := hs.symm
  have hs2' := hs2.symm
  have hw1' := hw1.symm
  have hw2' := hw2.symm
  clear b1 c1 b2 i2 hs hs2 hw1 hw2 g hL hN hl
  go_enter Try.func63, Try.ntmps63
  go_wp2_with (at_builtin; refine wpList_growB rfl (.tmp 5) (.tmp 14) rfl rfl B (.slice a N c) _ bs (ipL x) rfl rfl G2.out I2.out Z2.out L4.out L HL.out ?_)
  intro a4 c4 w4 _ g4 b4
  have G4 := hide g4
  have B4 : Hid (Below B w w4) := B2.out.trans b4
  clear g4 b4
  go_wp2
  go_ret
  exact ⟨_, rfl, G4.out, B4.out⟩
theorem low_put (n : Int) : put16 (n % 65536) = put16 n := by
  unfold put16
  rw [show n % 65536 / 256 % 256 = n / 256 % 256 by omega, show n % 65536 % 256 = n % 256 by omega]
theorem low_mod (n : Int) : IntKind.u8.wrap ((n % 65536).tmod 256) = n % 256 := by
  rw [IntKind.wrap_u8, Int.tmod_eq_emod_of_nonneg (by omega)]
  omega
set_option maxRecDepth 100000 in
set_option maxHeartbeats 4000000 in
theorem rPseudo_any (x y : I4) (p n : Int) (w : World) : Calls Try.prog 55 #[x.val, y.val, .int .i64 p, .int .i64 n] w fun e w' => ∃ v, e = .returned v ∧ Gro w.heap.size w' v (psB x y p n) ∧ Below w.heap.size w w' := by
  obtain ⟨w1, w2, s1, s2, hs1, hw1, hs2, hw2, c1, c2, b2, l1, l2, _⟩ := twoI w x y
  have C1 := hide c1
  have C2 := hide c2
  have B2 := hide b2
  rw [show x.val = .agg #[.int .u8 x.a, .int .u8 x.b, .int .u8 x.c, .int .u8 x.d] from rfl, show y.val = .agg #[.int .u8 y.a, .int .u8 y.b, .int .u8 y.c, .int .u8 y.d] from rfl]
  have hs1' := hs1.symm
  have hs2' := hs2.symm
  have hw1' := hw1.symm
  have hw2' := hw2.symm
  have HS1 := hide hs1
  have LM := low_mod p
  clear c1 c2 b2 hs1 hs2 hw1 hw2
  go_enter Try.func55, Try.ntmps55
  go_wp2_with (refine wpList_loadA rfl 35 4 aggI sizI _ rfl s1 0 rfl x.vals rfl C1.out ?_)
  clear hs1' hs2' hw1' hw2'
  refine (rip_any (.slice none 0 0) [] x w2.heap.size w2 (Nat.le_refl _) (Gro.nil _ _) (by simp)).mono ?_
  rintro _ w3 ⟨v3, rfl, g3, b3⟩
  rw [List.nil_append] at g3
  obtain ⟨a3, c3, rfl, _⟩ := g3.isB.shape
  have B3 := hide b3
  have G3 := hide g3
  have C3 := hide (C2.out.later l2 b3)
  have Z3 := b3.size
  have EL : (ipL x).length = 4 := rfl
  rw [EL] at G3 ⊢
  clear b3 g3 C2 C1
  go_wp2_with (refine wpList_loadA rfl 35 4 aggI sizI _ rfl s2 0 rfl y.vals rfl C3.out ?_)
  refine (rip_any (.slice a3 4 c3) (ipL x) y w2.heap.size w3 Z3 G3.out (by simp [ipL])).mono ?_
  rintro _ w4 ⟨v4, rfl, g4, b4⟩
  obtain ⟨a4, c4, rfl, _⟩ := g4.isB.shape
  have B4 : Hid (Below w2.heap.size w2 w4) := B3.out.trans b4
  have G4 := hide g4
  have EL2 : (ipL x ++ ipL y).length = 8 := rfl
  rw [EL2] at G4 ⊢
  clear b4 g4 C3 B3 G3 Z3
  go_wp2_with fail
  refine (rLow_any _ _).mono ?_
  rintro _ w5 ⟨rfl, rfl⟩
  obtain ⟨s5, hs5⟩ : ∃ s5, s5 = w5.heap.size := ⟨_, rfl⟩
  obtain ⟨w6, hw6⟩ : ∃ w6, w6 = w5.alloc (.cells #[.int .u8 0, .int .u8 (p % 256)] 5) := ⟨_, rfl⟩
  have b6 : Below w5.heap.size w5 w6 := by rw [hw6]; exact later_alloc _ _
  have i6 : IsB w6.heap.size w6 (.slice (some ⟨s5, 0, none⟩) 2 2) [0, p % 256] := by rw [hw6, World.size_alloc, hs5]; exact IsB_new [0, p % 256] (by omega)
  have G6 := hide (G4.out.later b6)
  have I6 := hide i6
  have B6 : Hid (Below w2.heap.size w2 w6) := B4.out.trans (b6.mono B4.out.size)
  have hs5' := hs5.symm
  have hw6' := hw6.symm
  obtain ⟨L6, hL6⟩ : ∃ L6, (ipL x ++ ipL y) ++ [0, p % 256] = L6 := ⟨_, rfl⟩
  have HL6 := hide hL6
  have EL6 : Hid (L6.length = 10) := by show _ = _; rw [← hL6]; rfl
  clear b6 i6 hs5 hw6 G4 B4 hL6
  go_wp2_with (at_builtin; refine wpList_growB rfl (.tmp 15) (.tmp 20) rfl rfl w2.heap.size (.slice a4 8 c4) _ (ipL x ++ ipL y) [0, p % 256] rfl rfl G6.out I6.out B6.out.size (by simp [ipL]) L6 HL6.out ?_)
  intro a7 c7 w7 _ g7 b7
  have B7 : Hid (Below w2.heap.size w2 w7) := B6.out.trans b7
  have G7 := hide g7
  rw [EL6.out] at G7 ⊢
  clear g7 b7 G6 I6 B6 hs5' hw6'
  go_wp2_with fail
  refine (rLow_any _ _).mono ?_
  rintro _ w8 ⟨rfl, rfl⟩
  have PU := hide (rPut2_any (.slice a7 10 c7) L6 (n % 65536) w8 G7.out.isB (by rw [EL6.out]; decide) (by omega) (by omega))
  clear G7
  go_wp2_with fail
  refine PU.out.mono ?_
  rintro _ w9 ⟨v9, rfl, g9, b9⟩
  have e9 : L6 ++ put16 (n % 65536) = psB x y p n := by
    rw [low_put, ← HL6.out]
    unfold psB
    simp
  rw [e9] at g9
  have I9 : Hid (Gro w.heap.size w9 v9 (psB x y p n)) := g9.low (Nat.le_trans B2.out.size B7.out.size)
  have B9 : Hid (Below w.heap.size w w9) := B2.out.trans ((B7.out.trans (b9.mono B7.out.size)).mono B2.out.size)
  obtain ⟨a9, c9, rfl, _⟩ := I9.out.isB.shape
  clear g9 b9 PU B7 e9
  go_wp2
  go_ret
  exact ⟨_, rfl, I9.out, B9.out⟩
theorem exec_str {o : Oper} {w : World} {ev : Operand → Value} (x : Operand) (v : Value) (bs : List Int) (ho : o.op = .convert 24 9 x) (hx : ev x = v) (h : IsB w.heap.size w v bs) : (execOp ev o).run Try.prog w = .ok (.value (.string (strB bs))) w := by
  have e := conv_str h
  unfold execOp
  simp only [ho, hx, Sem.run_bind, Sem.run_pure, Result.andThen_ok, e]
theorem exec_eqs {o : Oper} {w : World} {ev : Operand → Value} (x y : Operand) (t : TypeId) (s : ByteArray) (ho : o.op = .binOp .eql 9 x y t) (hx : ev x = .string s) (hy : ev y = .string s) : (execOp ev o).run Try.prog w = .ok (.value (.bool true)) w := by
  unfold execOp
  simp [ho, hx, hy, go_sem]
theorem xor_bit : ∀ (x : Fin 256) (j : Fin 8), (bits BinOp.xor IntKind.u8 (x.val : Int) (2 ^ j.val % 256) - (x.val : Int) = 2 ^ j.val ∨ bits BinOp.xor IntKind.u8 (x.val : Int) (2 ^ j.val % 256) - (x.val : Int) = - 2 ^ j.val) ∧
    0 ≤ bits BinOp.xor IntKind.u8 (x.val : Int) (2 ^ j.val % 256) ∧ bits BinOp.xor IntKind.u8 (x.val : Int) (2 ^ j.val % 256) ≤ 255 := by decide +kernel
theorem xor_bit' (x : Int) (j : Nat) (x0 : 0 ≤ x) (x1 : x ≤ 255) (hj : j < 8) : (bits BinOp.xor IntKind.u8 x (2 ^ j % 256) - x = 2 ^ j ∨ bits BinOp.xor IntKind.u8 x (2 ^ j % 256) - x = - 2 ^ j) ∧
    0 ≤ bits BinOp.xor IntKind.u8 x (2 ^ j % 256) ∧ bits BinOp.xor IntKind.u8 x (2 ^ j % 256) ≤ 255 := by
  obtain ⟨n, rfl⟩ := Int.eq_ofNat_of_zero_le x0
  exact xor_bit ⟨n, by omega⟩ ⟨j, hj⟩
theorem turned (a : List Int) (k j : Nat) (Ba : Bytes a) (hk : k < a.length) (hj : j < 8) : csum a ≠ csum (a.set k (bits BinOp.xor IntKind.u8 (nb a k) (2 ^ j % 256))) := by
  obtain ⟨x0, x1⟩ := Ba.getD k
  have h := xor_bit' (nb a k) j x0 x1 hj
  have e := wsum_set a k (bits BinOp.xor IntKind.u8 (nb a k) (2 ^ j % 256)) hk
  have e : wsum (a.set k (bits BinOp.xor IntKind.u8 (nb a k) (2 ^ j % 256))) = wsum a + (bits BinOp.xor IntKind.u8 (nb a k) (2 ^ j % 256) - nb a k) * (if k % 2 = 0 then 256 else 1) := e
  generalize bits BinOp.xor IntKind.u8 (nb a k) (2 ^ j % 256) = y at *
  generalize nb a k = x at *
  have hp : ∃ d : Int, (d = 1 ∨ d = 2 ∨ d = 4 ∨ d = 8 ∨ d = 16 ∨ d = 32 ∨ d = 64 ∨ d = 128) ∧ (2 : Int) ^ j = d := by
    refine ⟨2 ^ j, ?_, rfl⟩
    have : j = 0 ∨ j = 1 ∨ j = 2 ∨ j = 3 ∨ j = 4 ∨ j = 5 ∨ j = 6 ∨ j = 7 := by omega
    rcases this with rfl | rfl | rfl | rfl | rfl | rfl | rfl | rfl <;> decide
  obtain ⟨d, hd, ed⟩ := hp
  rw [ed] at h
  have m1 := foldI_mod (wsum a)
  have m2 := foldI_mod (wsum (a.set k y))
  intro hc
  unfold csum at hc
  have hf : foldI (wsum a) = foldI (wsum (a.set k y)) := by omega
  rw [hf] at m1
  by_cases hk2 : k % 2 = 0
  · rw [if_pos hk2] at e
    omega
  · rw [if_neg hk2] at e
    omega
theorem str_fold : ∀ (bs : List Int) (r : ByteArray), (bs.foldl (fun r n => r.push (UInt8.ofNat n.toNat)) r).data.toList = r.data.toList ++ bs.map (fun n => UInt8.ofNat n.toNat)
  | [], r => by simp
  | x :: bs, r => by
    rw [List.foldl_cons, str_fold bs]
    simp [ByteArray.push]
theorem str_data (bs : List Int) : (strB bs).data.toList = bs.map (fun n => UInt8.ofNat n.toNat) := by
  unfold strB
  rw [str_fold]
  rfl
theorem byte_inj {x y : Int} (x0 : 0 ≤ x) (x1 : x ≤ 255) (y0 : 0 ≤ y) (y1 : y ≤ 255) (h : UInt8.ofNat x.toNat = UInt8.ofNat y.toNat) : x = y := by
  have h1 := congrArg UInt8.toNat h
  rw [UInt8.toNat_ofNat', UInt8.toNat_ofNat'] at h1
  omega
theorem map_inj : ∀ {X Y : List Int}, Bytes X → Bytes Y → X.map (fun n => UInt8.ofNat n.toNat) = Y.map (fun n => UInt8.ofNat n.toNat) → X = Y
  | [], [], _, _, _ => rfl
  | [], _ :: _, _, _, h => by simp at h
  | _ :: _, [], _, _, h => by simp at h
  | x :: X, y :: Y, hX, hY, h => by
    simp only [List.map_cons, List.cons.injEq] at h
    have hx := hX x (by simp)
    have hy := hY y (by simp)
    rw [byte_inj hx.1 hx.2 hy.1 hy.2 h.1, map_inj (fun z hz => hX z (by simp [hz])) (fun z hz => hY z (by simp [hz])) h.2]
theorem str_beq {X Y : List Int} (hX : Bytes X) (hY : Bytes Y) : ((strB X).toList == (strB Y).toList) = decide (X = Y) := by
  rw [ByteArray.toList_eq, ByteArray.toList_eq, str_data, str_data, Bool.eq_iff_iff]
  simp only [beq_iff_eq, decide_eq_true_eq]
  exact ⟨map_inj hX hY, fun e => by rw [e]⟩
theorem exec_nes {o : Oper} {w : World} {ev : Operand → Value} (x y : Operand) (t : TypeId) (X Y : List Int) (hX : Bytes X) (hY : Bytes Y) (ho : o.op = .binOp .neq 9 x y t) (hx : ev x = .string (strB X)) (hy : ev y = .string (strB Y)) : (execOp ev o).run Try.prog w = .ok (.value (.bool (!decide (X = Y)))) w := by
  have e := str_beq hX hY
  unfold execOp
  simp [ho, hx, hy, go_sem]
  by_cases h : X = Y
  · subst h; simp
  · rw [decide_eq_false h] at e
    rw [beq_eq_false_iff_ne] at e
    simp [e, h]
theorem Gro.away {B : Nat} {K : Nat → Prop} {A W : World} {v : Value} {bs : List Int} (h : Gro B A v bs) (hb : But K A W) (hk : ∀ g x y, v = .slice (some ⟨g, 0, none⟩) x y → ¬ K g) : Gro B W v bs := by
  obtain ⟨h1, h2 | ⟨g, cap, cur, rfl, hg, hh, r⟩⟩ := h
  · exact ⟨h1, .inl h2⟩
  · exact ⟨h1, .inr ⟨g, cap, cur, rfl, hg, by rw [hb.block g (Array.getElem?_eq_some_iff.1 hh).1 (hk g _ _ rfl)]; exact hh, r⟩⟩
theorem Gro.lies {B : Nat} {W : World} {v : Value} {bs : List Int} (h : Gro B W v bs) : ∀ g x y, v = .slice (some ⟨g, 0, none⟩) x y → B ≤ g ∧ g < W.heap.size := by
  intro g x y e
  obtain ⟨h1, ⟨rfl, _⟩ | ⟨g', cap, cur, rfl, hg, hh, r⟩⟩ := h
  · cases e
  · cases e
    exact ⟨hg, (Array.getElem?_eq_some_iff.1 hh).1⟩
/-- it holds, and will, as long as all that is there stays -/
def Up (a : World) (Φ : World → Prop) : Prop := ∀ W, Below a.heap.size a W → Φ W
theorem Up.now {a : World} {Φ : World → Prop} (h : Up a Φ) : Φ a := h a (Below.refl _ _)
theorem Up.next {a b : World} {Φ : World → Prop} (h : Up a Φ) (hb : Below a.heap.size a b) : Up b Φ := fun W hW => h W (later hb hW)
theorem Up.and {a : World} {Φ Ψ : World → Prop} (h : Up a Φ) (k : Up a Ψ) : Up a (fun W => Φ W ∧ Ψ W) := fun W hW => ⟨h W hW, k W hW⟩
theorem CellsAt.up {a : World} {s o : Nat} {vs : List Value} (h : CellsAt a s o vs) (hl : s < a.heap.size) : Up a (fun W => CellsAt W s o vs) := fun _ hW => h.later hl hW
theorem Gro.up {B : Nat} {a : World} {v : Value} {bs : List Int} (h : Gro B a v bs) : Up a (fun W => Gro B W v bs) := fun _ hW => h.later hW
theorem IsB.up {a : World} {v : Value} {bs : List Int} (h : IsB a.heap.size a v bs) : Up a (fun W => IsB W.heap.size W v bs) := fun _ hW => h.later hW
/-- what a quote says -/
structure Qu where
  src : I4
  dst : I4
  pr : Int
  sp : Int
  dp : Int
  sq : Int
def Qu.cells (q : Qu) : List Value := q.src.vals ++ (q.dst.vals ++ [.int .i64 q.pr, .int .i64 q.sp, .int .i64 q.dp, .int .u32 q.sq])
theorem CellsAt.set {W : World} {q : Nat} {vs : List Value} (h : CellsAt W q 0 vs) (k : Nat) (x : Value) : CellsAt (W.setCell ⟨q, k, none⟩ x) q 0 (vs.set k x) := by
  intro j v hv
  rw [Nat.zero_add]
  rw [List.getElem?_set] at hv
  by_cases e : k = j
  · subst e
    rw [if_pos rfl] at hv
    split at hv
    · rename_i hk
      cases hv
      have := h k _ (List.getElem?_eq_getElem hk)
      rw [Nat.zero_add] at this
      exact World.cell?_setCell_same _ _ _ this
    · cases hv
  · rw [if_neg e] at hv
    rw [setCell_out (fun e2 => e e2.symm)]
    have := h j v hv
    rw [Nat.zero_add] at this
    exact this
theorem exec_neErr {o : Oper} {w : World} {ev : Operand → Value} (x y : Operand) (t : TypeId) (a : Int) (ho : o.op = .binOp .neq 36 x y t) (hx : ev x = .int .i64 a) (hy : ev y = .int .i64 a) : (execOp ev o).run Try.prog w = .ok (.value (.bool false)) w := by
  unfold execOp
  simp [ho, hx, hy, go_sem]
theorem exec_neInt {o : Oper} {w : World} {ev : Operand → Value} (x y : Operand) (t : TypeId) (a : Int) (ho : o.op = .binOp .neq 3 x y t) (hx : ev x = .int .i64 a) (hy : ev y = .int .i64 a) : (execOp ev o).run Try.prog w = .ok (.value (.bool false)) w := by
  unfold execOp
  simp [ho, hx, hy, go_sem]
theorem exec_neb {o : Oper} {w : World} {ev : Operand → Value} (x y : Operand) (t : TypeId) (a : Bool) (ho : o.op = .binOp .neq 4 x y t) (hx : ev x = .bool a) (hy : ev y = .bool a) : (execOp ev o).run Try.prog w = .ok (.value (.bool false)) w := by
  unfold execOp
  simp [ho, hx, hy, go_sem]
theorem exec_gei2 {o : Oper} {w : World} {ev : Operand → Value} (x y : Operand) (t : TypeId) (a b : Int) (r : Bool) (ho : o.op = .binOp .geq 3 x y t) (hx : ev x = .int .i64 a) (hy : ev y = .int .i64 b) (hr : decide (b ≤ a) = r) : (execOp ev o).run Try.prog w = .ok (.value (.bool r)) w := by
  subst hr
  unfold execOp
  simp [ho, hx, hy, go_sem]

end Go.Proofs.Ytggadchhkenipaa
