
/-
  Package ip4: Pseudo; the document's answer of it.
-/
import Derived.Test.YtiglejmmdghmgaaI15
namespace Go.Proofs.Ytiglejmmdghmgaa
open Go.RowKit Go.Shelf

/-- what a sum begins with -/
def psB (x y : I4) (p n : Int) : List Int := ipL x ++ (ipL y ++ ([0, p % 256] ++ put16 n))
theorem exec_conv8w {o : Oper} {w : World} {ev : Operand → Value} (x : Operand) (n : Int) (ho : o.op = .convert 3 5 x) (hx : ev x = .int .i64 n) : (execOp ev o).run Try.prog w = .ok (.value (.int .u8 (n % 256))) w := by
  have e : IntKind.u8.wrap n = n % 256 := by rw [IntKind.wrap_u8]
  unfold execOp
  simp [ho, hx, go_sem, e]
theorem exec_bsP4 {o : Oper} {w : World} {ev : Operand → Value} (x y z u : Operand) (a b c d : Option Addr) (la lb lc ld ca cb cc cd : Nat) (ho : o.op = .buildSlice 63 4 #[(0, x), (1, y), (2, z), (3, u)]) (hx : ev x = .slice a la ca) (hy : ev y = .slice b lb cb) (hz : ev z = .slice c lc cc) (hu : ev u = .slice d ld cd) : (execOp ev o).run Try.prog w = .ok (.value (.slice (some ⟨w.heap.size, 0, none⟩) 4 4)) (w.alloc (.cells #[.slice a la ca, .slice b lb cb, .slice c lc cc, .slice d ld cd] 24)) := by
  unfold execOp
  rw [ho]
  simp only [List.map_toArray, List.map_cons, List.map_nil, hx, hy, hz, hu]
  kernel_rfl
theorem row_parts4 {ev : Operand → Value} {o : Oper} {W : World} {x y z u : Operand} {p1 p2 p3 p4 : List Int} (ho : o.op = .buildSlice 63 4 #[(0, x), (1, y), (2, z), (3, u)]) (h1 : IsB W.heap.size W (ev x) p1) (h2 : IsB W.heap.size W (ev y) p2) (h3 : IsB W.heap.size W (ev z) p3) (h4 : IsB W.heap.size W (ev u) p4) :
    ∃ v W', (execOp ev o).run Try.prog W = .ok (.value v) W' ∧ Below W.heap.size W W' ∧ IsP W'.heap.size W' v [p1, p2, p3, p4] := by
  obtain ⟨a1, c1, e1, _⟩ := h1.shape
  obtain ⟨a2, c2, e2, _⟩ := h2.shape
  obtain ⟨a3, c3, e3, _⟩ := h3.shape
  obtain ⟨a4, c4, e4, _⟩ := h4.shape
  refine ⟨_, _, exec_bsP4 x y z u _ _ _ _ _ _ _ _ _ _ _ _ ho e1 e2 e3 e4, later_alloc _ _, ?_⟩
  rw [World.size_alloc, ← e1, ← e2, ← e3, ← e4]
  exact IsP_new [ev x, ev y, ev z, ev u] [p1, p2, p3, p4] rfl (fun j hj => by
    match j, hj with
    | 0, _ => exact h1
    | 1, _ => exact h2
    | 2, _ => exact h3
    | 3, _ => exact h4)
/-- two new variables with an address each -/
theorem twoI (w : World) (x y : I4) : ∃ w1 w2 s1 s2, s1 = w.heap.size ∧ w1 = w.alloc (.cells #[.int .u8 x.a, .int .u8 x.b, .int .u8 x.c, .int .u8 x.d] 23) ∧ s2 = w1.heap.size ∧ w2 = w1.alloc (.cells #[.int .u8 y.a, .int .u8 y.b, .int .u8 y.c, .int .u8 y.d] 23) ∧ CellsAt w2 s1 0 x.vals ∧ CellsAt w2 s2 0 y.vals ∧ Below w.heap.size w w2 ∧ s1 < w2.heap.size ∧ s2 < w2.heap.size ∧ s2 ≠ s1 := by
  refine ⟨_, _, _, _, rfl, rfl, rfl, rfl, (CellsAt.new w x.vals 23).later (by simp) (later_alloc _ _), CellsAt.new _ y.vals 23, (later_alloc w _).trans ((later_alloc _ _).mono (by simp)), by simp; omega, by simp, by simp⟩
set_option maxRecDepth 100000 in
set_option maxHeartbeats 4000000 in
theorem Pseudo_any (x y : I4) (p n : Int) (w : World) : Calls Try.prog 15 #[x.val, y.val, .int .i64 p, .int .i64 n] w fun e w' => ∃ v, e = .returned v ∧ IsB w'.heap.size w' v (psB x y p n) ∧ Below w.heap.size w w' := by
  obtain ⟨w1, w2, s1, s2, hs1, hw1, hs2, hw2, c1, c2, b2, l1, l2, _⟩ := twoI w x y
  have C1 := hide c1
  have C2 := hide c2
  have B2 := hide b2
  rw [show x.val = .agg #[.int .u8 x.a, .int .u8 x.b, .int .u8 x.c, .int .u8 x.d] from rfl, show y.val = .agg #[.int .u8 y.a, .int .u8 y.b, .int .u8 y.c, .int .u8 y.d] from rfl]
  have hs1' := hs1.symm
  have hs2' := hs2.symm
  have hw1' := hw1.symm
  have hw2' := hw2.symm
  have HS1 := hide hs1
  clear c1 c2 b2 hs1 hs2 hw1 hw2
  go_enter Try.func15, Try.ntmps15
  go_upto_region 1 with fail
  clear hs1' hs2' hw1' hw2'
  have CW : ∀ W, Below w2.heap.size w2.drew W → CellsAt W s1 0 x.vals ∧ CellsAt W s2 0 y.vals := fun W hb => ⟨C1.out.later l1 (((Below.refl _ w2).drew).trans hb), C2.out.later l2 (((Below.refl _ w2).drew).trans hb)⟩
  refine region_grow (w := w2) (fun i v W => match i with | 0 => v = .slice (some ⟨s1, 0, none⟩) 4 4 | 1 => v = .slice (some ⟨s2, 0, none⟩) 4 4 | 2 => v = .int .i64 p | 3 => v = .int .u8 (p % 256) | 4 => IsB W.heap.size W v [0, p % 256] | 5 => v = .int .i64 n | 6 => IsB W.heap.size W v (put16 n) | 7 => IsP W.heap.size W v [ipL x, ipL y, [0, p % 256], put16 n] | 8 => IsB W.heap.size W v ([ipL x, ipL y, [0, p % 256], put16 n].flatten) | 9 => IsB W.heap.size W v ([ipL x, ipL y, [0, p % 256], put16 n].flatten) | _ => True) (by kernel_rfl) (by kernel_rfl) (by kernel_rfl) (no_guard (by kernel_rfl)) (fun i v W W' h hb => match i, h with | 0, h => h | 1, h => h | 2, h => h | 3, h => h | 4, h => IsB.later h hb | 5, h => h | 6, h => IsB.later h hb | 7, h => IsP.later h hb | 8, h => IsB.later h hb | 9, h => IsB.later h hb | _ + 10, h => h) ?_ ?_
  · intro listed a W hM hn i o ho hr
    have B := hM.bel
    match i, ho, hr with
    | 0, ho, hr =>
      have u4 : a.eval (.tmp 4) = .pointer (some ⟨s1, 0, none⟩) := hM.keep (t := 4) (by kernel_rfl)
      exact Step.of rfl (.inl ⟨.slice (some ⟨s1, 0, none⟩) 4 4, W, exec_slI _ s1 0 rfl u4, Below.refl _ _, rfl⟩) ho
    | 1, ho, hr =>
      have u5 : a.eval (.tmp 5) = .pointer (some ⟨s2, 0, none⟩) := hM.keep (t := 5) (by kernel_rfl)
      exact Step.of rfl (.inl ⟨.slice (some ⟨s2, 0, none⟩) 4 4, W, exec_slI _ s2 0 rfl u5, Below.refl _ _, rfl⟩) ho
    | 2, ho, hr =>
      have u2 : a.eval (.tmp 2) = .int .i64 p := hM.keep (t := 2) (by kernel_rfl)
      exact Step.of rfl (.inl ⟨.int .i64 p, W, exec_move _ _ rfl u2, Below.refl _ _, rfl⟩) ho
    | 3, ho, hr =>
      have u11 := hM.use hr rfl (j := 2) (by kernel_rfl) rfl rfl
      have u11 : a.eval (.tmp 11) = .int .i64 p := u11
      exact Step.of rfl (.inl ⟨.int .u8 (p % 256), W, exec_conv8w _ _ rfl u11, Below.refl _ _, rfl⟩) ho
    | 4, ho, hr =>
      have u12 := hM.use hr rfl (j := 3) (by kernel_rfl) rfl rfl
      have u12 : a.eval (.tmp 12) = .int .u8 (p % 256) := u12
      refine Step.of rfl (.inl ?_) ho
      exact row_bytes2 rfl rfl u12
    | 5, ho, hr =>
      have u3 : a.eval (.tmp 3) = .int .i64 n := hM.keep (t := 3) (by kernel_rfl)
      exact Step.of rfl (.inl ⟨.int .i64 n, W, exec_move _ _ rfl u3, Below.refl _ _, rfl⟩) ho
    | 6, ho, hr =>
      have u14 := hM.use hr rfl (j := 5) (by kernel_rfl) rfl rfl
      have u14 : a.eval (.tmp 14) = .int .i64 n := u14
      refine Step.of rfl (.inr ⟨22, #[.int .i64 n], exec_callF _ _ _ _ rfl (map1 u14) (enters_of Try.func22 (by kernel_rfl) rfl), ?_⟩) ho
      exact number_isB _ W
    | 7, ho, hr =>
      have u9 := hM.use hr rfl (j := 0) (by kernel_rfl) rfl rfl
      have u9 : a.eval (.tmp 9) = .slice (some ⟨s1, 0, none⟩) 4 4 := u9
      have u10 := hM.use hr rfl (j := 1) (by kernel_rfl) rfl rfl
      have u10 : a.eval (.tmp 10) = .slice (some ⟨s2, 0, none⟩) 4 4 := u10
      have u13 := hM.use hr rfl (j := 4) (by kernel_rfl) rfl rfl
      have u13 : (fun v W => IsB W.heap.size W v [0, p % 256]) (a.eval (.tmp 13)) W := u13
      have u15 := hM.use hr rfl (j := 6) (by kernel_rfl) rfl rfl
      have u15 : (fun v W => IsB W.heap.size W v (put16 n)) (a.eval (.tmp 15)) W := u15
      refine Step.of rfl (.inl ?_) ho
      exact row_parts4 rfl (by rw [u9]; exact ip_isB (CW W B).1) (by rw [u10]; exact ip_isB (CW W B).2) u13 u15
    | 8, ho, hr =>
      have u16 := hM.use hr rfl (j := 7) (by kernel_rfl) rfl rfl
      have u16 : (fun v W => IsP W.heap.size W v [ipL x, ipL y, [0, p % 256], put16 n]) (a.eval (.tmp 16)) W := u16
      refine Step.of rfl (.inr ⟨21, #[a.eval (.tmp 16)], exec_callF _ _ _ _ rfl (map1 rfl) (enters_of Try.func21 (by kernel_rfl) rfl), ?_⟩) ho
      exact join_isB u16 (by simp) (by simp [ipL, put16])
    | 9, ho, hr =>
      have u17 := hM.use hr rfl (j := 8) (by kernel_rfl) rfl rfl
      have u17 : (fun v W => IsB W.heap.size W v ([ipL x, ipL y, [0, p % 256], put16 n].flatten)) (a.eval (.tmp 17)) W := u17
      exact Step.of rfl (.inl ⟨_, W, exec_assign _ _ rfl rfl, Below.refl _ _, u17⟩) ho
    | n + 10, ho, _ => exact absurd (Array.getElem?_eq_some_iff.1 ho).1 (by simp)
  intro listed a W hM hl
  have B := hM.bel
  have p9 : a.tmps.getD 9 undef = .slice (some ⟨s1, 0, none⟩) 4 4 := hM.got 0 _ _ rfl (hl 0 (by decide)) rfl
  have p10 : a.tmps.getD 10 undef = .slice (some ⟨s2, 0, none⟩) 4 4 := hM.got 1 _ _ rfl (hl 1 (by decide)) rfl
  have p11 : a.tmps.getD 11 undef = .int .i64 p := hM.got 2 _ _ rfl (hl 2 (by decide)) rfl
  have p12 : a.tmps.getD 12 undef = .int .u8 (p % 256) := hM.got 3 _ _ rfl (hl 3 (by decide)) rfl
  have p13 : (fun v W => IsB W.heap.size W v [0, p % 256]) (a.tmps.getD 13 undef) W := hM.got 4 _ _ rfl (hl 4 (by decide)) rfl
  have p14 : a.tmps.getD 14 undef = .int .i64 n := hM.got 5 _ _ rfl (hl 5 (by decide)) rfl
  have p15 : (fun v W => IsB W.heap.size W v (put16 n)) (a.tmps.getD 15 undef) W := hM.got 6 _ _ rfl (hl 6 (by decide)) rfl
  have p16 : (fun v W => IsP W.heap.size W v [ipL x, ipL y, [0, p % 256], put16 n]) (a.tmps.getD 16 undef) W := hM.got 7 _ _ rfl (hl 7 (by decide)) rfl
  have p17 : (fun v W => IsB W.heap.size W v ([ipL x, ipL y, [0, p % 256], put16 n].flatten)) (a.tmps.getD 17 undef) W := hM.got 8 _ _ rfl (hl 8 (by decide)) rfl
  have p8 : (fun v W => IsB W.heap.size W v ([ipL x, ipL y, [0, p % 256], put16 n].flatten)) (a.tmps.getD 8 undef) W := hM.got 9 _ _ rfl (hl 9 (by decide)) rfl
  rw [hM.lit [9, 10, 11, 12, 13, 14, 15, 16, 17, 8] (by kernel_rfl)]
  clear hM hl
  simp only [fill, List.foldl_cons, List.foldl_nil, Act.put, List.setIfInBounds_toArray, List.set_cons_zero, List.set_cons_succ]
  clear p9
  generalize a.tmps.getD 9 undef = x9 at *
  clear p10
  generalize a.tmps.getD 10 undef = x10 at *
  clear p11
  generalize a.tmps.getD 11 undef = x11 at *
  clear p12
  generalize a.tmps.getD 12 undef = x12 at *
  generalize a.tmps.getD 13 undef = x13 at *
  clear p14
  generalize a.tmps.getD 14 undef = x14 at *
  generalize a.tmps.getD 15 undef = x15 at *
  generalize a.tmps.getD 16 undef = x16 at *
  generalize a.tmps.getD 17 undef = x17 at *
  generalize a.tmps.getD 8 undef = x8 at *
  have B4 : Hid (Below w.heap.size w W) := B2.out.trans ((((Below.refl _ w2).drew).trans B).mono B2.out.size)
  have I8 : Hid (IsB W.heap.size W x8 (psB x y p n)) := by
    unfold Hid psB
    have e : ([ipL x, ipL y, [0, p % 256], put16 n] : List (List Int)).flatten = ipL x ++ (ipL y ++ ([0, p % 256] ++ put16 n)) := by simp
    rw [← e]
    exact p8
  obtain ⟨a8, c8, e8, _⟩ := I8.out.shape
  subst e8
  clear p13 p15 p16 p17 p8 B CW
  go_wp2
  go_ret
  exact ⟨_, rfl, I8.out, B4.out⟩
set_option maxHeartbeats 4000000 in
/-- ip: bytes with an address behind them -/
theorem rip_any (v : Value) (bs : List Int) (x : I4) (B : Nat) (w : World) (hB : B ≤ w.heap.size) (g : Gro B w v bs) (hl : bs.length ≤ 100000) : Calls Try.prog 32 #[v, x.val] w fun e w' => ∃ v', e = .returned v' ∧ Gro B w' v' (bs ++ ipL x) ∧ Below B w w' := by
  obtain ⟨a, c, rfl, _⟩ := g.isB.shape
  obtain ⟨s, hs⟩ : ∃ s, s = w.heap.size := ⟨_, rfl⟩
  obtain ⟨w1, hw1⟩ : ∃ w1, w1 = w.alloc (.cells #[.int .u8 x.a, .int .u8 x.b, .int .u8 x.c, .int .u8 x.d] 23) := ⟨_, rfl⟩
  have b1 : Below w.heap.size w w1 := by rw [hw1]; exact later_alloc _ _
  have c1 : CellsAt w1 s 0 x.vals := by rw [hw1, hs]; exact CellsAt.new w x.vals 23
  have x0 := c1 0 _ rfl
  have x1 := c1 1 _ rfl
  have x2 := c1 2 _ rfl
  have x3 := c1 3 _ rfl
  simp only [Nat.zero_add] at x0 x1 x2 x3
  obtain ⟨s2, hs2⟩ : ∃ s2, s2 = w1.heap.size := ⟨_, rfl⟩
  obtain ⟨w2, hw2⟩ : ∃ w2, w2 = w1.alloc (.cells #[.int .u8 x.a, .int .u8 x.b, .int .u8 x.c, .int .u8 x.d] 5) := ⟨_, rfl⟩
  have b2 : Below w1.heap.size w1 w2 := by rw [hw2]; exact later_alloc _ _
  have i2 : IsB w2.heap.size w2 (.slice (some ⟨s2, 0, none⟩) 4 4) (ipL x) := by rw [hw2, World.size_alloc, hs2]; exact IsB_new (ipL x) (by omega)
  have G2 := hide (g.later (b1.trans (b2.mono b1.size)))
  have I2 := hide i2
  have B2 : Hid (Below B w w2) := (b1.trans (b2.mono b1.size)).mono hB
  have Z2 : Hid (B ≤ w2.heap.size) := Nat.le_trans hB (b1.trans (b2.mono b1.size)).size
  obtain ⟨L, hL⟩ : ∃ L, bs ++ ipL x = L := ⟨_, rfl⟩
  have HL := hide hL
  have L4 : Hid (bs.length + (ipL x).length ≤ 140737488355328) := by show _ ≤ _; simp [ipL]; omega
  obtain ⟨N, hN⟩ : ∃ N, N = bs.length := ⟨_, rfl⟩
  rw [← hN] at G2 ⊢
  have HN := hide hN
  rw [hL]
  rw [show x.val = .agg #[.int .u8 x.a, .int .u8 x.b, .int .u8 x.c, .int .u8 x.d] from rfl]
  have hs' := hs.symm
  have hs2' := hs2.symm
  have hw1' := hw1.symm
  have hw2' := hw2.symm
  clear b1 c1 b2 i2 hs hs2 hw1 hw2 g hL hN hl
  go_enter Try.func32, Try.ntmps32
  go_wp2_with (at_builtin; refine wpList_growB rfl (.tmp 5) (.tmp 14) rfl rfl B (.slice a N c) _ bs (ipL x) rfl rfl G2.out I2.out Z2.out L4.out L HL.out ?_)
  intro a4 c4 w4 _ g4 b4
  have G4 := hide g4
  have B4 : Hid (Below B w w4) := B2.out.trans b4
  clear g4 b4
  go_wp2
  go_ret
  exact ⟨_, rfl, G4.out, B4.out⟩
end Go.Proofs.Ytiglejmmdghmgaa
