
/-
  Package core: a connection and a verdict as values; its smallest functions.
-/
import Derived.Test.YtgdcdgofahhfdaaD2
namespace Go.Proofs.Ytgdcdgofahhfdaa
open Go.RowKit Go.Shelf

/-- a connection; a verdict -/
structure Ct where
  st : Int
  iss : Int
  una : Int
  nxt : Int
  fs : Bool
  wnd : Int
  wl1 : Int
  wl2 : Int
  irs : Int
  rcv : Int
  adv : Int
  deriving DecidableEq
structure Vd where
  nx : Ct
  rep : Int
  en : Int
  ack : Bool
  ag : Bool
  sk : Int
  tk : Int
  fin : Bool
  deriving DecidableEq
def u32In (n : Int) : Prop := 0 ≤ n ∧ n < 4294967296
structure Ct.Ok (c : Ct) : Prop where
  st : i64In c.st
  iss : u32In c.iss
  una : u32In c.una
  nxt : u32In c.nxt
  wnd : i64In c.wnd
  wl1 : u32In c.wl1
  wl2 : u32In c.wl2
  irs : u32In c.irs
  rcv : u32In c.rcv
  adv : u32In c.adv
def Ct.cells (c : Ct) : List Value := [.int .i64 c.st, .int .u32 c.iss, .int .u32 c.una, .int .u32 c.nxt, .bool c.fs, .int .i64 c.wnd, .int .u32 c.wl1, .int .u32 c.wl2, .int .u32 c.irs, .int .u32 c.rcv, .int .u32 c.adv]
def Vd.cells (v : Vd) : List Value := [.int .i64 v.nx.st, .int .u32 v.nx.iss, .int .u32 v.nx.una, .int .u32 v.nx.nxt, .bool v.nx.fs, .int .i64 v.nx.wnd, .int .u32 v.nx.wl1, .int .u32 v.nx.wl2, .int .u32 v.nx.irs, .int .u32 v.nx.rcv, .int .u32 v.nx.adv, .int .i64 v.rep, .int .i64 v.en, .bool v.ack, .bool v.ag, .int .i64 v.sk, .int .i64 v.tk, .bool v.fin]
theorem Ct.cells_len (c : Ct) : c.cells.length = 11 := rfl
theorem Vd.cells_len (v : Vd) : v.cells.length = 18 := rfl
theorem aggCt (w : World) : (isAgg 24).run Try.prog w = .ok true w := by kernel_rfl
theorem sizCt (w : World) : (Go.sizeOf 24).run Try.prog w = .ok 11 w := by kernel_rfl
theorem aggVd (w : World) : (isAgg 32).run Try.prog w = .ok true w := by kernel_rfl
theorem sizVd (w : World) : (Go.sizeOf 32).run Try.prog w = .ok 18 w := by kernel_rfl
theorem aggJg (w : World) : (isAgg 50).run Try.prog w = .ok true w := by kernel_rfl
theorem sizJg (w : World) : (Go.sizeOf 50).run Try.prog w = .ok 39 w := by kernel_rfl
theorem oneEr (w : World) : (isAgg 30).run Try.prog w = .ok false w := by kernel_rfl
theorem ct_one (c : Ct) : ∀ u ∈ c.cells, u.oneCell' = true := by
  intro u hu
  simp only [Ct.cells, List.mem_cons, List.not_mem_nil, or_false] at hu
  rcases hu with rfl | rfl | rfl | rfl | rfl | rfl | rfl | rfl | rfl | rfl | rfl <;> rfl
theorem vd_one (v : Vd) : ∀ u ∈ v.cells, u.oneCell' = true := by
  intro u hu
  simp only [Vd.cells, List.mem_cons, List.not_mem_nil, or_false] at hu
  rcases hu with rfl | rfl | rfl | rfl | rfl | rfl | rfl | rfl | rfl | rfl | rfl | rfl | rfl | rfl | rfl | rfl | rfl | rfl <;> rfl
theorem CellsAt.put {W : World} {s o : Nat} {vs : List Value} (h : CellsAt W s o vs) {k : Nat} (hk : k < vs.length) (v : Value) : CellsAt (W.setCell ⟨s, o + k, none⟩ v) s o (vs.set k v) := by
  intro i u hu
  by_cases e : i = k
  · subst e
    rw [List.getElem?_set_self hk] at hu
    cases hu
    exact World.cell?_setCell_same _ _ _ (h i _ (List.getElem?_eq_getElem hk))
  · rw [List.getElem?_set_ne (by omega)] at hu
    rw [setCell_out (by simp; omega)]
    exact h i u hu
theorem CellsAt.one {W : World} {s : Nat} {vs : List Value} (h : CellsAt W s 0 vs) {k : Nat} (hk : k < vs.length) (v : Value) : CellsAt (W.setCell ⟨s, k, none⟩ v) s 0 (vs.set k v) := by
  have h2 := h.put hk v
  rw [Nat.zero_add] at h2
  exact h2
theorem CellsAt.skip {W : World} {s o k : Nat} {vs : List Value} (h : CellsAt W s o vs) (v : Value) (hk : k < o ∨ o + vs.length ≤ k) : CellsAt (W.setCell ⟨s, k, none⟩ v) s o vs := by
  intro i u hu
  have hi : i < vs.length := (List.getElem?_eq_some_iff.1 hu).1
  rw [setCell_out (by simp; omega)]
  exact h i u hu
section
variable {ops : Array Oper} {rest : List Oper} {o : Oper} {a : Act} {w : World} {Q : Exit → Act → World → Prop}
theorem wpList_loadAg (T : TypeId) (n : Nat) (hag : ∀ W, (isAgg T).run Try.prog W = .ok true W) (hsz : ∀ W, (Go.sizeOf T).run Try.prog W = .ok n W) (x : Operand) (ho : o.op = .load T x)
    (s k : Nat) (hx : a.eval x = .pointer (some ⟨s, k, none⟩)) (vs : List Value) (hl : vs.length = n) (hg : CellsAt w s k vs) (hw : Region.wanted o (yielded ops a.tmps) = true)
    (h : wpList Try.prog ops Q rest (a.put o.dst (.agg vs.toArray)) w) : wpList Try.prog ops Q (o :: rest) a w := by
  refine wpList_step fun K hK => ?_
  rw [if_pos hw]
  unfold Oper.wp execOp
  have hg' := hg.loads
  rw [hl] at hg'
  simp only [ho, hx, Instr.loadAt, Instr.sureAddr, loadVar, Sem.run_bind, Sem.run_pure, Result.andThen_ok, hag, hsz, if_true, hg']
  exact hK _ _ h
end
/-- what is judged: a connection, a segment, the verdict so far -/
structure JgAt (W : World) (b : Nat) (c : Ct) (s : Sg) (gv dv : Value) (v : Vd) : Prop where
  cc : CellsAt W b 0 c.cells
  cs : CellsAt W b 11 (s.cells gv dv)
  cv : CellsAt W b 21 v.cells
  fz : ∀ y, W.frozen? ⟨b, y, none⟩ = false
  lt : b < W.heap.size
section
variable {W W' : World} {b : Nat} {c c' : Ct} {s : Sg} {gv dv : Value} {v v' : Vd}
theorem JgAt.later (h : JgAt W b c s gv dv v) (hB : Below W.heap.size W W') : JgAt W' b c s gv dv v :=
  ⟨h.cc.later h.lt hB, h.cs.later h.lt hB, h.cv.later h.lt hB, fun y => (hB.frozen (p := ⟨b, y, none⟩) h.lt).trans (h.fz y), Nat.lt_of_lt_of_le h.lt hB.size⟩
theorem JgAt.setC (h : JgAt W b c s gv dv v) {k : Nat} (hk : k < 11) (u : Value) (e : c'.cells = c.cells.set k u) : JgAt (W.setCell ⟨b, k, none⟩ u) b c' s gv dv v :=
  ⟨by have := h.cc.put (k := k) hk u; rw [Nat.zero_add, ← e] at this; exact this, h.cs.skip u (.inl hk), h.cv.skip u (.inl (by omega)), fun y => by rw [World.frozen?_setCell]; exact h.fz y, Nat.lt_of_lt_of_le h.lt ((But.refl (Only b) W).cellb (b := b) rfl k u).size⟩
theorem JgAt.setV (h : JgAt W b c s gv dv v) {k : Nat} (hk : k < 18) (u : Value) (e : v'.cells = v.cells.set k u) : JgAt (W.setCell ⟨b, 21 + k, none⟩ u) b c s gv dv v' :=
  ⟨h.cc.skip u (.inr (by rw [Ct.cells_len]; omega)), h.cs.skip u (.inr (by rw [Sg.cells_len]; omega)), by rw [e]; exact h.cv.put (k := k) hk u, fun y => by rw [World.frozen?_setCell]; exact h.fz y, Nat.lt_of_lt_of_le h.lt ((But.refl (Only b) W).cellb (b := b) rfl (21 + k) u).size⟩
end
theorem But.setOf {K : Nat → Prop} {w W : World} {b : Nat} (h : But K w W) (hb : K b) (k : Nat) (v : Value) : But K w (W.setCell ⟨b, k, none⟩ v) := h.setCell (.inr hb) _
theorem But.after {K : Nat → Prop} {a b c : World} (h : But K a b) (k : Below b.heap.size b c) : But K a c := h.trans (But.of_below k)

section
variable {o : Oper} {w : World} {ev : Operand → Value}
theorem u32_wr (n : Int) : IntKind.u32.wrap n = n % 4294967296 := by
  simp [IntKind.wrap, IntKind.bits, IntKind.signed]
theorem exec_equ (x y : Operand) (t : TypeId) (a b : Int) (r : Bool) (ho : o.op = .binOp .eql 22 x y t) (hx : ev x = .int .u32 a) (hy : ev y = .int .u32 b) (hr : decide (a = b) = r) : (execOp ev o).run Try.prog w = .ok (.value (.bool r)) w := by
  subst hr
  unfold execOp
  simp [ho, hx, hy, go_sem]
  rfl
theorem exec_neu (x y : Operand) (t : TypeId) (a b : Int) (r : Bool) (ho : o.op = .binOp .neq 22 x y t) (hx : ev x = .int .u32 a) (hy : ev y = .int .u32 b) (hr : (!decide (a = b)) = r) : (execOp ev o).run Try.prog w = .ok (.value (.bool r)) w := by
  subst hr
  unfold execOp
  simp [ho, hx, hy, go_sem]
  rfl
theorem exec_addu (x y : Operand) (t : TypeId) (a b : Int) (ho : o.op = .binOp .add 22 x y t) (hx : ev x = .int .u32 a) (hy : ev y = .int .u32 b) : (execOp ev o).run Try.prog w = .ok (.value (.int .u32 ((a + b) % 4294967296))) w := by
  unfold execOp
  simp [ho, hx, hy, go_sem]
  exact u32_wr _
theorem exec_cv32 (x : Operand) (a : Int) (ho : o.op = .convert 3 22 x) (hx : ev x = .int .i64 a) : (execOp ev o).run Try.prog w = .ok (.value (.int .u32 (a % 4294967296))) w := by
  unfold execOp
  simp [ho, hx, go_sem]
  exact u32_wr _
end
theorem cHas_any (s : Sg) (gv dv : Value) (k : Nat) (hk : k ≤ 4) (w : World) : Calls Try.prog 30 #[.agg (s.cells gv dv).toArray, .int .i64 ((2 ^ k : Nat) : Int)] w fun e w' => e = .returned (.bool (hasB s.flg ((2 ^ k : Nat) : Int))) ∧ Below w.heap.size w w' := by
  have AB := and_bit k hk s.flg
  have HB : Hid (hasB s.flg ((2 ^ k : Nat) : Int) = decide (s.flg / ((2 ^ k : Nat) : Int) % 2 = 1)) := rfl
  have p0 : ((2 ^ k : Nat) : Int) ≠ 0 := by have := Nat.pow_pos (n := k) (show 0 < 2 by decide); omega
  rw [show (Value.agg (s.cells gv dv).toArray) = .agg #[.int .i64 s.src, .int .i64 s.dst, .int .u32 s.seq, .int .u32 s.ack, .int .i64 s.flg, .int .i64 s.wnd, .int .i64 s.mss, .bool s.sak, gv, dv] from rfl]
  obtain ⟨w1, b, hs, hw, c1, f1, b1, l1⟩ := boxS w s gv dv
  have k4 : w1.cell? ⟨b, 4, none⟩ = some (.int .i64 s.flg) := c1 4 _ rfl
  obtain ⟨r, hr⟩ : ∃ r, r = hasB s.flg ((2 ^ k : Nat) : Int) := ⟨_, rfl⟩
  rw [← hr] at HB ⊢
  generalize ((2 ^ k : Nat) : Int) = f at *
  obtain ⟨fl, hfl⟩ : ∃ fl, fl = s.flg := ⟨_, rfl⟩
  rw [← hfl] at AB HB k4 hw ⊢
  obtain ⟨m, hm⟩ : ∃ m, m = bits .and .i64 fl f := ⟨_, rfl⟩
  have q0 : (m != 0) = r := by
    rw [HB.out, hm, AB]
    by_cases e : fl / f % 2 = 1
    · rw [if_pos e, decide_eq_true e]; simpa using p0
    · rw [if_neg e, decide_eq_false e]; rfl
  have hm' := hm.symm
  have hs' := hs.symm
  have hw' := hw.symm
  have B1 := hide b1
  clear hs hw c1 f1 b1 HB hr AB hm hfl p0
  go_enter Try.func30, Try.ntmps30
  go_wp2
  go_ret
  exact ⟨rfl, B1.out⟩
theorem isBehind_any (a b : Int) (w : World) : Calls Try.prog 34 #[.int .u32 a, .int .u32 b] w fun e w' => e = .returned (.bool (decide (0 < dif a b))) ∧ w' = w := by
  have D := hide (Diff_any a b w)
  obtain ⟨d, hd⟩ : ∃ d, d = dif a b := ⟨_, rfl⟩
  rw [← hd] at D ⊢
  clear hd
  go_enter Try.func34, Try.ntmps34
  go_wp2_with fail
  refine D.out.mono ?_
  rintro _ w1 ⟨rfl, hw⟩
  subst hw
  clear D
  go_wp2
  go_ret
  exact ⟨rfl, rfl⟩
theorem isAhead_any (a b : Int) (w : World) : Calls Try.prog 58 #[.int .u32 a, .int .u32 b] w fun e w' => e = .returned (.bool (decide (dif a b < 0))) ∧ w' = w := by
  have D := hide (Diff_any a b w)
  obtain ⟨d, hd⟩ : ∃ d, d = dif a b := ⟨_, rfl⟩
  rw [← hd] at D ⊢
  clear hd
  go_enter Try.func58, Try.ntmps58
  go_wp2_with fail
  refine D.out.mono ?_
  rintro _ w1 ⟨rfl, hw⟩
  subst hw
  clear D
  go_wp2
  go_ret
  exact ⟨rfl, rfl⟩
/-- as much as there is, and at least nothing -/
def lim (n m : Int) : Int := min (max n 0) m
theorem limited_any (n m : Int) (w : World) : Calls Try.prog 59 #[.int .i64 n, .int .i64 m] w fun e w' => e = .returned (.int .i64 (lim n m)) ∧ w' = w := by
  have L : Hid (lim n m = min (max n 0) m) := rfl
  go_enter Try.func59, Try.ntmps59
  go_wp2
  all_goals go_ret
  all_goals
    refine ⟨ret_int ?_, rfl⟩
    rw [L.out]
    omega
end Go.Proofs.Ytgdcdgofahhfdaa
