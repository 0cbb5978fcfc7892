
/-
  Package frag: Put of a piece.
-/
import Derived.Test.YtgempelfamjabaaF25
import Derived.Deep.CutBlock
namespace Go.Proofs.Ytgempelfamjabaa
open Go.RowKit Go.Shelf

theorem exec_notb {o : Oper} {w : World} {ev : Operand → Value} (x : Operand) (t : TypeId) (a : Bool) (ho : o.op = .unOp .not t x) (hx : ev x = .bool a) : (execOp ev o).run Try.prog w = .ok (.value (.bool (!a))) w := by
  unfold execOp
  simp [ho, hx, go_sem]
theorem exec_bldPc {o : Oper} {w : World} {ev : Operand → Value} (x y z u : Operand) (i : Int) (da : Option Addr) (dn dc : Nat) (l : Bool) (f : Int) (ho : o.op = .build 80 #[(0, x), (1, y), (2, z), (3, u)]) (hx : ev x = .int .i64 i) (hy : ev y = .slice da dn dc) (hz : ev z = .bool l) (hu : ev u = .int .i64 f) :
    (execOp ev o).run Try.prog w = .ok (.value (.agg #[.int .i64 i, .slice da dn dc, .bool l, .int .i64 f])) w := by
  unfold execOp
  rw [ho]
  simp only [List.map_toArray, List.map_cons, List.map_nil, hx, hy, hz, hu]
  kernel_rfl
theorem below_but {a b : World} (h : Below a.heap.size a b) : But (fun _ => False) a b := But.of_below h
/-- a block of bytes -/
def Tu (W : World) (g : Nat) : Prop := ∃ cs, W.heap[g]? = some (.cells cs 5 (0, 0))
def CT (n : Nat) (W : World) (v : Value) (D : List Int) : Prop := CB (fun g => n ≤ g ∧ g < W.heap.size ∧ Tu W g) W v D
theorem CT.later {n : Nat} {W W' : World} {v : Value} {D : List Int} (h : CT n W v D) (hb : Below W.heap.size W W') : CT n W' v D :=
  (Cn.own (P' := fun g => n ≤ g ∧ g < W'.heap.size ∧ Tu W' g) h (fun g hg e => ⟨e.1, Nat.lt_of_lt_of_le hg hb.size, by obtain ⟨cs, hcs⟩ := e.2.2; exact ⟨cs, (hb.block g hg).trans hcs⟩⟩)).later hb
theorem cloneT_any {P : Nat → Prop} {w : World} {v : Value} {D : List Int} (h : CB P w v D) (hl : D.length ≤ 140737488355328) :
    Calls Try.prog 32 #[v] w fun e w' => ∃ u, e = .returned u ∧ CT w.heap.size w' u D ∧ Below w.heap.size w w' := by
  have q22 : ∀ (w : World) (a : Option Addr) (n c n' c' : Nat), (binOp .eql 24 (.slice a n c) (.slice none n' c')).run Try.prog w = .ok (.bool a.isNone) w := fun w a n c n' c' => Lib.run_eql_slice_nil w _ _ a n c n' c' Try.underlying24
  obtain ⟨a, cap, rfl, c2, c3, c4⟩ := h
  cases a with
  | none =>
    have h0 := c3 rfl
    have : D = [] := List.eq_nil_of_length_eq_zero (by omega)
    subst this
    subst h0
    clear c2 c3 c4 hl
    go_enter Try.func32, Try.ntmps32
    go_wp2
    go_ret
    exact ⟨_, rfl, Cn.nil _ _ _, Below.refl _ _⟩
  | some ad =>
    refine (Clone_any (.slice (some ad) D.length cap) D w (Cn.isB (P := P) ⟨some ad, cap, rfl, c2, c3, c4⟩) (by omega) (fun a n c e => by cases e; simp)).mono ?_
    rintro _ w' ⟨u, rfl, g, b⟩
    refine ⟨u, rfl, ?_, b⟩
    have hr := g.rowB.cn
    have g' := g
    obtain ⟨_, ⟨rfl, h0⟩ | ⟨k, cap, cur, rfl, hg, hh, _⟩⟩ := g
    · have : D = [] := List.eq_nil_of_length_eq_zero h0
      subst this
      exact Cn.nil _ _ _
    · obtain ⟨a', cap', e1, e2, e3, e4⟩ := hr
      refine ⟨a', cap', e1, e2, e3, fun h0 => ?_⟩
      obtain ⟨g1, off, f1, f2, f3, f4⟩ := e4 h0
      simp only [Value.slice.injEq] at e1
      rw [← e1.1] at f1
      cases f1
      exact ⟨k, 0, e1.1.symm, ⟨f2.1, f2.2, _, hh⟩, f3, f4⟩
/-- a piece's box, made in the midst of others -/
def BoxPc (B : Nat) (W : World) (v : Value) : Prop := ∃ s, v = .pointer (some ⟨s, 0, none⟩) ∧ B ≤ s ∧ s < W.heap.size ∧ CellsAt W s 0 zPc ∧ (∀ y, W.frozen? ⟨s, y, none⟩ = false) ∧ W.heap[s]? = some (.cells zPc.toArray 80 (0, 0))
theorem BoxPc.later {B : Nat} {W W' : World} {v : Value} (h : BoxPc B W v) (hb : Below W.heap.size W W') : BoxPc B W' v := by
  obtain ⟨s, e, h1, h2, h3, h4, h5⟩ := h
  exact ⟨s, e, h1, Nat.lt_of_lt_of_le h2 hb.size, h3.later h2 hb, fun y => (hb.frozen (p := ⟨s, y, none⟩) h2).trans (h4 y), (hb.block s h2).trans h5⟩
theorem boxPc_made {o : Oper} {w : World} {ev : Operand → Value} {B : Nat} (ho : o.op = .alloc 80) (hn : B ≤ w.heap.size) : ∃ v W', (execOp ev o).run Try.prog w = .ok (.value v) W' ∧ Below w.heap.size w W' ∧ BoxPc B W' v := by
  refine ⟨.pointer (some ⟨w.heap.size, 0, none⟩), w.alloc (.cells zPc.toArray 80), ?_, later_alloc _ _, w.heap.size, rfl, hn, by simp, CellsAt.new w zPc _, fun y => frozen_new w _ _ _, heap_alloc_new _ _⟩
  unfold execOp
  rw [ho]
  kernel_rfl
/-- the piece lies at s13, its bytes in a block of its own -/
structure PcAt (w2 : World) (p : Pk) (D : List Int) (buf : Int) (s13 : Nat) (x : Pc) (W : World) : Prop where
  hx : x.n = nPc p D buf
  lo : w2.heap.size ≤ s13
  c : CellsAt W s13 0 x.cells
  lt : s13 < W.heap.size
  d : CB (fun g => w2.heap.size ≤ g ∧ g < W.heap.size) W x.dv x.D
  b : Below w2.heap.size w2 W
theorem PcAt.later {w2 W W' : World} {p : Pk} {D : List Int} {buf : Int} {s13 : Nat} {x : Pc} (h : PcAt w2 p D buf s13 x W) (hb : Below W.heap.size W W') : PcAt w2 p D buf s13 x W' :=
  ⟨h.hx, h.lo, h.c.later h.lt hb, Nat.lt_of_lt_of_le h.lt hb.size, (h.d.own (fun _ _ e => ⟨e.1, Nat.lt_of_lt_of_le e.2 hb.size⟩)).later hb, _root_.Go.Proofs.Ytgempelfamjabaa.later h.b hb⟩
theorem myb_bd {p : Pk} {n : Nat} (h : myb p n = true) : 0 ≤ p.off ∧ p.off + n ≤ 1024 ∧ (p.more = true → 0 < n) := by
  unfold myb at h
  simp only [Bool.and_eq_true, Bool.or_eq_true, decide_eq_true_eq, Bool.not_eq_true'] at h
  obtain ⟨h1, _, h3, h4⟩ := h
  refine ⟨h1, by omega, fun hm => ?_⟩
  rcases h3 with h3 | h3
  · rw [h3] at hm; cases hm
  · omega
theorem PcAt.at_ {w2 W : World} {p : Pk} {D : List Int} {buf : Int} {s13 : Nat} {x : Pc} (h : PcAt w2 p D buf s13 x W) : x.at_ = p.off ∧ x.D = D ∧ x.last = !p.more ∧ x.buf = buf :=
  ⟨congrArg Pc.at_ h.hx, congrArg Pc.D h.hx, congrArg Pc.last h.hx, congrArg Pc.buf h.hx⟩
theorem PcAt.ok {w2 W : World} {p : Pk} {D : List Int} {buf : Int} {s13 : Nat} {x : Pc} (h : PcAt w2 p D buf s13 x W) (hm : myb p D.length = true) : x.Ok (fun g => w2.heap.size ≤ g ∧ g < W.heap.size) W := by
  obtain ⟨e1, e2, _⟩ := h.at_
  obtain ⟨m1, m2, _⟩ := myb_bd hm
  exact ⟨h.d, by rw [e1]; exact m1, by rw [e1, e2]; exact m2⟩
section
variable {ops : Array Oper} {rest : List Oper} {o : Oper} {a : Act} {w : World} {Q : Exit → Act → World → Prop}
theorem wpList_loadAg (T : TypeId) (n : Nat) (hag : ∀ W, (isAgg T).run Try.prog W = .ok true W) (hsz : ∀ W, (Go.sizeOf T).run Try.prog W = .ok n W) (x : Operand) (ho : o.op = .load T x)
    (s k : Nat) (hx : a.eval x = .pointer (some ⟨s, k, none⟩)) (vs : List Value) (hl : vs.length = n) (hg : CellsAt w s k vs) (hw : Region.wanted o (yielded ops a.tmps) = true)
    (h : wpList Try.prog ops Q rest (a.put o.dst (.agg vs.toArray)) w) : wpList Try.prog ops Q (o :: rest) a w := by
  refine wpList_step fun K hK => ?_
  rw [if_pos hw]
  unfold Oper.wp execOp
  have hg' := hg.loads
  rw [hl] at hg'
  simp only [ho, hx, Instr.loadAt, Instr.sureAddr, loadVar, Sem.run_bind, Sem.run_pure, Result.andThen_ok, hag, hsz, if_true, hg']
  exact hK _ _ h
end
/-- ahead of add: the datagram k is there, what came is ready -/
structure PutMid (w w2 : World) (ρ : Nat → Nat × Nat) (G : List (Nat × Gm)) (p : Pk) (D : List Int) (buf now : Int) (b s13 : Nat) (x : Pc) (k i : Nat) (m : Gm) (G1 : List (Nat × Gm)) (ρ1 : Nat → Nat × Nat) (W : World) : Prop where
  fr : FrAt ρ1 W b G1
  hi : G1[i]? = some (k, m)
  hx : x.n = nPc p D buf
  c13 : CellsAt W s13 0 x.cells
  xok : x.Ok (fun g => ρ1 g = (k, 2)) W
  old : ∀ g, g < w.heap.size → ρ1 g = ρ g
  own : ∀ g, w.heap.size ≤ g → g < w2.heap.size → ρ1 g = (0, 9)
  but : But (fun g => ρ g ≠ (0, 9) ∧ g < w.heap.size) w2 W
  len : m.L.length < 600
  ne : ∀ x ∈ m.L, x.last = false → 0 < x.D.length
  eq : putS p D buf now (absG G) = finS (addG m.n p x.n) ((absG G1).eraseIdx i) ((absG G1).set i (addG m.n p x.n))
/-- nothing was taken: all worlds -/
theorem refuse_fin {ρ : Nat → Nat × Nat} {w w2 w8 : World} {b s : Nat} {G : List (Nat × Gm)} {p : Pk} {ov : Value} (h : FrAt ρ w b G) (PB : PutB w s p ov w2) (b8 : Below w2.heap.size w2 w8) (buf : Int) :
    ∃ w9 w10, w9 = w8.alloc (.cells #[.int .i64 buf] 3) ∧ CellsAt w9 (s + 1) 0 zWh ∧ (∀ y, w9.frozen? ⟨s + 1, y, none⟩ = false) ∧ w10 = w9.setCells (s + 1) 0 zWh ∧ CellsAt w10 (s + 1) 0 zWh ∧ FrAt (cutR ρ w.heap.size) w10 b G ∧ PutOut w w10 (cutR ρ w.heap.size) none [buf] (.tuple #[.agg zWh.toArray, .bool false, .slice (some ⟨w8.heap.size, 0, none⟩) 1 1]) ∧ Below w.heap.size w w10 := by
  obtain ⟨w9, hw9⟩ : ∃ w9, w9 = w8.alloc (.cells #[.int .i64 buf] 3) := ⟨_, rfl⟩
  have b9 : Below w8.heap.size w8 w9 := by rw [hw9]; exact later_alloc _ _
  have c6 : CellsAt w9 w8.heap.size 0 [.int .i64 buf] := by rw [hw9]; exact CellsAt.new w8 _ _
  have f6 : ∀ y, w9.frozen? ⟨w8.heap.size, y, none⟩ = false := by rw [hw9]; exact fun y => frozen_new w8 _ _ _
  have z6 : w9.heap.size = w8.heap.size + 1 := by rw [hw9, World.size_alloc]
  obtain ⟨_, r6, _, g6, B6⟩ := PB.later (later b8 b9)
  obtain ⟨w7, hw7⟩ : ∃ w7, w7 = w9.setCells (s + 1) 0 zWh := ⟨_, rfl⟩
  have b7 : But (Only (s + 1)) w9 w7 := by rw [hw7]; exact But.cells (s + 1) zWh 0 w9
  have hS := PB.hs
  have hZ := PB.z
  have z8 := b8.size
  have z7 := b7.size
  have B7 : Below w.heap.size w w7 := B6.trans (b7.below (by omega) (fun g hg e => by have e : g = s + 1 := e; omega))
  refine ⟨w9, w7, hw9, r6, g6, hw7, by rw [hw7]; exact r6.stored rfl, h.cut.later B7, ?_, B7⟩
  refine PutOut.none_ _ _ _ ?_
  refine RowN.own (O := fun g => g = w8.heap.size) (RowN.but (K := Only (s + 1)) (W := w9) ?_ b7 (fun g e e2 => by have e2 : g = s + 1 := e2; omega)) (fun g hg e => ⟨by omega, cutR_ge (by omega)⟩)
  refine ⟨_, 1, rfl, Nat.le_refl _, by decide, (fun e => by cases e), fun ad e => ?_⟩
  cases e
  refine ⟨_, 0, rfl, by omega, fun _ => rfl, fun j hj => c6.is j (by simpa using hj), f6, fun q x hx => ?_⟩
  have hq : q = 0 := by have := (List.getElem?_eq_some_iff.1 hx).1; simp at this; omega
  subst hq
  cases hx
  exact c6 0 _ rfl
/-- a datagram was let go: all worlds -/
theorem overlap_fin {ρ : Nat → Nat × Nat} {w w2 w8 w9 w10 : World} {b s i k : Nat} {G : List (Nat × Gm)} {m : Gm} {p : Pk} {ov v : Value} (h : FrAt ρ w b G) (PB : PutB w s p ov w2) (b8 : Below w2.heap.size w2 w8) (hi : G[i]? = some (k, m)) (F9 : FrAt (cutR ρ w.heap.size) w9 b (G.eraseIdx i)) (b9 : But (fun g => g = b ∨ cutR ρ w.heap.size g = (b, 3)) w8 w9) (r10 : RowN (fun g => w9.heap.size ≤ g) w10 v (m.L.map (·.buf))) (b10 : Below w9.heap.size w9 w10) (buf : Int) :
    ∃ (a' : Option Addr) (n' c' : Nat) (w11 w12 w13 : World), w11 = w10.alloc (.cells #[.int .i64 buf] 3) ∧ (Builtin.append_ #[46, 46] 46 #[v, .slice (some ⟨w10.heap.size, 0, none⟩) 1 1]).run Try.prog w11 = .ok (.slice a' n' c') w12 ∧ CellsAt w12 (s + 1) 0 zWh ∧ (∀ y, w12.frozen? ⟨s + 1, y, none⟩ = false) ∧ w13 = w12.setCells (s + 1) 0 zWh ∧ CellsAt w13 (s + 1) 0 zWh ∧ FrAt (cutR ρ w.heap.size) w13 b (G.eraseIdx i) ∧ PutOut w w13 (cutR ρ w.heap.size) none (m.L.map (·.buf) ++ [buf]) (.tuple #[.agg zWh.toArray, .bool false, .slice a' n' c']) ∧ But (fun g => ρ g ≠ (0, 9) ∧ g < w.heap.size) w w13 := by
  obtain ⟨_, r8, _, g8, B8⟩ := PB.later b8
  have hS := PB.hs
  have hZ := PB.z
  have z8 := b8.size
  have z9 := b9.size
  have z10 := b10.size
  have hlen : m.L.length ≤ 600 := ((h.gm _ (List.mem_of_getElem? hi)).2.2).len
  have hb := h.lt
  obtain ⟨a', c', w12, hrun, r12, b12⟩ := r10.push buf (by rw [List.length_map]; omega)
  obtain ⟨w13, hw13⟩ : ∃ w13, w13 = w12.setCells (s + 1) 0 zWh := ⟨_, rfl⟩
  have b13 : But (Only (s + 1)) w12 w13 := by rw [hw13]; exact But.cells (s + 1) zWh 0 w12
  have z12 := b12.size
  have z13 := b13.size
  have n9 : ¬ (s + 1 = b ∨ cutR ρ w.heap.size (s + 1) = (b, 3)) := fun e => by
    rcases e with e | e
    · omega
    · rw [cutR_ge (by omega)] at e; simp at e
  have n12 : ¬ (w9.heap.size ≤ s + 1) := by omega
  have c9 := r8.but (by omega) b9 n9
  have c10 := c9.later (by omega) b10
  have c12 := c10.but (by omega) b12 n12
  have f12 : ∀ y, w12.frozen? ⟨s + 1, y, none⟩ = false := fun y => (b12.frozen (p := ⟨s + 1, y, none⟩) (by show s + 1 < _; omega) n12).trans ((b10.frozen (p := ⟨s + 1, y, none⟩) (by show s + 1 < _; omega)).trans ((b9.frozen (p := ⟨s + 1, y, none⟩) (by show s + 1 < _; omega) n9).trans (g8 y)))
  have e1 : ∀ g, w.heap.size ≤ g → cutR ρ w.heap.size g = (0, 9) := fun g hg => cutR_ge hg
  have f13 : FrAt (cutR ρ w.heap.size) w13 b (G.eraseIdx i) := ((F9.later b10).but b12 (fun g _ e => e1 g (by omega))).but b13 (fun g _ e => e1 g (by have e : g = s + 1 := e; omega))
  refine ⟨a', _, c', _, w12, w13, rfl, hrun, c12, f12, hw13, by rw [hw13]; exact c12.stored rfl, f13, ?_, ?_⟩
  · refine PutOut.none_ _ _ _ ((r12.but b13 (fun g e e2 => ?_)).own (fun g _ e => ?_))
    · have e2 : g = s + 1 := e2
      rcases e with e | e <;> omega
    · have : w.heap.size ≤ g := by rcases e with e | e <;> omega
      exact ⟨this, e1 g this⟩
  · refine (((But.of_below B8).trans' b9 (fun g hg e => ⟨fun e0 => ?_, hg⟩)).trans' ((But.of_below (K := fun _ => False) b10).trans' b12 (fun g hg e => by have e : w9.heap.size ≤ g := e; omega)) (fun g hg e => e.elim)).trans' b13 (fun g hg e => by have e : g = s + 1 := e; omega)
    rcases e with e | e
    · rw [e, h.me] at e0; simp at e0
    · rw [cutR_lt hg, e0] at e; simp at e
theorem putS_some {p : Pk} {D : List Int} {buf now : Int} {S : List Gm} {i : Nat} {m : Gm} (hf : frg p = true) (hm : myb p D.length = true) (hi : fndI p.kd S = some i) (hS : S[i]? = some m) :
    putS p D buf now S = if m.L.any (odds (nPc p D buf)) = true then (none, m.L.map (·.buf) ++ [buf], S.eraseIdx i) else if 2048 < szS S + D.length then (none, [buf], S) else finS (addG m p (nPc p D buf)) (S.eraseIdx i) (S.set i (addG m p (nPc p D buf))) := by
  unfold putS
  rw [if_neg (by rw [hf]; decide), if_neg (by rw [hm]; decide), hi]
  simp only [hS]
theorem putS_none {p : Pk} {D : List Int} {buf now : Int} {S : List Gm} (hf : frg p = true) (hm : myb p D.length = true) (hi : fndI p.kd S = none) :
    putS p D buf now S = if S.length = 4 ∨ 2048 < szS S + D.length then (none, [buf], S) else finS (addG ⟨p.kd, now, zF, .slice none 0 0, []⟩ p (nPc p D buf)) S (S ++ [addG ⟨p.kd, now, zF, .slice none 0 0, []⟩ p (nPc p D buf)]) := by
  unfold putS
  rw [if_neg (by rw [hf]; decide), if_neg (by rw [hm]; decide), hi]
theorem absG_at {G : List (Nat × Gm)} {i k : Nat} {m : Gm} (h : G[i]? = some (k, m)) : (absG G)[i]? = some m.n := by
  unfold absG
  rw [List.getElem?_map, h]
  rfl
/-- a datagram that was there: ready for add -/
theorem mid_old {ρ : Nat → Nat × Nat} {w w2 w8 : World} {b s s13 i k : Nat} {G : List (Nat × Gm)} {m : Gm} {p : Pk} {ov : Value} {D : List Int} {buf now : Int} {x : Pc} (h : FrAt ρ w b G) (PB : PutB w s p ov w2) (PX : PcAt w2 p D buf s13 x w8) (hm : myb p D.length = true) (hi : G[i]? = some (k, m)) (hL : ∀ q ∈ G, q.2.L.length < 600 ∧ ∀ x ∈ q.2.L, x.last = false → 0 < x.D.length) (eq : putS p D buf now (absG G) = finS (addG m.n p (nPc p D buf)) ((absG G).eraseIdx i) ((absG G).set i (addG m.n p (nPc p D buf)))) :
    ∃ (ρ1 : Nat → Nat × Nat), PutMid w w2 ρ G p D buf now b s13 x k i m G ρ1 w8 := by
  have hmem := List.mem_of_getElem? hi
  obtain ⟨ρ1, hρ⟩ : ∃ ρ1 : Nat → Nat × Nat, ρ1 = fun g => if g < w.heap.size then ρ g else if g < w2.heap.size then (0, 9) else (k, 2) := ⟨_, rfl⟩
  have e1 : ∀ g, g < w.heap.size → ρ1 g = ρ g := fun g hg => by rw [hρ]; exact if_pos hg
  have e2 : ∀ g, w.heap.size ≤ g → g < w2.heap.size → ρ1 g = (0, 9) := fun g hg h2 => by rw [hρ]; show (if _ then _ else _) = _; rw [if_neg (by omega), if_pos h2]
  have z := PB.b.size
  have e3 : ∀ g, w2.heap.size ≤ g → ρ1 g = (k, 2) := fun g hg => by rw [hρ]; show (if _ then _ else _) = _; rw [if_neg (by omega), if_neg (by omega)]
  exact ⟨ρ1, ⟨(h.rerole e1).later (PB.later PX.b).2.2.2.2, hi, PX.hx, PX.c, ⟨(PX.ok hm).d.own (fun g _ e => e3 g e.1), (PX.ok hm).lo, (PX.ok hm).hi⟩, e1, e2, But.of_below PX.b, (hL _ hmem).1, (hL _ hmem).2, by rw [PX.hx]; exact eq⟩⟩
theorem fndK_no {k : Kd} {G : List (Nat × Gm)} (h : fndK k G = none) : ∀ q ∈ G, q.2.kd ≠ k := fun q hq e => by
  have := List.find?_eq_none.1 h q hq
  simp [eqKd, e] at this
theorem app_set {α : Type} (S : List α) (a c : α) : (S ++ [a]).set S.length c = S ++ [c] := by
  rw [List.set_append_right _ _ (Nat.le_refl _), Nat.sub_self]
  rfl
theorem app_erase {α : Type} (S : List α) (a : α) : (S ++ [a]).eraseIdx S.length = S := by
  rw [List.eraseIdx_append_of_length_le (Nat.le_refl _), Nat.sub_self]
  exact List.append_nil S
/-- a new datagram: ready for add -/
theorem mid_new {ρ : Nat → Nat × Nat} {w w2 w8 : World} {b s s13 : Nat} {G : List (Nat × Gm)} {p : Pk} {ov : Value} {D : List Int} {buf now : Int} {x : Pc} (h : FrAt ρ w b G) (PB : PutB w s p ov w2) (PX : PcAt w2 p D buf s13 x w8) (hm : myb p D.length = true) (hk : fndK p.kd G = none) (h4 : G.length < 4) (eq : putS p D buf now (absG G) = finS (addG ⟨p.kd, now, zF, .slice none 0 0, []⟩ p (nPc p D buf)) (absG G) (absG G ++ [addG ⟨p.kd, now, zF, .slice none 0 0, []⟩ p (nPc p D buf)])) :
    ∃ (W1 wE wF wG : World) (k : Nat) (va a' : Option Addr) (vc n c' : Nat), k = w8.heap.size ∧ W1 = w8.alloc (.cells (gmZ p.kd now).toArray 71) ∧ W1.cell? ⟨b, 0, none⟩ = some (.slice va n vc) ∧ wE = W1.alloc (.cells #[.pointer (some ⟨k, 0, none⟩)] 65) ∧ (Builtin.append_ #[62, 62] 62 #[.slice va n vc, .slice (some ⟨W1.heap.size, 0, none⟩) 1 1]).run Try.prog wE = .ok (.slice a' (n + 1) c') wF ∧ wF.cell? ⟨b, 0, none⟩ = some (.slice va n vc) ∧ wF.frozen? ⟨b, 0, none⟩ = false ∧ wG = wF.setCell ⟨b, 0, none⟩ (.slice a' (n + 1) c') ∧
      ∃ (i : Nat) (m : Gm) (G1 : List (Nat × Gm)) (ρ1 : Nat → Nat × Nat), PutMid w w2 ρ G p D buf now b s13 x k i m G1 ρ1 wG := by
  obtain ⟨k, hk0⟩ : ∃ k, k = w8.heap.size := ⟨_, rfl⟩
  obtain ⟨ρ0, hρ⟩ : ∃ ρ0 : Nat → Nat × Nat, ρ0 = fun g => if g < w.heap.size then ρ g else if g < w2.heap.size then (0, 9) else (k, 2) := ⟨_, rfl⟩
  have z := PB.b.size
  have z8 := PX.b.size
  have hb := h.lt
  have e1 : ∀ g, g < w.heap.size → ρ0 g = ρ g := fun g hg => by rw [hρ]; exact if_pos hg
  have e2 : ∀ g, w.heap.size ≤ g → g < w2.heap.size → ρ0 g = (0, 9) := fun g hg h2 => by rw [hρ]; show (if _ then _ else _) = _; rw [if_neg (by omega), if_pos h2]
  have e3 : ∀ g, w2.heap.size ≤ g → ρ0 g = (k, 2) := fun g hg => by rw [hρ]; show (if _ then _ else _) = _; rw [if_neg (by omega), if_neg (by omega)]
  clear hρ
  have F8 := (h.rerole e1).later (PB.later PX.b).2.2.2.2
  obtain ⟨W1, wE, wF, wG, k', va, a', vc, n, c', g1, g2, g3, g4, g5, g6, g7, g8, g9, g10, ρ1, g11, g12⟩ := F8.grow p.kd now (fndK_no hk) h4
  have ek : k' = k := by rw [g1, hk0]
  subst ek
  have XO := PX.ok hm
  have no : ∀ g, w2.heap.size ≤ g → ¬ (g = b ∨ ρ0 g = (b, 3) ∧ g < w8.heap.size) := fun g hg e => by
    rcases e with e | e
    · omega
    · rw [e3 g hg] at e; simp at e
  have zs13 := PX.lo
  refine ⟨W1, wE, wF, wG, k', va, a', vc, n, c', g1, g2, g4, g5, g6, g7, g8, g9, G.length, (⟨p.kd, now, zF, .slice none 0 0, []⟩ : Gm), _, ρ1, ⟨g11, ?_, PX.hx, PX.c.but PX.lt g10 (no _ zs13), ⟨(XO.d.but g10 (fun g e => no g e.1)).own (fun g _ e => ?_), XO.lo, XO.hi⟩, fun g hg => ?_, fun g hg h2 => ?_, ?_, by simp, (fun x hx => by cases hx), ?_⟩⟩
  · rw [List.getElem?_append_right (Nat.le_refl _), Nat.sub_self]; rfl
  · have e : w2.heap.size ≤ g ∧ g < w8.heap.size := e
    rw [g12 g e.2]
    exact e3 g e.1
  · rw [g12 g (by omega)]; exact e1 g hg
  · rw [g12 g (by omega)]; exact e2 g hg h2
  · refine (But.of_below PX.b).trans' g10 (fun g hg e => ?_)
    rcases e with e | e
    · subst e
      exact ⟨fun e0 => by rw [h.me] at e0; simp at e0, hb⟩
    · by_cases hgw : g < w.heap.size
      · refine ⟨fun e0 => ?_, hgw⟩
        rw [e1 g hgw, e0] at e
        simp at e
      · rw [e2 g (by omega) hg] at e
        simp at e
  · have ea : absG (G ++ [(k', (⟨p.kd, now, zF, .slice none 0 0, []⟩ : Gm))]) = absG G ++ [(⟨p.kd, now, zF, .slice none 0 0, []⟩ : Gm)] := by
      unfold absG
      rw [List.map_append]
      rfl
    have el : G.length = (absG G).length := by unfold absG; rw [List.length_map]
    rw [ea, PX.hx, el, app_set, app_erase]
    exact eq
theorem oneDps (w : World) : (isAgg 62).run Try.prog w = .ok false w := by kernel_rfl
theorem ordF_sub (L : List Pc) : ∀ (f : Nat) (e : Int) (A : List Pc), ordF L f e = some A → (∀ x ∈ A, x ∈ L) ∧ A.length ≤ f
  | 0, _, _, h => by cases h
  | f + 1, e, A, h => by
    cases hx : L.find? (fun x => x.at_ == e) with
    | none => rw [ordF_none hx] at h; cases h
    | some x =>
      rw [ordF_some hx] at h
      have hm := List.mem_of_find?_eq_some hx
      by_cases hl : x.last = true
      · rw [if_pos hl] at h
        cases h
        exact ⟨fun y hy => by rw [List.mem_singleton.1 hy]; exact hm, by simp⟩
      · rw [if_neg hl] at h
        cases hr : ordF L f x.end_ with
        | none => rw [hr] at h; cases h
        | some B =>
          rw [hr] at h
          cases h
          obtain ⟨h1, h2⟩ := ordF_sub L f x.end_ B hr
          refine ⟨fun y hy => ?_, by simp; omega⟩
          rcases List.mem_cons.1 hy with rfl | hy
          · exact hm
          · exact h1 y hy
theorem ord_sub (L : List Pc) : (∀ x ∈ ord L, x ∈ L) ∧ (ord L).length ≤ 1025 := by
  unfold ord
  cases h : ordF L 1025 0 with
  | none => exact ⟨fun x hx => (by cases hx), by simp⟩
  | some A => exact ordF_sub L 1025 0 A h
/-- behind add -/
structure AddAt (w w2 : World) (ρ : Nat → Nat × Nat) (G : List (Nat × Gm)) (p : Pk) (D : List Int) (buf now : Int) (b s k i : Nat) (m' : Gm) (G1 : List (Nat × Gm)) (ρ' : Nat → Nat × Nat) (W : World) : Prop where
  fr : FrAt ρ' W b (G1.set i (k, m'))
  hi : (G1.set i (k, m'))[i]? = some (k, m')
  top : ∀ g, W.heap.size ≤ g → ρ' g = (0, 9)
  old : ∀ g, g < w.heap.size → ρ' g = ρ g
  own : ∀ g, w.heap.size ≤ g → g < w2.heap.size → ρ' g = (0, 9)
  but : But (fun g => ρ g ≠ (0, 9) ∧ g < w.heap.size) w W
  c1 : CellsAt W (s + 1) 0 zWh
  f1 : ∀ y, W.frozen? ⟨s + 1, y, none⟩ = false
  ne : ∀ x ∈ m'.L, x.last = false → 0 < x.D.length
  eq : putS p D buf now (absG G) = finS m'.n ((absG G1).eraseIdx i) ((absG G1).set i m'.n)
  z : w2.heap.size ≤ W.heap.size
theorem mid_add {ρ ρ1 ρ2 : Nat → Nat × Nat} {w w2 wc wa : World} {b s s13 i k : Nat} {G G1 : List (Nat × Gm)} {m m' : Gm} {p : Pk} {ov : Value} {D : List Int} {buf now : Int} {x : Pc} (PB : PutB w s p ov w2) (PM : PutMid w w2 ρ G p D buf now b s13 x k i m G1 ρ1 wc) (hm : myb p D.length = true)
    (F : FrAt ρ2 wa b (G1.set i (k, m'))) (hn : m'.n = addG m.n p x.n) (hL : m'.L = m.L ++ [x]) (hr : ∀ g, g < wc.heap.size → ρ2 g = ρ1 g) (hb : But (fun g => g = k ∨ ρ1 g = (k, 1) ∧ g < wc.heap.size) wc wa) :
    AddAt w w2 ρ G p D buf now b s k i m' G1 (cutR ρ2 wa.heap.size) wa := by
  have hz := PB.z
  have hs := PB.hs
  have z2 := PM.but.size
  have z3 := hb.size
  obtain ⟨q1, q2, q3⟩ := PM.fr.gm _ (List.mem_of_getElem? PM.hi)
  have o1 : ρ1 (s + 1) = (0, 9) := PM.own (s + 1) (by omega) (by omega)
  have n1 : ¬ (ρ (s + 1) ≠ (0, 9) ∧ s + 1 < w.heap.size) := fun e => by omega
  have n2 : ¬ (s + 1 = k ∨ ρ1 (s + 1) = (k, 1) ∧ s + 1 < wc.heap.size) := fun e => by
    rcases e with e | e
    · rw [← e, o1] at q1; simp at q1
    · rw [o1] at e; simp at e
  refine ⟨F.cut, ?_, fun g hg => cutR_ge hg, fun g hg => ?_, fun g hg h2 => ?_, ?_, ?_, ?_, ?_, ?_, by omega⟩
  · rw [List.getElem?_set_self (List.getElem?_eq_some_iff.1 PM.hi).1]
  · have := PB.b.size
    rw [cutR_lt (by omega), hr g (by omega), PM.old g hg]
  · rw [cutR_lt (by omega), hr g (by omega), PM.own g hg h2]
  · refine ((But.of_below PB.b).trans' PM.but (fun g _ e => e)).trans' hb (fun g hg e => ⟨fun e0 => ?_, hg⟩)
    rcases e with e | e
    · rw [← e, PM.old g hg, e0] at q1; simp at q1
    · rw [PM.old g hg, e0] at e; simp at e
  · exact (PB.c1.but (by omega) PM.but n1).but (by omega) hb n2
  · exact fun y => (hb.frozen (p := ⟨s + 1, y, none⟩) (by show s + 1 < _; omega) n2).trans ((PM.but.frozen (p := ⟨s + 1, y, none⟩) (by show s + 1 < _; omega) n1).trans (PB.f1 y))
  · intro y hy hl
    rw [hL] at hy
    rcases List.mem_append.1 hy with hy | hy
    · exact PM.ne y hy hl
    · rw [List.mem_singleton.1 hy] at hl ⊢
      have e1 : x.last = !p.more := congrArg Pc.last PM.hx
      have e2 : x.D = D := congrArg Pc.D PM.hx
      rw [e2]
      refine (myb_bd hm).2.2 ?_
      rw [e1] at hl
      simpa using hl
  · rw [PM.eq, hn]
/-- not whole yet: all worlds -/
theorem wait_fin {ρ ρ' : Nat → Nat × Nat} {w w2 wa wo : World} {b s i k : Nat} {G G1 : List (Nat × Gm)} {m' : Gm} {p : Pk} {ov : Value} {D : List Int} {buf now : Int} (PB : PutB w s p ov w2) (A : AddAt w w2 ρ G p D buf now b s k i m' G1 ρ' wa) (bo : Below wa.heap.size wa wo) (h0 : ord m'.L = []) :
    ∃ wf, CellsAt wo (s + 1) 0 zWh ∧ (∀ y, wo.frozen? ⟨s + 1, y, none⟩ = false) ∧ wf = wo.setCells (s + 1) 0 zWh ∧ CellsAt wf (s + 1) 0 zWh ∧ ∃ (ρ' : Nat → Nat × Nat) (G' : List (Nat × Gm)), FrAt ρ' wf b G' ∧ absG G' = (putS p D buf now (absG G)).2.2 ∧ PutOut w wf ρ' (putS p D buf now (absG G)).1 (putS p D buf now (absG G)).2.1 (.tuple #[.agg zWh.toArray, .bool false, .slice none 0 0]) ∧ (∀ g, g < w.heap.size → ρ' g = ρ g) ∧ But (fun g => ρ g ≠ (0, 9) ∧ g < w.heap.size) w wf := by
  have hz := PB.z
  have hs := PB.hs
  have z2 := A.z
  have z3 := bo.size
  have co := A.c1.later (by omega) bo
  have fo : ∀ y, wo.frozen? ⟨s + 1, y, none⟩ = false := fun y => (bo.frozen (p := ⟨s + 1, y, none⟩) (by show s + 1 < _; omega)).trans (A.f1 y)
  have b13 := But.cells (s + 1) zWh 0 wo
  have o1 := A.own (s + 1) (by omega) (by omega)
  have E : putS p D buf now (absG G) = (none, [], (absG G1).set i m'.n) := by
    rw [A.eq]
    unfold finS
    rw [if_pos (by show ord (m'.L.map Pc.n) = []; rw [ord_n, h0]; rfl)]
  refine ⟨_, co, fo, rfl, co.stored rfl, ρ', _, (A.fr.later bo).but b13 (fun g _ e => by have e : g = s + 1 := e; rw [e]; exact o1), ?_, ?_, A.old, (A.but.trans' (below_but bo) (fun _ _ e => e.elim)).trans' b13 (fun g hg e => by have e : g = s + 1 := e; omega)⟩
  · rw [E, absG_set]
  · rw [E]
    exact PutOut.none_ _ _ _ (RowN.nil _ _)
theorem erase_set {α : Type} (L : List α) (i : Nat) (a : α) : (L.set i a).eraseIdx i = L.eraseIdx i := by
  apply List.ext_getElem?
  intro j
  rw [List.getElem?_eraseIdx, List.getElem?_eraseIdx]
  by_cases e : j < i
  · rw [if_pos e, if_pos e, List.getElem?_set_ne (by omega)]
  · rw [if_neg e, if_neg e, List.getElem?_set_ne (by omega)]
/-- whole: all worlds -/
theorem whole_fin {ρ ρ' : Nat → Nat × Nat} {τ : Nat → Nat} {w w2 wa wo wd wj : World} {b s i k : Nat} {G G1 : List (Nat × Gm)} {m' : Gm} {p : Pk} {ov dv bv : Value} {D : List Int} {buf now : Int} (PB : PutB w s p ov w2) (A : AddAt w w2 ρ G p D buf now b s k i m' G1 ρ' wa) (bo : Below wa.heap.size wa wo) (h0 : ord m'.L ≠ [])
    (F : FrAt ρ' wd b ((G1.set i (k, m')).eraseIdx i)) (bd : But (fun g => g = b ∨ ρ' g = (b, 3)) wo wd) (hok : CB (fun g => ρ' g = (k, 2)) wd m'.hv m'.hd.opts) (bj : Below wd.heap.size wd wj) (rB : RowB (fun g => τ g = 1 ∧ wd.heap.size ≤ g) wj dv ((ord m'.L).flatMap (·.D))) (rN : RowN (fun g => τ g = 2 ∧ wd.heap.size ≤ g) wj bv ((ord m'.L).map (·.buf))) :
    ∃ wf, CellsAt wj (s + 1) 0 zWh ∧ (∀ y, wj.frozen? ⟨s + 1, y, none⟩ = false) ∧ wf = wj.setCells (s + 1) 0 (whC m'.hd m'.hv dv bv) ∧ CellsAt wf (s + 1) 0 (whC m'.hd m'.hv dv bv) ∧ ∃ (ρ' : Nat → Nat × Nat) (G' : List (Nat × Gm)), FrAt ρ' wf b G' ∧ absG G' = (putS p D buf now (absG G)).2.2 ∧ PutOut w wf ρ' (putS p D buf now (absG G)).1 (putS p D buf now (absG G)).2.1 (.tuple #[.agg (whC m'.hd m'.hv dv bv).toArray, .bool true, .slice none 0 0]) ∧ (∀ g, g < w.heap.size → ρ' g = ρ g) ∧ But (fun g => ρ g ≠ (0, 9) ∧ g < w.heap.size) w wf := by
  have hz := PB.z
  have hs := PB.hs
  have hb := A.fr.lt
  have hme := A.fr.me
  have z2 := A.z
  have z3 := bo.size
  have z4 := bd.size
  have z5 := bj.size
  have o1 := A.own (s + 1) (by omega) (by omega)
  have nd : ¬ (s + 1 = b ∨ ρ' (s + 1) = (b, 3)) := fun e => by
    rcases e with e | e
    · rw [e, hme] at o1; simp at o1
    · rw [o1] at e; simp at e
  have co := ((A.c1.later (by omega) bo).but (by omega) bd nd).later (by omega) bj
  have fo : ∀ y, wj.frozen? ⟨s + 1, y, none⟩ = false := fun y => (bj.frozen (p := ⟨s + 1, y, none⟩) (by show s + 1 < _; omega)).trans ((bd.frozen (p := ⟨s + 1, y, none⟩) (by show s + 1 < _; omega) nd).trans ((bo.frozen (p := ⟨s + 1, y, none⟩) (by show s + 1 < _; omega)).trans (A.f1 y)))
  have b13 := But.cells (s + 1) (whC m'.hd m'.hv dv bv) 0 wj
  have EO : ord m'.n.L = (ord m'.L).map Pc.n := ord_n m'.L
  have E : putS p D buf now (absG G) = (some (m'.hd, (ord m'.L).flatMap (·.D), (ord m'.L).map (·.buf)), [], (absG G1).eraseIdx i) := by
    rw [A.eq]
    unfold finS
    rw [if_neg (by rw [EO]; intro e; exact h0 (List.map_eq_nil_iff.1 e)), EO, List.flatMap_map, List.map_map]
    rfl
  have zz : w.heap.size ≤ wd.heap.size := by have := PB.b.size; omega
  refine ⟨_, co, fo, rfl, co.stored rfl, ρ', _, (F.later bj).but b13 (fun g _ e => by have e : g = s + 1 := e; rw [e]; exact o1), ?_, ?_, A.old, ?_⟩
  · rw [E, absG_erase, absG_set, erase_set]
  · rw [E]
    refine ⟨m'.hv, dv, bv, .slice none 0 0, τ, rfl, ?_, ?_, RowN.nil _ _, ?_⟩
    · exact (rB.but b13 (fun g e e2 => by have e2 : g = s + 1 := e2; have := e.2; omega)).own (fun g _ e => ⟨e.1, by have := e.2; omega, A.top g (by have := e.2; omega)⟩)
    · exact (rN.but b13 (fun g e e2 => by have e2 : g = s + 1 := e2; have := e.2; omega)).own (fun g _ e => ⟨e.1, by have := e.2; omega, A.top g (by have := e.2; omega)⟩)
    · refine ((hok.later bj).but b13 (fun g e e2 => ?_)).own (fun g _ e => .inl (by rw [e]; simp))
      have e2 : g = s + 1 := e2
      rw [e2, o1] at e
      simp at e
  · refine (((A.but.trans' (below_but bo) (fun _ _ e => e.elim)).trans' bd (fun g hg e => ⟨fun e0 => ?_, hg⟩)).trans' (below_but bj) (fun _ _ e => e.elim)).trans' b13 (fun g hg e => by have e : g = s + 1 := e; omega)
    rw [← A.old g hg] at e0
    rcases e with e | e
    · rw [e, hme] at e0; simp at e0
    · rw [e0] at e; simp at e
set_option maxRecDepth 100000 in
set_option maxHeartbeats 16000000 in
theorem put_piece {ρ : Nat → Nat × Nat} {w : World} {b : Nat} {G : List (Nat × Gm)} {Q : Nat → Prop} (h : FrAt ρ w b G) (p : Pk) (ov : Value) (ho : CB (fun g => ρ g = (0, 9)) w ov p.opts) (hol : p.opts.length ≤ 140737488355328) (bv : Value) (D : List Int) (hd : CB Q w bv D) (hdl : D.length ≤ 140737488355328) (hp0 : -9223372036854775808 ≤ p.off) (hp1 : p.off ≤ 9223372036854775807) (buf now : Int) (hf : frg p = true) (hm : myb p D.length = true)
    (hL : ∀ q ∈ G, q.2.L.length < 600 ∧ ∀ x ∈ q.2.L, x.last = false → 0 < x.D.length) :
    Calls Try.prog 17 #[.pointer (some ⟨b, 0, none⟩), .agg (p.cells ov).toArray, bv, .int .i64 buf, .int .i64 now] w fun e w' => ∃ v, e = .returned v ∧ ∃ (ρ' : Nat → Nat × Nat) (G' : List (Nat × Gm)), FrAt ρ' w' b G' ∧ absG G' = (putS p D buf now (absG G)).2.2 ∧ PutOut w w' ρ' (putS p D buf now (absG G)).1 (putS p D buf now (absG G)).2.1 v ∧ (∀ g, g < w.heap.size → ρ' g = ρ g) ∧ But (fun g => ρ g ≠ (0, 9) ∧ g < w.heap.size) w w' := by
  rw [show (Value.agg (p.cells ov).toArray) = .agg #[.int .u8 p.src.a, .int .u8 p.src.b, .int .u8 p.src.c, .int .u8 p.src.d, .int .u8 p.dst.a, .int .u8 p.dst.b, .int .u8 p.dst.c, .int .u8 p.dst.d, .int .i64 p.proto, .int .i64 p.ttl, .int .i64 p.id, .int .i64 p.tos, .bool p.whole, .bool p.more, .int .i64 p.off, ov] from rfl]
  obtain ⟨w1, w2, s, hs', hs1', hw1', hw2', PB⟩ := putB_begin w p ov
  obtain ⟨X, hX⟩ : ∃ X, X = p.cells ov := ⟨_, rfl⟩
  have LX : Hid (X.length = 16) := by rw [hX]; exact rfl
  have CX : Hid (CellsAt w2 s 0 X) := by rw [hX]; exact PB.c
  have IF : Hid (Calls Try.prog 30 #[.agg X.toArray] w2 fun e w' => e = .returned (.bool true) ∧ Below w2.heap.size w2 w') := by
    rw [hX]
    exact (isFragment_any p ov w2).mono (fun e w' h => ⟨by rw [h.1, hf], h.2⟩)
  obtain ⟨da, dc, rfl⟩ := hd.shape
  obtain ⟨dn, hdn⟩ : ∃ dn, dn = D.length := ⟨_, rfl⟩
  have HM := hide hm
  rw [← hdn] at hd hm ⊢
  have MB : Hid (∀ W, Calls Try.prog 33 #[.agg X.toArray, .slice da dn dc] W fun e w' => e = .returned (.bool true) ∧ Below W.heap.size W w') := fun W => by
    rw [hX]
    exact (fMay_any p ov da dn dc W hp0 hp1 (by rw [hdn]; exact hdl)).mono (fun e w' h => ⟨by rw [h.1, hm], h.2⟩)
  have KD : Hid (∀ W, Calls Try.prog 35 #[.agg X.toArray] W fun e w' => e = .returned (.agg p.kd.cells.toArray) ∧ Below W.heap.size W w') := fun W => by
    rw [hX]
    exact kindOf_any p ov W
  have HPB := hide PB
  have HFR := hide h
  have HO := hide ho
  have HOL := hide hol
  have HD := hide hd
  have HDL := hide hdl
  have HX := hide hX
  have HF := hide hf
  have HL := hide hL
  have HDN := hide hdn
  clear PB h ho hol hd hdl hX hf hm hL hdn
  go_enter Try.func17, Try.ntmps17
  go_wp2_with (refine wpList_loadA rfl 26 16 aggP sizP _ rfl s 0 rfl X LX.out CX.out ?_)
  clear hs' hs1' hw1' hw2'
  refine IF.out.mono ?_
  rintro _ w3 ⟨rfl, b3⟩
  have C3 : Hid (CellsAt w3 s 0 X) := by rw [HX.out]; exact (HPB.out.later b3).1
  have HB3 := hide b3
  clear IF CX b3
  go_wp2_with (refine wpList_loadA rfl 26 16 aggP sizP _ rfl s 0 rfl X LX.out C3.out ?_)
  refine (MB.out w3).mono ?_
  rintro _ w4 ⟨rfl, b4⟩
  have HB4 := hide (later HB3.out b4)
  clear C3 HB3 b4 MB
  go_upto_region 5 with fail
  have c14 : ∀ W, Below w4.heap.size w4 W → W.cell? ⟨s, 14, none⟩ = some (.int .i64 p.off) ∧ W.cell? ⟨s, 13, none⟩ = some (.bool p.more) := fun W hW => by
    have := (HPB.out.later (later HB4.out hW)).1
    exact ⟨this 14 _ rfl, this 13 _ rfl⟩
  have CL : ∀ W, Below w4.heap.size w4 W → Calls Try.prog 32 #[.slice da dn dc] W fun e W' => ∃ v, e = .returned v ∧ (∃ ad oc, v = .slice ad dn oc ∧ CT w2.heap.size W' v D) ∧ Below W.heap.size W W' := fun W hW => by
    refine (cloneT_any (HD.out.later (HPB.out.later (later HB4.out hW)).2.2.2.2) HDL.out).mono ?_
    rintro _ W' ⟨u, rfl, hu, hb⟩
    obtain ⟨a, c, e⟩ := Cn.shape hu
    have z := (later HB4.out hW).size
    exact ⟨u, rfl, ⟨a, c, by rw [HDN.out]; exact e, Cn.own hu (fun g _ e => ⟨Nat.le_trans z e.1, e.2⟩)⟩, hb⟩
  go_cut [13] from 35 to 43 (fun v13 wx => ∃ (s13 : Nat) (x : Pc), v13 = .pointer (some ⟨s13, 0, none⟩) ∧ Hid (PcAt w2 p D buf s13 x wx))
  case first =>
    refine region_grow_store (w := w4) (fun i v W => match i with | 0 => v = .pointer (some ⟨s, 14, none⟩) | 1 => v = .int .i64 p.off | 2 => v = .slice da dn dc | 3 => ∃ ad oc, v = .slice ad dn oc ∧ CT w2.heap.size W v D | 4 => v = .pointer (some ⟨s, 13, none⟩) | 5 => v = .bool p.more | 6 => v = .bool (!p.more) | 7 => v = .int .i64 buf | 8 => ∃ ad oc, v = .agg #[.int .i64 p.off, .slice ad dn oc, .bool (!p.more), .int .i64 buf] ∧ CT w2.heap.size W (.slice ad dn oc) D | 9 => BoxPc w2.heap.size W v | _ => True) (by kernel_rfl) (by kernel_rfl) (by kernel_rfl) 10 rfl _ rfl rfl (no_guard (by kernel_rfl)) (fun i v W W' h hb => match i, h with | 0, h => h | 1, h => h | 2, h => h | 3, h => (by obtain ⟨ad, oc, e, h⟩ := h; exact ⟨ad, oc, e, h.later hb⟩) | 4, h => h | 5, h => h | 6, h => h | 7, h => h | 8, h => (by obtain ⟨ad, oc, e, h⟩ := h; exact ⟨ad, oc, e, h.later hb⟩) | 9, h => BoxPc.later h hb | _ + 10, h => h) ?_ ?_
    · intro listed a W hM hn i o ho hlt hr
      have B := hM.bel
      match i, ho, hlt, hr with
      | 0, ho, _, hr =>
        have u6 : a.eval (.tmp 6) = .pointer (some ⟨s, 0, none⟩) := hM.keep (t := 6) (by kernel_rfl)
        exact Step.of rfl (.inl ⟨.pointer (some ⟨s, 14, none⟩), W, exec_fieldO 26 _ 8 s 0 14 rfl u6 (fun w => by kernel_rfl), Below.refl _ _, rfl⟩) ho
      | 1, ho, _, hr =>
        have u35 := hM.use hr rfl (j := 0) (by kernel_rfl) rfl rfl
        have u35 : a.eval (.tmp 35) = .pointer (some ⟨s, 14, none⟩) := u35
        exact Step.of rfl (.inl ⟨.int .i64 p.off, W, exec_load1 3 one1 _ rfl s 14 u35 (.int .i64 p.off) ((c14 W (later (later_drew _) B)).1), Below.refl _ _, rfl⟩) ho
      | 2, ho, _, hr =>
        have u2 : a.eval (.tmp 2) = .slice da dn dc := hM.keep (t := 2) (by kernel_rfl)
        exact Step.of rfl (.inl ⟨.slice da dn dc, W, exec_move _ _ rfl u2, Below.refl _ _, rfl⟩) ho
      | 3, ho, _, hr =>
        have u37 := hM.use hr rfl (j := 2) (by kernel_rfl) rfl rfl
        have u37 : a.eval (.tmp 37) = .slice da dn dc := u37
        refine Step.of rfl (.inr ⟨32, #[.slice da dn dc], exec_callF _ _ _ _ rfl (map1 u37) (enters_of Try.func32 (by kernel_rfl) rfl), ?_⟩) ho
        exact CL W (later (later_drew _) B)
      | 4, ho, _, hr =>
        have u6 : a.eval (.tmp 6) = .pointer (some ⟨s, 0, none⟩) := hM.keep (t := 6) (by kernel_rfl)
        exact Step.of rfl (.inl ⟨.pointer (some ⟨s, 13, none⟩), W, exec_fieldO 26 _ 7 s 0 13 rfl u6 (fun w => by kernel_rfl), Below.refl _ _, rfl⟩) ho
      | 5, ho, _, hr =>
        have u39 := hM.use hr rfl (j := 4) (by kernel_rfl) rfl rfl
        have u39 : a.eval (.tmp 39) = .pointer (some ⟨s, 13, none⟩) := u39
        exact Step.of rfl (.inl ⟨.bool p.more, W, exec_load1 4 oneB _ rfl s 13 u39 (.bool p.more) ((c14 W (later (later_drew _) B)).2), Below.refl _ _, rfl⟩) ho
      | 6, ho, _, hr =>
        have u40 := hM.use hr rfl (j := 5) (by kernel_rfl) rfl rfl
        have u40 : a.eval (.tmp 40) = .bool p.more := u40
        exact Step.of rfl (.inl ⟨.bool (!p.more), W, exec_notb _ _ _ rfl u40, Below.refl _ _, rfl⟩) ho
      | 7, ho, _, hr =>
        have u3 : a.eval (.tmp 3) = .int .i64 buf := hM.keep (t := 3) (by kernel_rfl)
        exact Step.of rfl (.inl ⟨.int .i64 buf, W, exec_move _ _ rfl u3, Below.refl _ _, rfl⟩) ho
      | 8, ho, _, hr =>
        have u36 := hM.use hr rfl (j := 1) (by kernel_rfl) rfl rfl
        have u36 : a.eval (.tmp 36) = .int .i64 p.off := u36
        have u38 := hM.use hr rfl (j := 3) (by kernel_rfl) rfl rfl
        have u38 : (fun v W => ∃ ad oc, v = .slice ad dn oc ∧ CT w2.heap.size W v D) (a.eval (.tmp 38)) W := u38
        have u41 := hM.use hr rfl (j := 6) (by kernel_rfl) rfl rfl
        have u41 : a.eval (.tmp 41) = .bool (!p.more) := u41
        have u42 := hM.use hr rfl (j := 7) (by kernel_rfl) rfl rfl
        have u42 : a.eval (.tmp 42) = .int .i64 buf := u42
        refine Step.of rfl (.inl ?_) ho
        exact (by obtain ⟨ad, oc, e, hg⟩ := u38; exact ⟨_, W, exec_bldPc _ _ _ _ _ ad dn oc _ _ rfl u36 e u41 u42, Below.refl _ _, ad, oc, rfl, by rw [← e]; exact hg⟩)
      | 9, ho, _, hr =>
        refine Step.of rfl (.inl ?_) ho
        exact boxPc_made rfl (Nat.le_trans HB4.out.size hn)
      | n + 10, _, hlt, _ => exact absurd hlt (by omega)
    intro listed a W hM hl
    have B := hM.bel
    have p35 : a.tmps.getD 35 undef = .pointer (some ⟨s, 14, none⟩) := hM.got 0 _ _ rfl (hl 0 (by decide)) rfl
    have p36 : a.tmps.getD 36 undef = .int .i64 p.off := hM.got 1 _ _ rfl (hl 1 (by decide)) rfl
    have p37 : a.tmps.getD 37 undef = .slice da dn dc := hM.got 2 _ _ rfl (hl 2 (by decide)) rfl
    have p38 : (fun v W => ∃ ad oc, v = .slice ad dn oc ∧ CT w2.heap.size W v D) (a.tmps.getD 38 undef) W := hM.got 3 _ _ rfl (hl 3 (by decide)) rfl
    have p39 : a.tmps.getD 39 undef = .pointer (some ⟨s, 13, none⟩) := hM.got 4 _ _ rfl (hl 4 (by decide)) rfl
    have p40 : a.tmps.getD 40 undef = .bool p.more := hM.got 5 _ _ rfl (hl 5 (by decide)) rfl
    have p41 : a.tmps.getD 41 undef = .bool (!p.more) := hM.got 6 _ _ rfl (hl 6 (by decide)) rfl
    have p42 : a.tmps.getD 42 undef = .int .i64 buf := hM.got 7 _ _ rfl (hl 7 (by decide)) rfl
    have p43 : (fun v W => ∃ ad oc, v = .agg #[.int .i64 p.off, .slice ad dn oc, .bool (!p.more), .int .i64 buf] ∧ CT w2.heap.size W (.slice ad dn oc) D) (a.tmps.getD 43 undef) W := hM.got 8 _ _ rfl (hl 8 (by decide)) rfl
    have p13 : (fun v W => BoxPc w2.heap.size W v) (a.tmps.getD 13 undef) W := hM.got 9 _ _ rfl (hl 9 (by decide)) rfl
    obtain ⟨ad, oc, e43, g43⟩ := p43
    obtain ⟨s13, e13, h41, h42, h43, h44, h45⟩ := p13
    refine ⟨W.setCells s13 0 [.int .i64 p.off, .slice ad dn oc, .bool (!p.more), .int .i64 buf], exec_storeA 80 4 sizPc (.tmp 13) (.tmp 43) rfl s13 0 e13 _ zPc e43 rfl rfl h43 h44 (by intro u hu; simp only [List.mem_cons, List.not_mem_nil, or_false] at hu; rcases hu with rfl | rfl | rfl | rfl <;> rfl), ?_⟩
    rw [hM.lit [35, 36, 37, 38, 39, 40, 41, 42, 43, 13] (by kernel_rfl)]
    clear hM hl
    simp only [fill, List.foldl_cons, List.foldl_nil, Act.put, List.setIfInBounds_toArray, List.set_cons_zero, List.set_cons_succ]
    clear p35
    generalize a.tmps.getD 35 undef = x35 at *
    clear p36
    generalize a.tmps.getD 36 undef = x36 at *
    clear p37
    generalize a.tmps.getD 37 undef = x37 at *
    generalize a.tmps.getD 38 undef = x38 at *
    clear p39
    generalize a.tmps.getD 39 undef = x39 at *
    clear p40
    generalize a.tmps.getD 40 undef = x40 at *
    clear p41
    generalize a.tmps.getD 41 undef = x41 at *
    clear p42
    generalize a.tmps.getD 42 undef = x42 at *
    generalize a.tmps.getD 43 undef = x43 at *
    generalize a.tmps.getD 13 undef = x13 at *
    have bo := But.cells s13 [.int .i64 p.off, .slice ad dn oc, .bool (!p.more), .int .i64 buf] 0 W
    have FIN : Hid (PcAt w2 p D buf s13 ⟨p.off, .slice ad dn oc, D, !p.more, buf⟩ (W.setCells s13 0 [.int .i64 p.off, .slice ad dn oc, .bool (!p.more), .int .i64 buf])) := by
      have z2 := HB4.out.size
      have BW : Below w2.heap.size w2 W := later HB4.out (later (later_drew _) B)
      refine ⟨rfl, h41, h43.stored rfl, by rw [size_setCells]; exact h42, ?_, BW.trans (bo.below BW.size (fun g hg e => by have e : g = s13 := e; omega))⟩
      rw [size_setCells]
      refine Cn.own (Cn.but g43 bo (fun g e e2 => ?_)) (fun g _ e => ⟨e.1, e.2.1⟩)
      have e2 : g = s13 := e2
      obtain ⟨cs, hcs⟩ := e.2.2
      rw [e2, h45] at hcs
      cases hcs
    subst e13
    clear p38 e43 g43 h43 h44 h45 B bo
    obtain ⟨wf, hwf⟩ : ∃ wf, wf = W.setCells s13 0 [.int .i64 p.off, .slice ad dn oc, .bool (!p.more), .int .i64 buf] := ⟨_, rfl⟩
    rw [← hwf] at FIN ⊢
    clear hwf
    go_wp2
    go_meet
    exact ⟨s13, _, rfl, FIN⟩
  case rest =>
    obtain ⟨s13, x, rfl, PX⟩ := hcut
    clear CL c14
    obtain ⟨w5, hw5⟩ : ∃ w5, w5 = wc := ⟨_, rfl⟩
    rw [← hw5] at PX ⊢
    clear hw5 HB4
    have C5 : Hid (CellsAt w5 s 0 X) := by rw [HX.out]; exact (HPB.out.later PX.out.b).1
    go_wp2_with (refine wpList_loadA rfl 26 16 aggP sizP _ rfl s 0 rfl X LX.out C5.out ?_)
    refine (KD.out w5).mono ?_
    rintro _ w6 ⟨rfl, b6⟩
    have PX6 := hide (PX.out.later b6)
    clear PX b6 C5 KD
    have FD := hide (find_any (HFR.out.later (HPB.out.later PX6.out.b).2.2.2.2) p.kd)
    go_wp2_with fail
    refine FD.out.mono ?_
    rintro _ w7 ⟨rfl, b7⟩
    have PX7 := hide (PX6.out.later b7)
    clear PX6 FD b7
    go_upto_block 1 with fail
    go_cut [14] from 44 to 102 (fun v14 wx => ∃ (k i : Nat) (m : Gm) (G1 : List (Nat × Gm)) (ρ1 : Nat → Nat × Nat), v14 = .pointer (some ⟨k, 0, none⟩) ∧ Hid (PutMid w w2 ρ G p D buf now b s13 x k i m G1 ρ1 wx))
    case first =>
      cases hk : fndK p.kd G with
      | some q =>
        obtain ⟨i, hi, hfi⟩ := fndK_some hk
        obtain ⟨k, m⟩ := q
        have H7 := HFR.out.cut.later (HPB.out.later PX7.out.b).2.2.2.2
        have gm := (H7.gm _ (List.mem_of_getElem? hi)).2.2
        have XO : x.Ok (fun g => w2.heap.size ≤ g ∧ g < w7.heap.size) w7 := PX7.out.ok HM.out
        have OV := hide (overlaps_any gm x XO)
        obtain ⟨XC, hXC⟩ : ∃ XC, XC = x.cells := ⟨_, rfl⟩
        have LXC : Hid (XC.length = 4) := by rw [hXC]; exact rfl
        have C13 : Hid (CellsAt w7 s13 0 XC) := by rw [hXC]; exact PX7.out.c
        obtain ⟨ob, hob⟩ : ∃ ob, ob = m.L.any (odds x) := ⟨_, rfl⟩
        rw [← hXC, ← hob] at OV
        obtain ⟨a1, a2, a3, a4⟩ := PX7.out.at_
        have SP := putS_some (buf := buf) (now := now) HF.out HM.out hfi (absG_at hi)
        have EO : m.n.L.any (odds (nPc p D buf)) = ob := by rw [← PX7.out.hx, hob]; exact any_n x m.L
        rw [EO] at SP
        have HSP := hide SP
        have HI := hide hi
        have HOB := hide hob
        clear XO hXC hob gm H7 hi hfi SP EO hk
        go_wp2_with (refine wpList_loadAg 80 4 aggPc sizPc _ rfl s13 0 rfl XC LXC.out C13.out (by kernel_rfl) ?_)
        refine OV.out.mono ?_
        rintro _ w8 ⟨rfl, b8⟩
        have PX8 := hide (PX7.out.later b8)
        clear OV C13 b8 PX7
        cases ob with
        | true =>
          have H8 := HFR.out.cut.later (HPB.out.later PX8.out.b).2.2.2.2
          have DR := hide (drop_any H8 HI.out)
          have H8' := hide H8
          clear H8
          go_wp2_with fail
          refine DR.out.mono ?_
          rintro _ w9 ⟨rfl, F9, b9⟩
          have BU := hide (bufs_any (H8'.out.keep b9 (List.mem_of_getElem? HI.out)))
          have HF9 := hide F9
          have HB9 := hide b9
          clear F9 b9 DR H8'
          go_wp2_with (refine wpList_runV rfl (exec_zWh rfl) ?_)
          refine BU.out.mono ?_
          rintro _ w10 ⟨v10, rfl, r10, b10⟩
          obtain ⟨a', n', c', w11, w12, w13, hw11, hrun, R12, G12, hw13, C13, f13, o13, B13⟩ := overlap_fin HFR.out HPB.out PX8.out.b HI.out HF9.out HB9.out r10 b10 buf
          obtain ⟨ua, uc, rfl⟩ := r10.shape
          obtain ⟨un, hun⟩ : ∃ un, un = (m.L.map (·.buf)).length := ⟨_, rfl⟩
          rw [← hun] at hrun ⊢
          obtain ⟨Y, hY⟩ : ∃ Y, Y = zWh := ⟨_, rfl⟩
          have LY : Hid (Y.length = 18) := by rw [hY]; exact rfl
          have OY : Hid (∀ u ∈ Y, u.oneCell' = true) := by rw [hY]; exact whC_one zF _ _ _ rfl rfl rfl
          rw [← hY] at R12 C13 hw13 ⊢
          have RUN := hide hrun
          have HR12 := hide R12
          have HG12 := hide G12
          have HC13 := hide C13
          have FIN : Hid (∃ (ρ' : Nat → Nat × Nat) (G' : List (Nat × Gm)), FrAt ρ' w13 b G' ∧ absG G' = (putS p D buf now (absG G)).2.2 ∧ PutOut w w13 ρ' (putS p D buf now (absG G)).1 (putS p D buf now (absG G)).2.1 (.tuple #[.agg Y.toArray, .bool false, .slice a' n' c']) ∧ (∀ g, g < w.heap.size → ρ' g = ρ g) ∧ But (fun g => ρ g ≠ (0, 9) ∧ g < w.heap.size) w w13) := by
            refine ⟨_, _, f13, ?_, ?_, fun g hg => cutR_lt hg, B13⟩
            · rw [HSP.out, if_pos True.intro, absG_erase]
            · rw [HSP.out, if_pos True.intro, hY]
              have e : m.n.L.map (·.buf) = m.L.map (·.buf) := by
                show (m.L.map Pc.n).map (·.buf) = _
                rw [List.map_map]
                rfl
              rw [e]
              exact o13
          have hw11' := hw11.symm
          have hw13' := hw13.symm
          clear hw11 hrun R12 G12 hw13 C13 f13 o13 B13 r10 b10 BU HF9 HB9 hun hY
          go_wp2_with (first | (refine wpList_runV rfl (exec_bsI _ _ rfl rfl) ?_; rw [hw11']) | (at_builtin; refine wpList_appJ rfl _ _ rfl rfl _ _ rfl rfl RUN.out ?_) | (refine wpList_storeA rfl 49 18 sizWh _ _ rfl (s + 1) 0 rfl Y Y rfl LY.out LY.out HR12.out HG12.out OY.out ?_; intro _; rw [hw13']))
          refine bodyPost_ret (v := .tuple #[.agg Y.toArray, .bool false, .slice a' n' c']) (results_W rfl _ _ (s + 1) _ _ _ rfl rfl rfl (run_loadVarA 49 18 aggWh sizWh (s + 1) 0 _ LY.out HC13.out)) rfl ?_
          exact ⟨_, rfl, FIN.out⟩
        | false =>
          have H8 := HFR.out.later (HPB.out.later PX8.out.b).2.2.2.2
          have BY := hide (fBytes_any H8)
          have sz4 : szG G ≤ 2457600 := by
            have h1 : szG G ≤ G.length * 614400 := szG_le (fun q hq => by
              have gq := (HFR.out.gm q hq).2.2
              have := szP_le (L := q.2.L) (fun x hx => (gq.con x hx).len)
              have := gq.len
              omega)
            have h2 := HFR.out.len
            omega
          obtain ⟨sz, hsz⟩ : ∃ sz, sz = szG G := ⟨_, rfl⟩
          have dl : dn ≤ 1024 := by have := (myb_bd HM.out).2.1; have := (myb_bd HM.out).1; have := HDN.out; omega
          rw [← hsz] at BY sz4
          have q1 : (sz : Int) ≤ 2457600 := by omega
          have q2 : (dn : Int) ≤ 1024 := by omega
          have q3 : (0 : Int) ≤ sz := by omega
          have q4 : (0 : Int) ≤ dn := by omega
          have ES : Hid (szS (absG G) + D.length = sz + dn) := by rw [szS_abs, ← hsz, HDN.out]; exact rfl
          clear H8 hsz sz4 dl
          by_cases hbig : 2048 < sz + dn
          · have hq : (2048 : Int) < (sz : Int) + (dn : Int) := by omega
            go_wp2_with fail
            refine BY.out.mono ?_
            rintro _ w9 ⟨rfl, b9⟩
            obtain ⟨wa, wb, hwa, R12, G12, hwb, C13, f13, o13, B13⟩ := refuse_fin HFR.out HPB.out (PX8.out.later b9).b buf
            obtain ⟨Y, hY⟩ : ∃ Y, Y = zWh := ⟨_, rfl⟩
            have LY : Hid (Y.length = 18) := by rw [hY]; exact rfl
            have OY : Hid (∀ u ∈ Y, u.oneCell' = true) := by rw [hY]; exact whC_one zF _ _ _ rfl rfl rfl
            rw [← hY] at R12 C13 hwb
            have BLD : Hid (∀ (o : Oper) (ev : Operand → Value) (W : World), o.op = .build 49 #[] → (execOp ev o).run Try.prog W = .ok (.value (.agg Y.toArray)) W) := fun o ev W ho => by rw [hY]; exact exec_zWh ho
            have HR12 := hide R12
            have HG12 := hide G12
            have HC13 := hide C13
            have FIN : Hid (∃ (ρ' : Nat → Nat × Nat) (G' : List (Nat × Gm)), FrAt ρ' wb b G' ∧ absG G' = (putS p D buf now (absG G)).2.2 ∧ PutOut w wb ρ' (putS p D buf now (absG G)).1 (putS p D buf now (absG G)).2.1 (.tuple #[.agg Y.toArray, .bool false, .slice (some ⟨w9.heap.size, 0, none⟩) 1 1]) ∧ (∀ g, g < w.heap.size → ρ' g = ρ g) ∧ But (fun g => ρ g ≠ (0, 9) ∧ g < w.heap.size) w wb) := by
              refine ⟨_, _, f13, ?_, ?_, fun g hg => cutR_lt hg, But.of_below B13⟩
              · rw [HSP.out, if_neg (show ¬ (false = true) by decide), if_pos (by rw [ES.out]; exact hbig)]
              · rw [HSP.out, if_neg (show ¬ (false = true) by decide), if_pos (by rw [ES.out]; exact hbig), hY]
                exact o13
            have hwa' := hwa.symm
            have hwb' := hwb.symm
            clear hwa R12 G12 hwb C13 f13 o13 B13 b9 BY hY
            go_wp2_with (first | refine wpList_runV rfl (BLD.out _ _ _ rfl) ?_ | (refine wpList_runV rfl (exec_bsI _ _ rfl rfl) ?_; rw [hwa']) | (refine wpList_storeA rfl 49 18 sizWh _ _ rfl (s + 1) 0 rfl Y Y rfl LY.out LY.out HR12.out HG12.out OY.out ?_; intro _; rw [hwb']))
            refine bodyPost_ret (v := .tuple #[.agg Y.toArray, .bool false, .slice (some ⟨w9.heap.size, 0, none⟩) 1 1]) (results_W rfl _ _ (s + 1) _ _ _ rfl rfl rfl (run_loadVarA 49 18 aggWh sizWh (s + 1) 0 _ LY.out HC13.out)) rfl ?_
            exact ⟨_, rfl, FIN.out⟩
          · have hq : ¬ (2048 : Int) < (sz : Int) + (dn : Int) := by omega
            have SP2 := HSP.out
            rw [if_neg (show ¬ (false = true) by decide), if_neg (by rw [ES.out]; exact hbig)] at SP2
            have HSP2 := hide SP2
            clear SP2
            go_wp2_with fail
            refine BY.out.mono ?_
            rintro _ w9 ⟨rfl, b9⟩
            obtain ⟨ρ1, PM⟩ := mid_old HFR.out HPB.out (PX8.out.later b9) HM.out HI.out HL.out HSP2.out
            have HPM := hide PM
            clear PM b9 BY PX8
            go_wp2
            go_meet
            exact ⟨k, i, m, G, ρ1, rfl, HPM⟩
      | none =>
        have hfi := fndK_none hk
        have H7 := HFR.out.later (HPB.out.later PX7.out.b).2.2.2.2
        obtain ⟨va, vc, cv, _⟩ := H7.at
        obtain ⟨n, hn⟩ : ∃ n, n = G.length := ⟨_, rfl⟩
        rw [← hn] at cv
        have n4 : n ≤ 4 := by rw [hn]; exact HFR.out.len
        have SP := putS_none (buf := buf) (now := now) HF.out HM.out hfi
        have el : (absG G).length = n := by unfold absG; rw [List.length_map, hn]
        rw [el] at SP
        have HN := hide hn
        have HK := hide hk
        clear hk hfi H7 hn el
        by_cases h4 : n = 4
        · subst h4
          have SP2 := SP
          rw [if_pos (.inl rfl)] at SP2
          have HSP := hide SP2
          clear SP SP2
          obtain ⟨wa, wb, hwa, R12, G12, hwb, C13, f13, o13, B13⟩ := refuse_fin HFR.out HPB.out PX7.out.b buf
          obtain ⟨Y, hY⟩ : ∃ Y, Y = zWh := ⟨_, rfl⟩
          have LY : Hid (Y.length = 18) := by rw [hY]; exact rfl
          have OY : Hid (∀ u ∈ Y, u.oneCell' = true) := by rw [hY]; exact whC_one zF _ _ _ rfl rfl rfl
          rw [← hY] at R12 C13 hwb
          have BLD : Hid (∀ (o : Oper) (ev : Operand → Value) (W : World), o.op = .build 49 #[] → (execOp ev o).run Try.prog W = .ok (.value (.agg Y.toArray)) W) := fun o ev W ho => by rw [hY]; exact exec_zWh ho
          have HR12 := hide R12
          have HG12 := hide G12
          have HC13 := hide C13
          have FIN : Hid (∃ (ρ' : Nat → Nat × Nat) (G' : List (Nat × Gm)), FrAt ρ' wb b G' ∧ absG G' = (putS p D buf now (absG G)).2.2 ∧ PutOut w wb ρ' (putS p D buf now (absG G)).1 (putS p D buf now (absG G)).2.1 (.tuple #[.agg Y.toArray, .bool false, .slice (some ⟨w7.heap.size, 0, none⟩) 1 1]) ∧ (∀ g, g < w.heap.size → ρ' g = ρ g) ∧ But (fun g => ρ g ≠ (0, 9) ∧ g < w.heap.size) w wb) := by
            refine ⟨_, _, f13, ?_, ?_, fun g hg => cutR_lt hg, But.of_below B13⟩
            · rw [HSP.out]
            · rw [HSP.out, hY]
              exact o13
          have hwa' := hwa.symm
          have hwb' := hwb.symm
          clear hwa R12 G12 hwb C13 f13 o13 B13 hY
          go_wp2_with (first | refine wpList_runV rfl (BLD.out _ _ _ rfl) ?_ | (refine wpList_runV rfl (exec_bsI _ _ rfl rfl) ?_; rw [hwa']) | (refine wpList_storeA rfl 49 18 sizWh _ _ rfl (s + 1) 0 rfl Y Y rfl LY.out LY.out HR12.out HG12.out OY.out ?_; intro _; rw [hwb']))
          refine bodyPost_ret (v := .tuple #[.agg Y.toArray, .bool false, .slice (some ⟨w7.heap.size, 0, none⟩) 1 1]) (results_W rfl _ _ (s + 1) _ _ _ rfl rfl rfl (run_loadVarA 49 18 aggWh sizWh (s + 1) 0 _ LY.out HC13.out)) rfl ?_
          exact ⟨_, rfl, FIN.out⟩
        have e4 : ((n : Int) == 4) = false := by simp; omega
        have H8 := HFR.out.later (HPB.out.later PX7.out.b).2.2.2.2
        have BY := hide (fBytes_any H8)
        have sz4 : szG G ≤ 2457600 := by
          have h1 : szG G ≤ G.length * 614400 := szG_le (fun q hq => by
            have gq := (HFR.out.gm q hq).2.2
            have := szP_le (L := q.2.L) (fun x hx => (gq.con x hx).len)
            have := gq.len
            omega)
          have h2 := HFR.out.len
          omega
        obtain ⟨sz, hsz⟩ : ∃ sz, sz = szG G := ⟨_, rfl⟩
        have dl : dn ≤ 1024 := by have := (myb_bd HM.out).2.1; have := (myb_bd HM.out).1; have := HDN.out; omega
        rw [← hsz] at BY sz4
        have q1 : (sz : Int) ≤ 2457600 := by omega
        have q2 : (dn : Int) ≤ 1024 := by omega
        have q3 : (0 : Int) ≤ sz := by omega
        have q4 : (0 : Int) ≤ dn := by omega
        have ES : Hid (szS (absG G) + D.length = sz + dn) := by rw [szS_abs, ← hsz, HDN.out]; exact rfl
        clear H8 hsz sz4 dl
        by_cases hbig : 2048 < sz + dn
        · have hq : (2048 : Int) < (sz : Int) + (dn : Int) := by omega
          rw [if_pos (.inr (by rw [ES.out]; exact hbig))] at SP
          have HSP := hide SP
          clear SP
          go_wp2_with fail
          refine BY.out.mono ?_
          rintro _ w9 ⟨rfl, b9⟩
          obtain ⟨wa, wb, hwa, R12, G12, hwb, C13, f13, o13, B13⟩ := refuse_fin HFR.out HPB.out (PX7.out.later b9).b buf
          obtain ⟨Y, hY⟩ : ∃ Y, Y = zWh := ⟨_, rfl⟩
          have LY : Hid (Y.length = 18) := by rw [hY]; exact rfl
          have OY : Hid (∀ u ∈ Y, u.oneCell' = true) := by rw [hY]; exact whC_one zF _ _ _ rfl rfl rfl
          rw [← hY] at R12 C13 hwb
          have BLD : Hid (∀ (o : Oper) (ev : Operand → Value) (W : World), o.op = .build 49 #[] → (execOp ev o).run Try.prog W = .ok (.value (.agg Y.toArray)) W) := fun o ev W ho => by rw [hY]; exact exec_zWh ho
          have HR12 := hide R12
          have HG12 := hide G12
          have HC13 := hide C13
          have FIN : Hid (∃ (ρ' : Nat → Nat × Nat) (G' : List (Nat × Gm)), FrAt ρ' wb b G' ∧ absG G' = (putS p D buf now (absG G)).2.2 ∧ PutOut w wb ρ' (putS p D buf now (absG G)).1 (putS p D buf now (absG G)).2.1 (.tuple #[.agg Y.toArray, .bool false, .slice (some ⟨w9.heap.size, 0, none⟩) 1 1]) ∧ (∀ g, g < w.heap.size → ρ' g = ρ g) ∧ But (fun g => ρ g ≠ (0, 9) ∧ g < w.heap.size) w wb) := by
            refine ⟨_, _, f13, ?_, ?_, fun g hg => cutR_lt hg, But.of_below B13⟩
            · rw [HSP.out]
            · rw [HSP.out, hY]
              exact o13
          have hwa' := hwa.symm
          have hwb' := hwb.symm
          clear hwa R12 G12 hwb C13 f13 o13 B13 b9 BY hY
          go_wp2_with (first | refine wpList_runV rfl (BLD.out _ _ _ rfl) ?_ | (refine wpList_runV rfl (exec_bsI _ _ rfl rfl) ?_; rw [hwa']) | (refine wpList_storeA rfl 49 18 sizWh _ _ rfl (s + 1) 0 rfl Y Y rfl LY.out LY.out HR12.out HG12.out OY.out ?_; intro _; rw [hwb']))
          refine bodyPost_ret (v := .tuple #[.agg Y.toArray, .bool false, .slice (some ⟨w9.heap.size, 0, none⟩) 1 1]) (results_W rfl _ _ (s + 1) _ _ _ rfl rfl rfl (run_loadVarA 49 18 aggWh sizWh (s + 1) 0 _ LY.out HC13.out)) rfl ?_
          exact ⟨_, rfl, FIN.out⟩
        · have hq : ¬ (2048 : Int) < (sz : Int) + (dn : Int) := by omega
          rw [if_neg (by rintro (e | e); exact h4 e; exact hbig (by rw [← ES.out]; exact e))] at SP
          have HSP := hide SP
          clear SP
          go_wp2_with fail
          refine BY.out.mono ?_
          rintro _ w9 ⟨rfl, b9⟩
          have PX9 := hide (PX7.out.later b9)
          have C9 : Hid (CellsAt w9 s 0 X) := by rw [HX.out]; exact (HPB.out.later PX9.out.b).1
          have KD : Hid (∀ W, Calls Try.prog 35 #[.agg X.toArray] W fun e w' => e = .returned (.agg p.kd.cells.toArray) ∧ Below W.heap.size W w') := fun W => by
            rw [HX.out]
            exact kindOf_any p ov W
          clear b9 BY PX7 cv e4 hq q1 q2 q3 q4
          go_wp2_with (refine wpList_loadA rfl 26 16 aggP sizP _ rfl s 0 rfl X LX.out C9.out ?_)
          refine (KD.out w9).mono ?_
          rintro _ w10 ⟨rfl, b10⟩
          obtain ⟨W1, wE, wF, wG, k, va2, a', vc2, n2, c', g1, g2, g4, g5, g6, g7, g8, g9, i, m, G1, ρ1, PM⟩ := mid_new HFR.out HPB.out (PX9.out.later b10) HM.out HK.out (by have := HN.out; omega) HSP.out
          obtain ⟨V, hV⟩ : ∃ V, V = gmZ p.kd now := ⟨_, rfl⟩
          have BLD : Hid (∀ (o : Oper) (ev : Operand → Value) (W : World) (x y : Operand), o.op = .build 71 #[(0, x), (1, y)] → ev x = .agg p.kd.cells.toArray → ev y = .int .i64 now → (execOp ev o).run Try.prog W = .ok (.value (.agg V.toArray)) W) := fun o ev W x y ho hx hy => by rw [hV]; exact exec_bldGm x y _ _ ho hx hy
          rw [← hV] at g2
          have BOX : Hid (∀ (o : Oper) (ev : Operand → Value) (x : Operand), o.op = .box 71 x → ev x = .agg V.toArray → (execOp ev o).run Try.prog w10 = .ok (.value (.pointer (some ⟨k, 0, none⟩))) W1) := fun o ev x ho hx => by
            rw [g2, g1]
            unfold execOp
            rw [ho]
            simp only [hx]
            rfl
          have HPM := hide PM
          have RUN := hide g6
          have HE := hide g5
          have HG := hide g9
          clear g1 g2 g5 g6 g9 PM b10 PX9 C9 KD hV
          go_upto_region 15 with (first | refine wpList_runV rfl (BLD.out _ _ _ _ _ rfl rfl rfl) ?_ | refine wpList_runV rfl (BOX.out _ _ _ rfl rfl) ?_)
          clear BLD BOX
          refine wp_region_list ?_
          refine listVP (w' := W1) 93 (.pointer (some ⟨b, 0, none⟩)) rfl rfl rfl (exec_move _ _ rfl rfl) ?_
          try simp only [Act.put, List.setIfInBounds_toArray, List.set_cons_zero, List.set_cons_succ]
          refine listVP (w' := W1) 94 (.pointer (some ⟨b, 0, none⟩)) rfl rfl rfl (exec_move _ _ rfl rfl) ?_
          try simp only [Act.put, List.setIfInBounds_toArray, List.set_cons_zero, List.set_cons_succ]
          refine listVP (w' := W1) 95 (.pointer (some ⟨b, 0, none⟩)) rfl rfl rfl (exec_nil _ _ rfl rfl) ?_
          try simp only [Act.put, List.setIfInBounds_toArray, List.set_cons_zero, List.set_cons_succ]
          refine listVP (w' := W1) 96 (.pointer (some ⟨b, 0, none⟩)) rfl rfl rfl (exec_fieldO 64 _ 0 b 0 0 rfl rfl (fun w => by kernel_rfl)) ?_
          try simp only [Act.put, List.setIfInBounds_toArray, List.set_cons_zero, List.set_cons_succ]
          refine listVP (w' := W1) 97 (.slice va2 n2 vc2) rfl rfl rfl (exec_load1 62 oneDps _ rfl b 0 rfl (.slice va2 n2 vc2) (g4)) ?_
          try simp only [Act.put, List.setIfInBounds_toArray, List.set_cons_zero, List.set_cons_succ]
          refine listVP (w' := W1) 98 (.pointer (some ⟨k, 0, none⟩)) rfl rfl rfl (exec_move _ _ rfl rfl) ?_
          try simp only [Act.put, List.setIfInBounds_toArray, List.set_cons_zero, List.set_cons_succ]
          refine listVP (w' := wE) 99 (.slice (some ⟨W1.heap.size, 0, none⟩) 1 1) rfl rfl rfl (by rw [HE.out]; exact exec_bsDp _ _ rfl rfl) ?_
          try simp only [Act.put, List.setIfInBounds_toArray, List.set_cons_zero, List.set_cons_succ]
          refine listVP (w' := wF) 100 (.slice a' (n2 + 1) c') rfl rfl rfl (exec_app _ _ 62 62 rfl (.slice va2 n2 vc2) (.slice (some ⟨W1.heap.size, 0, none⟩) 1 1) rfl rfl 62 rfl RUN.out) ?_
          try simp only [Act.put, List.setIfInBounds_toArray, List.set_cons_zero, List.set_cons_succ]
          refine listVP (w' := wF) 101 (.pointer (some ⟨b, 0, none⟩)) rfl rfl rfl (exec_nil _ _ rfl rfl) ?_
          try simp only [Act.put, List.setIfInBounds_toArray, List.set_cons_zero, List.set_cons_succ]
          refine listVP (w' := wF) 102 (.pointer (some ⟨b, 0, none⟩)) rfl rfl rfl (exec_fieldO 64 _ 0 b 0 0 rfl rfl (fun w => by kernel_rfl)) ?_
          try simp only [Act.put, List.setIfInBounds_toArray, List.set_cons_zero, List.set_cons_succ]
          refine listSP (w' := wG) rfl rfl rfl (by rw [HG.out]; exact exec_store1 62 s1Ps _ _ rfl b 0 rfl _ _ rfl g7 g8 rfl) ?_
          clear g4 g7 g8 RUN HE HG
          go_wp2
          go_meet
          exact ⟨k, i, m, G1, ρ1, rfl, HPM⟩
    case rest =>
      obtain ⟨k, i, m, G1, ρ1, rfl, PM⟩ := hcut
      obtain ⟨wm, hwm⟩ : ∃ wm, wm = wc := ⟨_, rfl⟩
      rw [← hwm] at PM ⊢
      clear hwm PX7
      have hz := HPB.out.z
      have hs := HPB.out.hs
      have nS : ¬ (ρ s ≠ (0, 9) ∧ s < w.heap.size) := fun e => by omega
      have CM : Hid (CellsAt wm s 0 X) := by rw [HX.out]; exact HPB.out.c.but (by omega) PM.out.but nS
      obtain ⟨XC, hXC⟩ : ∃ XC, XC = x.cells := ⟨_, rfl⟩
      have LXC : Hid (XC.length = 4) := by rw [hXC]; exact rfl
      have C13 : Hid (CellsAt wm s13 0 XC) := by rw [hXC]; exact PM.out.c13
      have AD := hide (fAdd_any PM.out.fr PM.out.hi p ov ((HO.out.later HPB.out.b).but PM.out.but (fun g e e2 => e2.1 e)) HOL.out x PM.out.xok PM.out.len)
      rw [← HX.out, ← hXC] at AD
      clear hXC hz hs nS
      go_wp2_with (first | refine wpList_loadA rfl 26 16 aggP sizP _ rfl s 0 rfl X LX.out CM.out ?_ | refine wpList_loadA rfl 80 4 aggPc sizPc _ rfl s13 0 rfl XC LXC.out C13.out ?_)
      refine AD.out.mono ?_
      rintro _ wa ⟨rfl, m', ρ2, F2, hn2, hL2, hr2, hb2⟩
      have AA := hide (mid_add HPB.out PM.out HM.out F2 hn2 hL2 hr2 hb2)
      have GK := hide ((F2.gm _ (List.mem_of_getElem? AA.out.hi)).2.2)
      have IO := hide (inOrder_any GK.out AA.out.ne)
      clear AD CM C13 F2 hn2 hL2 hr2 hb2 PM
      go_wp2_with fail
      refine IO.out.mono ?_
      rintro _ wo ⟨ovv, rfl, ro, bo⟩
      obtain ⟨oa, oc, rfl⟩ := ro.shape
      obtain ⟨on, hon⟩ : ∃ on, on = (ord m'.L).length := ⟨_, rfl⟩
      rw [← hon]
      have HON := hide hon
      by_cases h0 : on = 0
      · have e0 : ord m'.L = [] := List.eq_nil_of_length_eq_zero (by rw [← hon]; exact h0)
        obtain ⟨wf, R12, G12, hwf, C13, REST⟩ := wait_fin HPB.out AA.out bo e0
        obtain ⟨Y, hY⟩ : ∃ Y, Y = zWh := ⟨_, rfl⟩
        have LY : Hid (Y.length = 18) := by rw [hY]; exact rfl
        have OY : Hid (∀ u ∈ Y, u.oneCell' = true) := by rw [hY]; exact whC_one zF _ _ _ rfl rfl rfl
        rw [← hY] at R12 C13 hwf REST
        have BLD : Hid (∀ (o : Oper) (ev : Operand → Value) (W : World), o.op = .build 49 #[] → (execOp ev o).run Try.prog W = .ok (.value (.agg Y.toArray)) W) := fun o ev W ho => by rw [hY]; exact exec_zWh ho
        have HR12 := hide R12
        have HG12 := hide G12
        have HC13 := hide C13
        have FIN := hide REST
        have hwf' := hwf.symm
        subst h0
        clear R12 G12 hwf C13 REST ro bo IO e0 hon hY AA GK
        go_wp2_with (first | refine wpList_runV rfl (BLD.out _ _ _ rfl) ?_ | (refine wpList_storeA rfl 49 18 sizWh _ _ rfl (s + 1) 0 rfl Y Y rfl LY.out LY.out HR12.out HG12.out OY.out ?_; intro _; rw [hwf']))
        refine bodyPost_ret (v := .tuple #[.agg Y.toArray, .bool false, .slice none 0 0]) (results_W rfl _ _ (s + 1) _ _ _ rfl rfl rfl (run_loadVarA 49 18 aggWh sizWh (s + 1) 0 _ LY.out HC13.out)) rfl ?_
        exact ⟨_, rfl, FIN.out⟩
      · have e0 : ord m'.L ≠ [] := fun e => h0 (by rw [hon, e]; rfl)
        have q0 : ((on : Int) == 0) = false := by simp; omega
        have FO := AA.out.fr.later bo
        have DR := hide (drop_any FO AA.out.hi)
        have HFO := hide FO
        have HBO := hide bo
        have HRO := hide ro
        have HE0 := hide e0
        clear FO bo ro e0 IO h0 hon GK
        go_wp2_with fail
        refine DR.out.mono ?_
        rintro _ wd ⟨rfl, FD, bd⟩
        have gk := HFO.out.keep bd (List.mem_of_getElem? AA.out.hi)
        have H11 : CellsAt wd k 11 (m'.hd.cells m'.hv) := by
          have hc := gk.c
          have e : m'.kd.cells ++ (.int .i64 m'.since :: m'.hd.cells m'.hv) = (m'.kd.cells ++ [.int .i64 m'.since]) ++ m'.hd.cells m'.hv := by simp
          rw [e, CellsAt.append] at hc
          exact hc.2
        have hok := gk.hok
        have hro : RowF 4 (fun g => wa.heap.size ≤ g) wd (.slice oa (ord m'.L).length oc) (ord m'.L).length (pcc (ord m'.L)) := HRO.out.but bd (fun g e e2 => by
          have t := AA.out.top g e
          rcases e2 with e2 | e2
          · rw [e2, AA.out.fr.me] at t; simp at t
          · rw [e2] at t; simp at t)
        have JO := hide (joined_any (w := wd) m'.hd m'.hv hok.one _ (ord m'.L) hro (fun y hy => gk.con y ((ord_sub m'.L).1 y hy)) (by have := (ord_sub m'.L).2; omega))
        rw [← HON.out] at JO
        obtain ⟨V, hV⟩ : ∃ V, V = m'.hd.cells m'.hv := ⟨_, rfl⟩
        have LV : Hid (V.length = 16) := by rw [hV]; exact rfl
        have CV : Hid (CellsAt wd k 11 V) := by rw [hV]; exact H11
        rw [← hV] at JO
        have HFD := hide FD
        have HBD := hide bd
        have HOK := hide hok
        clear DR FD bd gk H11 hok hro hV HRO HFO
        go_wp2_with (refine wpList_loadA rfl 26 16 aggP sizP _ rfl k 11 rfl V LV.out CV.out ?_)
        refine JO.out.mono ?_
        rintro _ wj ⟨dv, bv', rfl, bj, τ, rB, rN⟩
        obtain ⟨wf, R12, G12, hwf, C13, REST⟩ := whole_fin HPB.out AA.out HBO.out HE0.out HFD.out HBD.out HOK.out bj rB rN
        obtain ⟨_, _, ed⟩ := rB.shape
        obtain ⟨_, _, eb⟩ := rN.shape
        obtain ⟨Y, hY⟩ : ∃ Y, Y = whC m'.hd m'.hv dv bv' := ⟨_, rfl⟩
        have LY : Hid (Y.length = 18) := by rw [hY]; exact rfl
        have OY : Hid (∀ u ∈ Y, u.oneCell' = true) := by rw [hY]; exact whC_one _ _ _ _ HOK.out.one (by rw [ed]; rfl) (by rw [eb]; rfl)
        rw [← hY] at C13 hwf REST ⊢
        have HR12 := hide R12
        have HG12 := hide G12
        have HC13 := hide C13
        have FIN := hide REST
        have hwf' := hwf.symm
        clear R12 G12 hwf C13 REST rB rN bj JO hY ed eb HFD HBD HOK HE0 AA CV
        go_wp2_with ((refine wpList_storeA rfl 49 18 sizWh _ _ rfl (s + 1) 0 rfl Y zWh rfl LY.out rfl HR12.out HG12.out OY.out ?_; intro _; rw [hwf']))
        refine bodyPost_ret (v := .tuple #[.agg Y.toArray, .bool true, .slice none 0 0]) (results_W rfl _ _ (s + 1) _ _ _ rfl rfl rfl (run_loadVarA 49 18 aggWh sizWh (s + 1) 0 _ LY.out HC13.out)) rfl ?_
        exact ⟨_, rfl, FIN.out⟩
end Go.Proofs.Ytgempelfamjabaa
