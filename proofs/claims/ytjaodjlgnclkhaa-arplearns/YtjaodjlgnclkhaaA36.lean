
/-
  ArpLearns: the walk.
-/
import Derived.Test.YtjaodjlgnclkhaaA35
namespace Go.Proofs.Ytjaodjlgnclkhaa
open Go.RowKit Go.Shelf

/-- the law's cache, and what was said (block sd) -/
structure Lq (n : Nat) (w0 : World) (c sd : Nat) (L : List Nb) (SD : Nat → M6) (ρ : Nat → Role) (W : World) : Prop where
  ca : Ca ρ 1 W c hostM hostI L
  fit : Fit ρ W
  clear : Clear n ρ
  bel : Below n w0 W
  sz : n ≤ W.heap.size
  rs : ρ sd = (0, 0, 0)
  ls : sd < W.heap.size
  cs : ∀ q, q < 9 → CellsAt W sd (q * 6) (SD q).vals
  fs : ∀ y, W.frozen? ⟨sd, y, none⟩ = false
section
variable {n : Nat} {w0 W W' : World} {c sd : Nat} {L L' : List Nb} {SD : Nat → M6} {ρ ρ' : Nat → Role}
theorem Lq.later (h : Lq n w0 c sd L SD ρ W) (hb : Below W.heap.size W W') : Lq n w0 c sd L SD ρ W' :=
  ⟨h.ca.later hb, h.fit.below hb.size, h.clear, h.bel.trans (hb.mono h.sz), by have := h.sz; have := hb.size; omega, h.rs, by have := h.ls; have := hb.size; omega, fun q hq => (h.cs q hq).later h.ls hb, fun y => (hb.frozen (p := ⟨sd, y, none⟩) h.ls).trans (h.fs y)⟩
theorem Lq.step (h : Lq n w0 c sd L SD ρ W) (hc : Ca ρ' 1 W' c hostM hostI L') (hF : Fit ρ' W') (hm : Mv 1 ρ ρ' W W') : Lq n w0 c sd L' SD ρ' W' := by
  obtain ⟨hcl, hbl⟩ := h.clear.move h.sz (by omega) hm
  have ns : ¬ (ρ sd).1 = 1 := by rw [h.rs]; simp
  exact ⟨hc, hF, hcl, h.bel.trans hbl, by have := h.sz; have := hm.but.size; omega, by rw [hm.keep sd h.ls (by rw [h.rs]; simp)]; exact h.rs, by have := h.ls; have := hm.but.size; omega, fun q hq => (h.cs q hq).but h.ls hm.but ns, fun y => (hm.but.frozen (p := ⟨sd, y, none⟩) h.ls ns).trans (h.fs y)⟩
theorem Lq.off (h : Lq n w0 c sd L SD ρ W) {q : Nat} (hb : But (Only q) W W') (hn : n ≤ q) (hq : ρ q = (0, 0, 0)) (hs : q ≠ sd) : Lq n w0 c sd L SD ρ W' := by
  have ns : ¬ Only q sd := fun e => hs (by have e : sd = q := e; omega)
  exact ⟨h.ca.but hb (fun g e e2 => by have e2 : g = q := e2; rw [e2, hq] at e; simp at e), h.fit.below hb.size, h.clear, h.bel.trans (hb.below h.sz (fun g hg e => by have e : g = q := e; omega)), Nat.le_trans h.sz hb.size, h.rs, Nat.lt_of_lt_of_le h.ls hb.size, fun j hj => (h.cs j hj).but h.ls hb ns, fun y => (hb.frozen (p := ⟨sd, y, none⟩) h.ls ns).trans (h.fs y)⟩
/-- one says something -/
theorem Lq.say (h : Lq n w0 c sd L SD ρ W) (hn : n ≤ sd) {q : Nat} (hq : q < 9) (m : M6) : Lq n w0 c sd L (fun j => if j = q then m else SD j) ρ (W.setCells sd (q * 6) m.vals) := by
  have bo := But.cells sd m.vals (q * 6) W
  refine ⟨h.ca.but bo (fun g e e2 => by have e2 : g = sd := e2; rw [e2, h.rs] at e; simp at e), h.fit.below bo.size, h.clear, h.bel.trans (bo.below h.sz (fun g hg e => by have e : g = sd := e; omega)), Nat.le_trans h.sz bo.size, h.rs, Nat.lt_of_lt_of_le h.ls bo.size, fun j hj => ?_, fun y => by rw [World.frozen?_setCells]; exact h.fs y⟩
  by_cases e : j = q
  · subst e
    simp only [if_true]
    exact (h.cs j hj).stored rfl
  · simp only [if_neg e]
    refine (h.cs j hj).other ?_
    show j * 6 + 6 ≤ q * 6 ∨ q * 6 + 6 ≤ j * 6
    omega
end
section
variable {ops : Array Oper} {Q : Exit → Act → World → Prop} {K : Act → World → Prop} {oi : Oper} {a : Act} {w w' : World}
theorem opD_call (i : Nat) (d : Tmp) (hi : ops[i]? = some oi) (hd : oi.dst = some d) (hw : Region.wanted oi (yielded ops a.tmps) = true) (F : FuncId) (vals : Array Value) (hrun : (execOp a.eval oi).run Try.prog w = .ok (.enter F vals) w') (R : Value → World → Prop) (hC : Calls Try.prog F vals w' fun e w2 => ∃ v, e = .returned v ∧ R v w2) (h : ∀ v w2, R v w2 → K (a.put (some d) v) w2) : wpOp Try.prog ops Q i K a w := by
  unfold Go.wpOp
  simp only [hi, hw, if_true, Oper.wp, hrun, Oper.upon, hd]
  refine .inl (hC.mono ?_)
  rintro _ w2 ⟨v, rfl, hR⟩
  exact h v w2 hR
end
theorem exec_allocA {o : Oper} {w : World} {ev : Operand → Value} (ho : o.op = .alloc 27) : (execOp ev o).run Try.prog w = .ok (.value (.pointer (some ⟨w.heap.size, 0, none⟩))) (w.alloc (.cells (Ar.vals ⟨false, zM, zI, zM, zI⟩).toArray 27)) := by
  unfold execOp
  rw [ho]
  kernel_rfl
theorem exec_ixO {o : Oper} {w : World} {ev : Operand → Value} (x y : Operand) (g off n c k : Nat) (ho : o.op = .indexAddr 36 x y) (hx : ev x = .slice (some ⟨g, off, none⟩) n c) (hy : ev y = .int .i64 (k : Int)) (hk : k < n) : (execOp ev o).run Try.prog w = .ok (.value (.pointer (some ⟨g, off + k * 25, none⟩))) w := by
  have hki : (k : Int) < n := by omega
  unfold execOp
  simp [ho, hx, hy, go_sem, hki]
theorem exec_addb {o : Oper} {w : World} {ev : Operand → Value} (x y : Operand) (t : TypeId) (a b : Int) (ho : o.op = .binOp .add 5 x y t) (hx : ev x = .int .u8 a) (hy : ev y = .int .u8 b) (h0 : 0 ≤ a + b) (h1 : a + b ≤ 255) : (execOp ev o).run Try.prog w = .ok (.value (.int .u8 (a + b))) w := by
  have hw : IntKind.u8.wrap (a + b) = a + b := by simp [IntKind.wrap, IntKind.bits, IntKind.signed]; omega
  unfold execOp
  simp [ho, hx, hy, go_sem, hw]
theorem exec_ar5 {o : Oper} {w : World} {ev : Operand → Value} (u x y p z : Operand) (b : Bool) (m0 m1 m2 m3 m4 m5 i0 i1 i2 i3 n0 n1 n2 n3 n4 n5 j0 j1 j2 j3 : Int) (ho : o.op = .build 27 #[(0, u), (1, x), (2, y), (3, p), (4, z)]) (hu : ev u = .bool b) (hx : ev x = .agg #[.int .u8 m0, .int .u8 m1, .int .u8 m2, .int .u8 m3, .int .u8 m4, .int .u8 m5]) (hy : ev y = .agg #[.int .u8 i0, .int .u8 i1, .int .u8 i2, .int .u8 i3]) (hp : ev p = .agg #[.int .u8 n0, .int .u8 n1, .int .u8 n2, .int .u8 n3, .int .u8 n4, .int .u8 n5]) (hz : ev z = .agg #[.int .u8 j0, .int .u8 j1, .int .u8 j2, .int .u8 j3]) :
    (execOp ev o).run Try.prog w = .ok (.value (.agg (Ar.vals ⟨b, ⟨m0, m1, m2, m3, m4, m5⟩, ⟨i0, i1, i2, i3⟩, ⟨n0, n1, n2, n3, n4, n5⟩, ⟨j0, j1, j2, j3⟩⟩).toArray)) w := by
  unfold execOp
  rw [ho]
  simp only [List.map_toArray, List.map_cons, List.map_nil, hu, hx, hy, hp, hz]
  kernel_rfl
theorem exec_gti {o : Oper} {w : World} {ev : Operand → Value} (x y : Operand) (t : TypeId) (a b : Int) (r : Bool) (ho : o.op = .binOp .gtr 3 x y t) (hx : ev x = .int .i64 a) (hy : ev y = .int .i64 b) (hr : decide (b < a) = r) : (execOp ev o).run Try.prog w = .ok (.value (.bool r)) w := by
  unfold execOp
  simp [ho, hx, hy, go_sem, hr]
theorem exec_ixN {o : Oper} {w : World} {ev : Operand → Value} (x y : Operand) (g n c : Nat) (k : Nat) (ho : o.op = .indexAddr 41 x y) (hx : ev x = .slice (some ⟨g, 0, none⟩) n c) (hy : ev y = .int .i64 (k : Int)) (hk : k < n) : (execOp ev o).run Try.prog w = .ok (.value (.pointer (some ⟨g, k * 15, none⟩))) w := by
  have hki : (k : Int) < n := by omega
  unfold execOp
  simp [ho, hx, hy, go_sem, hki]
theorem exec_ixS {o : Oper} {w : World} {ev : Operand → Value} (x y : Operand) (g : Nat) (k : Nat) (ho : o.op = .indexAddr 63 x y) (hx : ev x = .pointer (some ⟨g, 0, none⟩)) (hy : ev y = .int .i64 (k : Int)) (hk : k < 9) : (execOp ev o).run Try.prog w = .ok (.value (.pointer (some ⟨g, k * 6, none⟩))) w := by
  have hki : (k : Int) < 9 := by omega
  unfold execOp
  simp [ho, hx, hy, go_sem, hki]
theorem exec_len {o : Oper} {w : World} {ev : Operand → Value} (x : Operand) (t : TypeId) (a : Option Addr) (n c : Nat) (ht : Try.prog.underlying t = some (.slice (Try.prog.elem t))) (ho : o.op = .call { callee := .builtin .len, args := #[x], argTypes := #[t] }) (hx : ev x = .slice a n c) : (execOp ev o).run Try.prog w = .ok (.value (.int .i64 (n : Int))) w := by
  have e := run_len_slice (P := Try.prog) (w := w) t o.type a n c ht
  unfold execOp
  simp only [ho, resolve, invoke, builtin, Sem.run_bind, Sem.run_pure, Result.andThen_ok, List.map_toArray, List.map_cons, List.map_nil, hx, e]
  rfl
theorem exec_neM {o : Oper} {w : World} {ev : Operand → Value} (x y : Operand) (t : TypeId) (p : M6) (ho : o.op = .binOp .neq 23 x y t) (hx : ev x = .agg p.vals.toArray) (hy : ev y = .agg p.vals.toArray) : (execOp ev o).run Try.prog w = .ok (.value (.bool false)) w := by
  have EM := eq_mac
  unfold execOp
  simp [ho, hx, hy, go_sem, M6.vals, EM, eqM]
theorem exec_neI {o : Oper} {w : World} {ev : Operand → Value} (x y : Operand) (t : TypeId) (p : I4) (ho : o.op = .binOp .neq 25 x y t) (hx : ev x = .agg p.vals.toArray) (hy : ev y = .agg p.vals.toArray) : (execOp ev o).run Try.prog w = .ok (.value (.bool false)) w := by
  have EM := eq_ip
  unfold execOp
  simp [ho, hx, hy, go_sem, I4.vals, EM, eqI]
/-- a variable of the law's own: a request -/
structure AV (n sd : Nat) (ρ : Nat → Role) (a : Ar) (s8 : Nat) (W : World) : Prop where
  ge : n ≤ s8
  ne : s8 ≠ sd
  lt : s8 < W.heap.size
  r : ρ s8 = (0, 0, 0)
  c : CellsAt W s8 0 a.vals
  f : ∀ y, W.frozen? ⟨s8, y, none⟩ = false
theorem AV.later {n sd : Nat} {ρ : Nat → Role} {a : Ar} {s8 : Nat} {W W' : World} (h : AV n sd ρ a s8 W) (hb : Below W.heap.size W W') : AV n sd ρ a s8 W' := ⟨h.ge, h.ne, by have := h.lt; have := hb.size; omega, h.r, h.c.later h.lt hb, fun y => (hb.frozen (p := ⟨s8, y, none⟩) h.lt).trans (h.f y)⟩
/-- a request is laid into a block of one's own -/
theorem Lq.lay {n : Nat} {w0 W0 W : World} {c sd : Nat} {L : List Nb} {SD : Nat → M6} {ρ : Nat → Role} (h : Lq n w0 c sd L SD ρ W0) (b : Below W0.heap.size W0 W) {s8 : Nat} (hs : W0.heap.size ≤ s8) (hl : s8 < W.heap.size) {z : Ar} (cz : CellsAt W s8 0 z.vals) (fz : ∀ y, W.frozen? ⟨s8, y, none⟩ = false) (a : Ar) : AV n sd ρ a s8 (W.setCells s8 0 a.vals) ∧ Lq n w0 c sd L SD ρ (W.setCells s8 0 a.vals) := by
  have hr : ρ s8 = (0, 0, 0) := h.fit s8 hs
  have bo := But.cells s8 a.vals 0 W
  have hne : s8 ≠ sd := by have := h.ls; omega
  have hn : n ≤ s8 := by have := h.sz; omega
  exact ⟨⟨hn, hne, Nat.lt_of_lt_of_le hl bo.size, hr, cz.stored rfl, fun y => by rw [World.frozen?_setCells]; exact fz y⟩, (h.later b).off bo hn hr hne⟩
/-- the law's cache hears what is said -/
theorem Lq.heard {n : Nat} {w0 W : World} {c sd s8 q : Nat} {L : List Nb} {SD : Nat → M6} {ρ : Nat → Role} {a : Ar} {now0 now : Int} (h : Lq n w0 c sd L SD ρ W) (v : AV n sd ρ a s8 W) (hI : LnI now0 L SD) (hl : now0 ≤ now) (h0 : 0 ≤ now) (hq : q < 7) (ha : a.si = lip q) (hda : a.di = hostI) :
    Calls Try.prog 20 #[.pointer (some ⟨c, 0, none⟩), a.val, .int .i64 now] W fun e w' => ∃ ρ' aa ac ga gc M, e = .returned (.tuple #[.slice aa (if a.ans then 0 else 1) ac, .slice ga 0 gc, M6.val M]) ∧ Lq n w0 c sd (hd hostI a now L).L SD ρ' w' ∧ AV n sd ρ' a s8 w' ∧ (a.ans = false → ∃ g, aa = some ⟨g, 0, none⟩ ∧ g ≠ sd ∧ g ≠ s8 ∧ g < w'.heap.size ∧ CellsAt w' g 0 (Ar.vals ⟨true, hostM, hostI, a.sm, a.si⟩)) := by
  obtain ⟨e1, e2, _, _⟩ := hI.hears hl h0 hq a ha hda
  refine (Heard_any h.ca h.fit now (hI.ok.later hl) a).mono ?_
  rintro _ w' ⟨ρ', av, gv, rfl, hc, hF, hM, hg, hr⟩
  obtain ⟨ga, gc, rfl⟩ := hg.shape
  obtain ⟨aa, ac, rfl⟩ := hr.shape
  have el : (if (hd hostI a now L).ans then 1 else 0) = (if a.ans then 0 else 1) := by rw [e1]; cases a.ans <;> rfl
  have eg : (hd hostI a now L).may.length = 0 := by rw [e2]; rfl
  have nf : ∀ x, x < W.heap.size → ρ x = (0, 0, 0) → ¬ Free ρ ρ' 1 W x := fun x hx hr hf => by
    rcases hf.2 with h1 | h1
    · omega
    · rw [hr] at h1; simp at h1
  have ns : ¬ (ρ s8).1 = 1 := by rw [v.r]; simp
  refine ⟨ρ', aa, ac, ga, gc, (hd hostI a now L).mac, by rw [← el, eg], h.step hc hF hM, ⟨v.ge, v.ne, Nat.lt_of_lt_of_le v.lt hM.but.size, by rw [hM.keep s8 v.lt (by rw [v.r]; simp)]; exact v.r, v.c.but v.lt hM.but ns, fun y => (hM.but.frozen (p := ⟨s8, y, none⟩) v.lt ns).trans (v.f y)⟩, fun hf => ?_⟩
  rw [el, hf] at hr
  obtain ⟨g, rfl, hgl, ho, _, hcl⟩ := hr.at (by simp)
  refine ⟨g, rfl, fun e => nf sd h.ls h.rs (e ▸ ho), fun e => nf s8 v.lt v.r (e ▸ ho), hgl, ?_⟩
  have h0 := hcl 0 (by simp)
  rw [Nat.zero_mul] at h0
  exact h0

/-- the law's cache is asked for one who has just been heard -/
theorem Lq.find {n : Nat} {w0 W : World} {c sd s8 q : Nat} {L : List Nb} {SD : Nat → M6} {ρ : Nat → Role} {a : Ar} {now : Int} (h : Lq n w0 c sd L SD ρ W) (v : AV n sd ρ a s8 W) (hok : LOk now L) (hn1 : now ≤ 4611686018427387904) (hf : fd (lip q) 5 now L = ⟨a.sm, [], false, 0, L⟩) :
    Calls Try.prog 19 #[.pointer (some ⟨c, 0, none⟩), (lip q).val, .int .i64 5, .int .i64 now] W fun e w' => ∃ ρ' ga gc aa ac, e = .returned (.tuple #[M6.val a.sm, .slice ga 0 gc, .slice aa 0 ac, .int .i64 0]) ∧ Lq n w0 c sd L SD ρ' w' ∧ AV n sd ρ' a s8 w' := by
  refine (Find_any h.ca h.fit now 5 hok hn1 (lip q)).mono ?_
  rw [hf]
  rintro _ w' ⟨ρ', gv, av, rfl, hc, hF, hM, hg, hr⟩
  obtain ⟨ga, gc, rfl⟩ := hg.shape
  obtain ⟨aa, ac, rfl⟩ := hr.shape
  have ns : ¬ (ρ s8).1 = 1 := by rw [v.r]; simp
  exact ⟨ρ', ga, gc, aa, ac, rfl, h.step hc hF hM, ⟨v.ge, v.ne, Nat.lt_of_lt_of_le v.lt hM.but.size, by rw [hM.keep s8 v.lt (by rw [v.r]; simp)]; exact v.r, v.c.but v.lt hM.but ns, fun y => (hM.but.frozen (p := ⟨s8, y, none⟩) v.lt ns).trans (v.f y)⟩⟩

set_option maxRecDepth 100000 in
set_option maxHeartbeats 8000000 in
theorem Learns_walk (v : Value) (l : List Op8) (w : World) (hv : IsO w.heap.size w v l) (hl : l.length ≤ 4398046510976) : Calls Try.prog 6 #[v] w fun e w' => e = .returned (.bool true) ∧ Below w.heap.size w w' := by
  obtain ⟨oa, oc, rfl, hoc, hok⟩ := hv
  obtain ⟨n, hn⟩ : ∃ n, n = w.heap.size := ⟨_, rfl⟩
  rw [← hn] at hoc ⊢
  have HOC := hide hoc
  have HOK := hide hok
  have HN := hide hn
  have zl : (l.length : Int) ≤ 4398046510976 := by omega
  clear hoc hok hn
  go_enter Try.func6, Try.ntmps6
  go_wp2_with fail
  refine (awake_any w).mono ?_
  rintro _ w2 ⟨rfl, b2⟩
  have B2 : Hid (Below n w w2) := b2.mono (by have := HN.out; omega)
  have Z2 : Hid (n ≤ w2.heap.size) := by have := b2.size; have := HN.out; unfold Hid; omega
  clear b2
  go_wp2_with fail
  refine (ip_any 1 _).mono ?_
  rintro _ w3 ⟨rfl, b3⟩
  have B3 : Hid (Below n w w3) := B2.out.trans (b3.mono Z2.out)
  have Z3 : Hid (n ≤ w3.heap.size) := by have := b3.size; have := Z2.out; unfold Hid; omega
  have NW := hide (new_host (n := n) Z3.out)
  simp only [hostM, hostI, M6.val, I4.val] at NW
  simp only [I4.val]
  clear b3
  go_wp2_with fail
  refine NW.out.mono ?_
  rintro _ w4 ⟨c, ρ, rfl, hc, hF, hC, hb4, hcl, _⟩
  obtain ⟨sd, hsd⟩ : ∃ sd, sd = w4.heap.size := ⟨_, rfl⟩
  obtain ⟨w5, hw5⟩ : ∃ w5, w5 = w4.alloc (.cells #[.int .u8 0, .int .u8 0, .int .u8 0, .int .u8 0, .int .u8 0, .int .u8 0, .int .u8 0, .int .u8 0, .int .u8 0, .int .u8 0, .int .u8 0, .int .u8 0, .int .u8 0, .int .u8 0, .int .u8 0, .int .u8 0, .int .u8 0, .int .u8 0, .int .u8 0, .int .u8 0, .int .u8 0, .int .u8 0, .int .u8 0, .int .u8 0, .int .u8 0, .int .u8 0, .int .u8 0, .int .u8 0, .int .u8 0, .int .u8 0, .int .u8 0, .int .u8 0, .int .u8 0, .int .u8 0, .int .u8 0, .int .u8 0, .int .u8 0, .int .u8 0, .int .u8 0, .int .u8 0, .int .u8 0, .int .u8 0, .int .u8 0, .int .u8 0, .int .u8 0, .int .u8 0, .int .u8 0, .int .u8 0, .int .u8 0, .int .u8 0, .int .u8 0, .int .u8 0, .int .u8 0, .int .u8 0] 63) := ⟨_, rfl⟩
  have b5 : Below w4.heap.size w4 w5 := by rw [hw5]; exact (Below.refl _ _).alloc (Nat.le_refl _) _
  have c5 : CellsAt w5 sd 0 (List.replicate 54 (.int .u8 0)) := by rw [hw5, hsd]; exact CellsAt.new w4 (List.replicate 54 (.int .u8 0)) 63
  have f5 : ∀ y, w5.frozen? ⟨sd, y, none⟩ = false := fun y => by rw [hw5, hsd]; exact frozen_new w4 _ _ _
  have z4 : n ≤ w4.heap.size := by have := hb4.size; have := Z3.out; omega
  have z5 := b5.size
  have L5 : Hid (Lq n w c sd [] (fun _ => zM) ρ w5) := by
    refine ⟨Ca.later hc b5, hF.below b5.size, hC, (B3.out.trans (hb4.mono Z3.out)).trans (b5.mono z4), by omega, by rw [hsd]; exact hF _ (Nat.le_refl _), by rw [hw5, hsd]; simp, fun q hq j u hu => ?_, f5⟩
    have hj : j < 6 := by have := (List.getElem?_eq_some_iff.1 hu).1; simpa [M6.vals] using this
    have e : u = .int .u8 0 := by
      have h6 : j = 0 ∨ j = 1 ∨ j = 2 ∨ j = 3 ∨ j = 4 ∨ j = 5 := by omega
      rcases h6 with rfl | rfl | rfl | rfl | rfl | rfl <;> (cases hu; rfl)
    have := c5 (q * 6 + j) (.int .u8 0) (by rw [List.getElem?_replicate, if_pos (by omega)])
    rw [Nat.zero_add] at this
    rw [e]; exact this
  have NS : Hid (n ≤ sd) := by unfold Hid; omega
  have hw5' := hw5.symm
  have hsd' := hsd.symm
  clear hw5 hsd hc hF hC hb4 hcl NW B2 B3 Z2 Z3 b5 c5 f5 z4 z5
  go_wp2
  clear hw5' hsd'
  go_loopw [6] (fun v6 wr => ∃ (i : Nat) (ρ : Nat → Role) (L : List Nb) (SD : Nat → M6), v6 = .int .i64 (i : Int) ∧ i ≤ l.length ∧ Hid (Lq n w c sd L SD ρ wr) ∧ Hid (LnI (i : Int) L SD)) (fun v6 _ => l.length - (intOf v6).toNat)
  case atStart => exact ⟨0, ρ, [], _, rfl, by omega, L5.out, ⟨LOk.nil _, fun x hx => by cases hx⟩⟩
  case round =>
    obtain ⟨i, ρ1, L, SD, rfl, hi, HL, HI⟩ := hrel
    by_cases hlt : i < l.length
    · have zi : (i : Int) < (l.length : Int) := by omega
      obtain ⟨o, ho⟩ : ∃ o, l[i]? = some o := ⟨_, List.getElem?_eq_getElem hlt⟩
      obtain ⟨og, off, rfl, hog, hcs⟩ := HOC.out (by omega)
      have hoo := HOK.out o (List.mem_of_getElem? ho)
      have co : Hid (∀ W, Below n w W → CellsAt W og (off + i * 25) o.cells) := fun W hb => (hcs i o ho).later (by have := HN.out; omega) (hb.mono (by have := HN.out; omega))
      have x1 : wr.cell? ⟨og, off + i * 25 + 1, none⟩ = some (.int .u8 o.ip) := co.out _ HL.out.bel 1 _ rfl
      have b8 := hoo.ip
      obtain ⟨nn, hnn⟩ : ∃ nn : Nat, o.ip % 7 = (nn : Int) ∧ nn < 7 := ⟨(o.ip % 7).toNat, by have := b8.1; omega, by have := b8.1; omega⟩
      have HNN := hide hnn
      have HOO := hide hoo
      clear hoo hcs ho hnn
      have etm : o.ip.tmod 7 = (nn : Int) := by rw [Int.tmod_eq_emod_of_nonneg b8.1]; exact HNN.out.1
      go_wp2_with fail
      clear etm x1
      obtain ⟨a, ha⟩ : ∃ a : Ar, a = ⟨o.a.ans, o.a.sm, lip nn, ⟨2, 0, 0, 0, 0, 0⟩, hostI⟩ := ⟨_, rfl⟩
      have HA := hide ha
      have n7 := HNN.out.2
      clear ha
      go_cut [8] from 29 to 157 (fun v8 wx => ∃ s8 : Nat, v8 = .pointer (some ⟨s8, 0, none⟩) ∧ Hid (AV n sd ρ1 a s8 wx) ∧ Hid (Lq n w c sd L SD ρ1 wx))
      case first =>
        have parts : ∀ W, Below n w W → W.cell? ⟨og, off + i * 25 + 3, none⟩ = some (.bool o.a.ans) ∧ CellsAt W og (off + i * 25 + 4) o.a.sm.vals := fun W hb => by
          have h1 := co.out W hb
          refine ⟨h1 3 _ rfl, ?_⟩
          have e : o.cells = [.int .i64 o.kind, .int .u8 o.ip, .int .i64 o.buf, .bool o.a.ans] ++ (o.a.sm.vals ++ (o.a.si.vals ++ (o.a.dm.vals ++ o.a.di.vals) ++ [.int .i64 o.wait])) := rfl
          rw [e] at h1
          exact (CellsAt.append.1 (CellsAt.append.1 h1).2).1
        have L0 := HL.out.later ((Below.refl _ wr).drew)
        have S0 := parts _ L0.bel
        refine region_out (fun W => W.cell? ⟨og, off + i * 25 + 3, none⟩ = some (.bool o.a.ans) ∧ CellsAt W og (off + i * 25 + 4) o.a.sm.vals) (by kernel_rfl) ?_
        refine takeD (i := 0) (v := .slice (some ⟨og, off, none⟩) l.length oc) 41 rfl rfl (by kernel_rfl) (by kernel_rfl) (by kernel_rfl) (fun _ _ _ h => h) (.inl ⟨by rfl, fun W hW => exec_move _ _ rfl rfl⟩) (S0) ?_
        try simp only [Act.put, List.setIfInBounds_toArray, List.set_cons_zero, List.set_cons_succ]
        refine takeD (i := 1) (v := .int .i64 (i : Int)) 42 rfl rfl (by kernel_rfl) (by kernel_rfl) (by kernel_rfl) (fun _ _ _ h => h) (.inl ⟨by rfl, fun W hW => exec_move _ _ rfl rfl⟩) (S0) ?_
        try simp only [Act.put, List.setIfInBounds_toArray, List.set_cons_zero, List.set_cons_succ]
        refine takeD (i := 2) (v := .pointer (some ⟨og, off + i * 25, none⟩)) 43 rfl rfl (by kernel_rfl) (by kernel_rfl) (by kernel_rfl) (fun _ _ _ h => h) (.inl ⟨by rfl, fun W hW => exec_ixO _ _ og off l.length oc i rfl rfl rfl hlt⟩) (S0) ?_
        try simp only [Act.put, List.setIfInBounds_toArray, List.set_cons_zero, List.set_cons_succ]
        refine takeD (i := 3) (v := .pointer (some ⟨og, off + i * 25 + 3, none⟩)) 44 rfl rfl (by kernel_rfl) (by kernel_rfl) (by kernel_rfl) (fun _ _ _ h => h) (.inl ⟨by rfl, fun W hW => exec_fieldO 46 _ 3 og (off + i * 25) (off + i * 25 + 3) rfl rfl (fun w => by kernel_rfl)⟩) (S0) ?_
        try simp only [Act.put, List.setIfInBounds_toArray, List.set_cons_zero, List.set_cons_succ]
        refine takeD (i := 4) (v := .pointer (some ⟨og, off + i * 25 + 3, none⟩)) 45 rfl rfl (by kernel_rfl) (by kernel_rfl) (by kernel_rfl) (fun _ _ _ h => h) (.inl ⟨by rfl, fun W hW => exec_fieldO 27 _ 0 og (off + i * 25 + 3) (off + i * 25 + 3) rfl rfl (fun w => by kernel_rfl)⟩) (S0) ?_
        try simp only [Act.put, List.setIfInBounds_toArray, List.set_cons_zero, List.set_cons_succ]
        refine takeD (i := 5) (v := .bool o.a.ans) 46 rfl rfl (by kernel_rfl) (by kernel_rfl) (by kernel_rfl) (fun _ _ _ h => h) (.inl ⟨by rfl, fun W hW => exec_load1 4 oneB _ rfl og (off + i * 25 + 3) rfl (.bool o.a.ans) (hW.1)⟩) (S0) ?_
        try simp only [Act.put, List.setIfInBounds_toArray, List.set_cons_zero, List.set_cons_succ]
        refine takeD (i := 6) (v := .slice (some ⟨og, off, none⟩) l.length oc) 47 rfl rfl (by kernel_rfl) (by kernel_rfl) (by kernel_rfl) (fun _ _ _ h => h) (.inl ⟨by rfl, fun W hW => exec_move _ _ rfl rfl⟩) (S0) ?_
        try simp only [Act.put, List.setIfInBounds_toArray, List.set_cons_zero, List.set_cons_succ]
        refine takeD (i := 7) (v := .int .i64 (i : Int)) 48 rfl rfl (by kernel_rfl) (by kernel_rfl) (by kernel_rfl) (fun _ _ _ h => h) (.inl ⟨by rfl, fun W hW => exec_move _ _ rfl rfl⟩) (S0) ?_
        try simp only [Act.put, List.setIfInBounds_toArray, List.set_cons_zero, List.set_cons_succ]
        refine takeD (i := 8) (v := .pointer (some ⟨og, off + i * 25, none⟩)) 49 rfl rfl (by kernel_rfl) (by kernel_rfl) (by kernel_rfl) (fun _ _ _ h => h) (.inl ⟨by rfl, fun W hW => exec_ixO _ _ og off l.length oc i rfl rfl rfl hlt⟩) (S0) ?_
        try simp only [Act.put, List.setIfInBounds_toArray, List.set_cons_zero, List.set_cons_succ]
        refine takeD (i := 9) (v := .pointer (some ⟨og, off + i * 25 + 3, none⟩)) 50 rfl rfl (by kernel_rfl) (by kernel_rfl) (by kernel_rfl) (fun _ _ _ h => h) (.inl ⟨by rfl, fun W hW => exec_fieldO 46 _ 3 og (off + i * 25) (off + i * 25 + 3) rfl rfl (fun w => by kernel_rfl)⟩) (S0) ?_
        try simp only [Act.put, List.setIfInBounds_toArray, List.set_cons_zero, List.set_cons_succ]
        refine takeD (i := 10) (v := .pointer (some ⟨og, off + i * 25 + 3 + 1, none⟩)) 51 rfl rfl (by kernel_rfl) (by kernel_rfl) (by kernel_rfl) (fun _ _ _ h => h) (.inl ⟨by rfl, fun W hW => exec_fieldO 27 _ 1 og (off + i * 25 + 3) (off + i * 25 + 3 + 1) rfl rfl (fun w => by kernel_rfl)⟩) (S0) ?_
        try simp only [Act.put, List.setIfInBounds_toArray, List.set_cons_zero, List.set_cons_succ]
        refine takeD (i := 11) (v := .agg (o.a.sm.vals).toArray) 52 rfl rfl (by kernel_rfl) (by kernel_rfl) (by kernel_rfl) (fun _ _ _ h => h) (.inl ⟨by rfl, fun W hW => exec_loadA 23 6 aggM sizM _ rfl og (off + i * 25 + 3 + 1) rfl (o.a.sm.vals) rfl (hW.2)⟩) (S0) ?_
        try simp only [Act.put, List.setIfInBounds_toArray, List.set_cons_zero, List.set_cons_succ]
        refine takeD (i := 12) (v := .int .u8 (nn : Int)) 53 rfl rfl (by kernel_rfl) (by kernel_rfl) (by kernel_rfl) (fun _ _ _ h => h) (.inl ⟨by rfl, fun W hW => exec_move _ _ rfl rfl⟩) (S0) ?_
        try simp only [Act.put, List.setIfInBounds_toArray, List.set_cons_zero, List.set_cons_succ]
        refine takeD (i := 13) (v := .int .u8 (2 + (nn : Int))) 54 rfl rfl (by kernel_rfl) (by kernel_rfl) (by kernel_rfl) (fun _ _ _ h => h) (.inl ⟨by rfl, fun W hW => exec_addb _ _ _ _ _ rfl rfl rfl (by omega) (by omega)⟩) (S0) ?_
        try simp only [Act.put, List.setIfInBounds_toArray, List.set_cons_zero, List.set_cons_succ]
        refine takeD (i := 15) (v := .agg (M6.vals ⟨2, 0, 0, 0, 0, 0⟩).toArray) 56 rfl rfl (by kernel_rfl) (by kernel_rfl) (by kernel_rfl) (fun _ _ _ h => h) (.inl ⟨by rfl, fun W hW => exec_m1 2 rfl (fun _ => rfl)⟩) (S0) ?_
        try simp only [Act.put, List.setIfInBounds_toArray, List.set_cons_zero, List.set_cons_succ]
        have CI : ∀ (k : Int) (W : World), Calls Try.prog 14 #[.int .u8 k] W fun e w2 => ∃ v, e = .returned v ∧ (v = I4.val ⟨10, 0, 0, k⟩ ∧ Below W.heap.size W w2) := fun k W => (ip_any k W).mono (by rintro _ w2 ⟨rfl, b⟩; exact ⟨_, rfl, rfl, b⟩)
        have hz0 : wr.drew.heap.size = wr.heap.size := rfl
        have bd : Below wr.heap.size wr wr.drew := (Below.refl _ wr).drew
        have SP : ∀ W, Below wr.heap.size wr W → W.cell? ⟨og, off + i * 25 + 3, none⟩ = some (.bool o.a.ans) ∧ CellsAt W og (off + i * 25 + 4) o.a.sm.vals := fun W hb => parts W (HL.out.later hb).bel
        have AL : ∀ W, Below wr.heap.size wr W → Below wr.heap.size wr (W.alloc (.cells (Ar.vals ⟨false, zM, zI, zM, zI⟩).toArray 27)) := fun W hb => hb.alloc hb.size _
        have LAY : ∀ W s8, Below wr.heap.size wr W → wr.heap.size ≤ s8 → s8 < W.heap.size → CellsAt W s8 0 (Ar.vals ⟨false, zM, zI, zM, zI⟩) → (∀ y, W.frozen? ⟨s8, y, none⟩ = false) → AV n sd ρ1 a s8 (W.setCells s8 0 (Ar.vals ⟨o.a.ans, o.a.sm, lip nn, ⟨2, 0, 0, 0, 0, 0⟩, hostI⟩)) ∧ Lq n w c sd L SD ρ1 (W.setCells s8 0 (Ar.vals ⟨o.a.ans, o.a.sm, lip nn, ⟨2, 0, 0, 0, 0, 0⟩, hostI⟩)) ∧ (W.setCells s8 0 (Ar.vals ⟨o.a.ans, o.a.sm, lip nn, ⟨2, 0, 0, 0, 0, 0⟩, hostI⟩)).cell? ⟨og, off + i * 25 + 3, none⟩ = some (.bool o.a.ans) ∧ CellsAt (W.setCells s8 0 (Ar.vals ⟨o.a.ans, o.a.sm, lip nn, ⟨2, 0, 0, 0, 0, 0⟩, hostI⟩)) og (off + i * 25 + 4) o.a.sm.vals := fun W s8 hb h1 h2 h3 h4 => by
          have h5 := HL.out.lay hb h1 h2 h3 h4 a
          rw [HA.out] at h5 ⊢
          exact ⟨h5.1, h5.2, parts _ h5.2.bel⟩
        refine wpAnyH_all (rs := [14, 18]) (by kernel_rfl) (by simp) (fun q' hq' => ?_)
        rcases List.mem_cons.1 hq' with rfl | hq'
        · skip
          refine opD_call (w' := wr.drew) 14 55 rfl rfl (by rfl) 14 #[.int .u8 (2 + (nn : Int))] (by kernel_rfl) _ (CI (2 + (nn : Int)) wr.drew) ?_
          rintro _ wa ⟨rfl, bwa⟩
          have Bwa : Below wr.heap.size wr wa := bd.trans (bwa.mono bd.size)
          have Swa := SP wa Bwa
          refine ⟨Swa, ?_⟩
          simp only [Act.put, List.setIfInBounds_toArray, List.set_cons_zero, List.set_cons_succ]
          refine wpAnyH_all (rs := [16, 18]) (by kernel_rfl) (by simp) (fun q' hq' => ?_)
          rcases List.mem_cons.1 hq' with rfl | hq'
          · skip
            refine opD_call (w' := wa) 16 57 rfl rfl (by rfl) 14 #[.int .u8 1] (by kernel_rfl) _ (CI 1 wa) ?_
            rintro _ wb ⟨rfl, bwb⟩
            have Bwb : Below wr.heap.size wr wb := Bwa.trans (bwb.mono Bwa.size)
            have Swb := SP wb Bwb
            refine ⟨Swb, ?_⟩
            simp only [Act.put, List.setIfInBounds_toArray, List.set_cons_zero, List.set_cons_succ]
            refine takeD (i := 17) (v := .agg (Ar.vals ⟨o.a.ans, o.a.sm, lip nn, ⟨2, 0, 0, 0, 0, 0⟩, hostI⟩).toArray) 58 rfl rfl (by kernel_rfl) (by kernel_rfl) (by kernel_rfl) (fun _ _ _ h => h) (.inl ⟨by rfl, fun W hW => exec_ar5 _ _ _ _ _ _ _ _ _ _ _ _ _ _ _ _ _ _ _ _ _ _ _ _ _ _ rfl rfl rfl rfl rfl rfl⟩) (Swb) ?_
            try simp only [Act.put, List.setIfInBounds_toArray, List.set_cons_zero, List.set_cons_succ]
            obtain ⟨s8, hs8⟩ : ∃ s8, s8 = wb.heap.size := ⟨_, rfl⟩
            obtain ⟨wz, hwz⟩ : ∃ wz, wz = wb.alloc (.cells (Ar.vals ⟨false, zM, zI, zM, zI⟩).toArray 27) := ⟨_, rfl⟩
            have Bwz : Below wr.heap.size wr wz := by rw [hwz]; exact AL wb Bwb
            have z1 : wr.heap.size ≤ s8 := by have := Bwb.size; omega
            have z2 : s8 < wz.heap.size := by rw [hwz, hs8]; simp
            have cz : CellsAt wz s8 0 (Ar.vals ⟨false, zM, zI, zM, zI⟩) := by rw [hwz, hs8]; exact CellsAt.new wb _ 27
            have fz : ∀ y, wz.frozen? ⟨s8, y, none⟩ = false := fun y => by rw [hwz, hs8]; exact frozen_new wb _ _ _
            have Swz := SP wz Bwz
            refine nextD (w' := wz) 18 8 (.pointer (some ⟨s8, 0, none⟩)) (by kernel_rfl) rfl rfl (by rfl) (by rw [hwz, hs8]; exact exec_allocA rfl) (Swz) ?_
            try simp only [Act.put, List.setIfInBounds_toArray, List.set_cons_zero, List.set_cons_succ]
            clear hwz hs8
            have FE := LAY wz s8 Bwz z1 z2 cz fz
            refine storeD (w' := wz.setCells s8 0 (Ar.vals ⟨o.a.ans, o.a.sm, lip nn, ⟨2, 0, 0, 0, 0, 0⟩, hostI⟩)) 19 (by kernel_rfl) rfl rfl (by rfl) (exec_storeA 27 21 sizA _ _ rfl s8 0 rfl _ (Ar.vals ⟨false, zM, zI, zM, zI⟩) rfl rfl rfl cz fz (ar_one _)) (FE.2.2) ?_
            try simp only [Act.put, List.setIfInBounds_toArray, List.set_cons_zero, List.set_cons_succ]
            refine wpAnyH_done (by kernel_rfl) ?_ _
            obtain ⟨wf, hwf⟩ : ∃ wf, wf = wz.setCells s8 0 (Ar.vals ⟨o.a.ans, o.a.sm, lip nn, ⟨2, 0, 0, 0, 0, 0⟩, hostI⟩) := ⟨_, rfl⟩
            rw [← hwf] at FE ⊢
            have FE1 := hide FE.1
            have FE2 := hide FE.2.1
            clear hwf FE
            go_wp2
            go_meet
            exact ⟨s8, rfl, FE1, FE2⟩
          · obtain rfl : q' = 18 := by simpa using hq'
            obtain ⟨s8, hs8⟩ : ∃ s8, s8 = wa.heap.size := ⟨_, rfl⟩
            obtain ⟨wz, hwz⟩ : ∃ wz, wz = wa.alloc (.cells (Ar.vals ⟨false, zM, zI, zM, zI⟩).toArray 27) := ⟨_, rfl⟩
            have Bwz : Below wr.heap.size wr wz := by rw [hwz]; exact AL wa Bwa
            have z1 : wr.heap.size ≤ s8 := by have := Bwa.size; omega
            have z2 : s8 < wz.heap.size := by rw [hwz, hs8]; simp
            have cz : CellsAt wz s8 0 (Ar.vals ⟨false, zM, zI, zM, zI⟩) := by rw [hwz, hs8]; exact CellsAt.new wa _ 27
            have fz : ∀ y, wz.frozen? ⟨s8, y, none⟩ = false := fun y => by rw [hwz, hs8]; exact frozen_new wa _ _ _
            have Swz := SP wz Bwz
            refine opD_val (w' := wz) 18 8 (.pointer (some ⟨s8, 0, none⟩)) rfl rfl (by rfl) (by rw [hwz, hs8]; exact exec_allocA rfl) ⟨Swz, ?_⟩
            simp only [Act.put, List.setIfInBounds_toArray, List.set_cons_zero, List.set_cons_succ]
            clear hwz hs8
            refine callD (w' := wz) 16 57 (by kernel_rfl) rfl rfl (by rfl) 14 #[.int .u8 1] (by kernel_rfl) _ (CI 1 wz) ?_
            rintro _ wb ⟨rfl, bwb⟩
            have Bwb : Below wr.heap.size wr wb := Bwz.trans (bwb.mono Bwz.size)
            have Swb := SP wb Bwb
            refine ⟨Swb, ?_⟩
            simp only [Act.put, List.setIfInBounds_toArray, List.set_cons_zero, List.set_cons_succ]
            have cz := cz.later z2 bwb
            have fz : ∀ y, wb.frozen? ⟨s8, y, none⟩ = false := fun y => (bwb.frozen (p := ⟨s8, y, none⟩) z2).trans (fz y)
            have z2 : s8 < wb.heap.size := Nat.lt_of_lt_of_le z2 bwb.size
            refine takeD (i := 17) (v := .agg (Ar.vals ⟨o.a.ans, o.a.sm, lip nn, ⟨2, 0, 0, 0, 0, 0⟩, hostI⟩).toArray) 58 rfl rfl (by kernel_rfl) (by kernel_rfl) (by kernel_rfl) (fun _ _ _ h => h) (.inl ⟨by rfl, fun W hW => exec_ar5 _ _ _ _ _ _ _ _ _ _ _ _ _ _ _ _ _ _ _ _ _ _ _ _ _ _ rfl rfl rfl rfl rfl rfl⟩) (Swb) ?_
            try simp only [Act.put, List.setIfInBounds_toArray, List.set_cons_zero, List.set_cons_succ]
            have FE := LAY wb s8 Bwb z1 z2 cz fz
            refine storeD (w' := wb.setCells s8 0 (Ar.vals ⟨o.a.ans, o.a.sm, lip nn, ⟨2, 0, 0, 0, 0, 0⟩, hostI⟩)) 19 (by kernel_rfl) rfl rfl (by rfl) (exec_storeA 27 21 sizA _ _ rfl s8 0 rfl _ (Ar.vals ⟨false, zM, zI, zM, zI⟩) rfl rfl rfl cz fz (ar_one _)) (FE.2.2) ?_
            try simp only [Act.put, List.setIfInBounds_toArray, List.set_cons_zero, List.set_cons_succ]
            refine wpAnyH_done (by kernel_rfl) ?_ _
            obtain ⟨wf, hwf⟩ : ∃ wf, wf = wb.setCells s8 0 (Ar.vals ⟨o.a.ans, o.a.sm, lip nn, ⟨2, 0, 0, 0, 0, 0⟩, hostI⟩) := ⟨_, rfl⟩
            rw [← hwf] at FE ⊢
            have FE1 := hide FE.1
            have FE2 := hide FE.2.1
            clear hwf FE
            go_wp2
            go_meet
            exact ⟨s8, rfl, FE1, FE2⟩
        · obtain rfl : q' = 18 := by simpa using hq'
          obtain ⟨s8, hs8⟩ : ∃ s8, s8 = wr.drew.heap.size := ⟨_, rfl⟩
          obtain ⟨wz, hwz⟩ : ∃ wz, wz = wr.drew.alloc (.cells (Ar.vals ⟨false, zM, zI, zM, zI⟩).toArray 27) := ⟨_, rfl⟩
          have Bwz : Below wr.heap.size wr wz := by rw [hwz]; exact AL wr.drew bd
          have z1 : wr.heap.size ≤ s8 := by have := bd.size; omega
          have z2 : s8 < wz.heap.size := by rw [hwz, hs8]; simp
          have cz : CellsAt wz s8 0 (Ar.vals ⟨false, zM, zI, zM, zI⟩) := by rw [hwz, hs8]; exact CellsAt.new wr.drew _ 27
          have fz : ∀ y, wz.frozen? ⟨s8, y, none⟩ = false := fun y => by rw [hwz, hs8]; exact frozen_new wr.drew _ _ _
          have Swz := SP wz Bwz
          refine opD_val (w' := wz) 18 8 (.pointer (some ⟨s8, 0, none⟩)) rfl rfl (by rfl) (by rw [hwz, hs8]; exact exec_allocA rfl) ⟨Swz, ?_⟩
          simp only [Act.put, List.setIfInBounds_toArray, List.set_cons_zero, List.set_cons_succ]
          clear hwz hs8
          refine callD (w' := wz) 14 55 (by kernel_rfl) rfl rfl (by rfl) 14 #[.int .u8 (2 + (nn : Int))] (by kernel_rfl) _ (CI (2 + (nn : Int)) wz) ?_
          rintro _ wa ⟨rfl, bwa⟩
          have Bwa : Below wr.heap.size wr wa := Bwz.trans (bwa.mono Bwz.size)
          have Swa := SP wa Bwa
          refine ⟨Swa, ?_⟩
          simp only [Act.put, List.setIfInBounds_toArray, List.set_cons_zero, List.set_cons_succ]
          have cz := cz.later z2 bwa
          have fz : ∀ y, wa.frozen? ⟨s8, y, none⟩ = false := fun y => (bwa.frozen (p := ⟨s8, y, none⟩) z2).trans (fz y)
          have z2 : s8 < wa.heap.size := Nat.lt_of_lt_of_le z2 bwa.size
          refine callD (w' := wa) 16 57 (by kernel_rfl) rfl rfl (by rfl) 14 #[.int .u8 1] (by kernel_rfl) _ (CI 1 wa) ?_
          rintro _ wb ⟨rfl, bwb⟩
          have Bwb : Below wr.heap.size wr wb := Bwa.trans (bwb.mono Bwa.size)
          have Swb := SP wb Bwb
          refine ⟨Swb, ?_⟩
          simp only [Act.put, List.setIfInBounds_toArray, List.set_cons_zero, List.set_cons_succ]
          have cz := cz.later z2 bwb
          have fz : ∀ y, wb.frozen? ⟨s8, y, none⟩ = false := fun y => (bwb.frozen (p := ⟨s8, y, none⟩) z2).trans (fz y)
          have z2 : s8 < wb.heap.size := Nat.lt_of_lt_of_le z2 bwb.size
          refine takeD (i := 17) (v := .agg (Ar.vals ⟨o.a.ans, o.a.sm, lip nn, ⟨2, 0, 0, 0, 0, 0⟩, hostI⟩).toArray) 58 rfl rfl (by kernel_rfl) (by kernel_rfl) (by kernel_rfl) (fun _ _ _ h => h) (.inl ⟨by rfl, fun W hW => exec_ar5 _ _ _ _ _ _ _ _ _ _ _ _ _ _ _ _ _ _ _ _ _ _ _ _ _ _ rfl rfl rfl rfl rfl rfl⟩) (Swb) ?_
          try simp only [Act.put, List.setIfInBounds_toArray, List.set_cons_zero, List.set_cons_succ]
          have FE := LAY wb s8 Bwb z1 z2 cz fz
          refine storeD (w' := wb.setCells s8 0 (Ar.vals ⟨o.a.ans, o.a.sm, lip nn, ⟨2, 0, 0, 0, 0, 0⟩, hostI⟩)) 19 (by kernel_rfl) rfl rfl (by rfl) (exec_storeA 27 21 sizA _ _ rfl s8 0 rfl _ (Ar.vals ⟨false, zM, zI, zM, zI⟩) rfl rfl rfl cz fz (ar_one _)) (FE.2.2) ?_
          try simp only [Act.put, List.setIfInBounds_toArray, List.set_cons_zero, List.set_cons_succ]
          refine wpAnyH_done (by kernel_rfl) ?_ _
          obtain ⟨wf, hwf⟩ : ∃ wf, wf = wb.setCells s8 0 (Ar.vals ⟨o.a.ans, o.a.sm, lip nn, ⟨2, 0, 0, 0, 0, 0⟩, hostI⟩) := ⟨_, rfl⟩
          rw [← hwf] at FE ⊢
          have FE1 := hide FE.1
          have FE2 := hide FE.2.1
          clear hwf FE
          go_wp2
          go_meet
          exact ⟨s8, rfl, FE1, FE2⟩
      case rest =>
        obtain ⟨s8, rfl, HAV, HLc⟩ := hcut
        have HE := hide (HLc.out.heard HAV.out HI.out (Int.le_refl _) (by omega) n7 (by rw [HA.out]) (by rw [HA.out]))
        go_wp2_with (refine wpList_loadA rfl 27 21 aggA sizA _ rfl s8 0 rfl a.vals rfl HAV.out.c ?_)
        refine HE.out.mono ?_
        rintro _ w6 ⟨ρ2, aa, ac, ga, gc, M, rfl, hL6, hA6, hR6⟩
        obtain ⟨nl, hnl⟩ : ∃ nl : Nat, nl = if a.ans = true then 0 else 1 := ⟨_, rfl⟩
        rw [← hnl]
        obtain ⟨s11, hs11⟩ : ∃ s11, s11 = w6.heap.size := ⟨_, rfl⟩
        obtain ⟨w7, hw7⟩ : ∃ w7, w7 = w6.alloc (.cells #[.int .u8 0, .int .u8 0, .int .u8 0, .int .u8 0, .int .u8 0, .int .u8 0] 23) := ⟨_, rfl⟩
        have b7 : Below w6.heap.size w6 w7 := by rw [hw7]; exact (Below.refl _ _).alloc (Nat.le_refl _) _
        have C7 : Hid (CellsAt w7 s11 0 zM.vals) := by rw [hw7, hs11]; exact CellsAt.new w6 zM.vals 23
        have F7 : Hid (∀ y, w7.frozen? ⟨s11, y, none⟩ = false) := fun y => by rw [hw7, hs11]; exact frozen_new w6 _ _ _
        obtain ⟨w8, hw8⟩ : ∃ w8, w8 = w7.setCells s11 0 M.vals := ⟨_, rfl⟩
        have bo := But.cells s11 M.vals 0 w7
        rw [← hw8] at bo
        have r11 : ρ2 s11 = (0, 0, 0) := by rw [hs11]; exact hL6.fit _ (Nat.le_refl _)
        have d11 : s11 ≠ sd := by have := hL6.ls; omega
        have e11 : s11 ≠ s8 := by have := hA6.lt; omega
        have n11 : n ≤ s11 := by have := hL6.sz; omega
        have L8 : Hid (Lq n w c sd (hd hostI a i L).L SD ρ2 w8) := (hL6.later b7).off bo n11 r11 d11
        have A7 := hA6.later b7
        have A8 : Hid (AV n sd ρ2 a s8 w8) := ⟨A7.ge, A7.ne, Nat.lt_of_lt_of_le A7.lt bo.size, A7.r, A7.c.but A7.lt bo (fun e => e11 (by have e : s8 = s11 := e; omega)), fun y => (bo.frozen (p := ⟨s8, y, none⟩) A7.lt (fun e => e11 (by have e : s8 = s11 := e; omega))).trans (A7.f y)⟩
        have R8 : Hid (a.ans = false → ∃ g, aa = some ⟨g, 0, none⟩ ∧ g ≠ sd ∧ g < w8.heap.size ∧ CellsAt w8 g 0 (Ar.vals ⟨true, hostM, hostI, a.sm, a.si⟩)) := fun hf => by
          obtain ⟨g, h1, h2, h3, h4, h5⟩ := hR6 hf
          have h6 : g < w7.heap.size := Nat.lt_of_lt_of_le h4 b7.size
          exact ⟨g, h1, h2, Nat.lt_of_lt_of_le h6 bo.size, (h5.later h4 b7).but h6 bo (fun e => by have e : g = s11 := e; omega)⟩
        have hw7' := hw7.symm
        have hs11' := hs11.symm
        have hw8' := hw8.symm
        have HNL := hide hnl
        clear hw7 hs11 hw8 hL6 hA6 hR6 A7 bo r11 d11 e11 n11 b7 HE HAV HLc hnl
        simp only [M6.val]
        have CS : Hid (CellsAt w8 s8 1 a.sm.vals) := by
          have h1 := A8.out.c
          have e : a.vals = [.bool a.ans] ++ (a.sm.vals ++ (a.si.vals ++ (a.dm.vals ++ a.di.vals))) := by simp [Ar.vals]
          rw [e] at h1
          have h2 := (CellsAt.append.1 (CellsAt.append.1 h1).2).1
          exact h2
        have C8 : Hid (CellsAt w8 sd (nn * 6) (SD nn).vals) := L8.out.cs nn (by omega)
        have F8 : Hid (∀ y, w8.frozen? ⟨sd, y, none⟩ = false) := L8.out.fs
        have L9 : Hid (Lq n w c sd (hd hostI a i L).L (fun q => if q = nn then a.sm else SD q) ρ2 (w8.setCells sd (nn * 6) a.sm.vals)) := L8.out.say NS.out (by omega) a.sm
        obtain ⟨w9, hw9⟩ : ∃ w9, w9 = w8.setCells sd (nn * 6) a.sm.vals := ⟨_, rfl⟩
        have b9 := But.cells sd a.sm.vals (nn * 6) w8
        rw [← hw9] at L9 b9
        have A9 : Hid (AV n sd ρ2 a s8 w9) := by
          have A7 := A8.out
          have ns : ¬ Only sd s8 := fun e => A7.ne e
          exact ⟨A7.ge, A7.ne, Nat.lt_of_lt_of_le A7.lt b9.size, A7.r, A7.c.but A7.lt b9 ns, fun y => (b9.frozen (p := ⟨s8, y, none⟩) A7.lt ns).trans (A7.f y)⟩
        have R9 : Hid (a.ans = false → ∃ g, aa = some ⟨g, 0, none⟩ ∧ g < w9.heap.size ∧ CellsAt w9 g 0 (Ar.vals ⟨true, hostM, hostI, a.sm, a.si⟩)) := fun hf => by
          obtain ⟨g, h1, h2, h4, h5⟩ := R8.out hf
          exact ⟨g, h1, Nat.lt_of_lt_of_le h4 b9.size, h5.but h4 b9 h2⟩
        have hw9' := hw9.symm
        clear hw9 b9
        go_wp2_with (first | refine wpList_storeA rfl 23 6 sizM _ _ rfl s11 0 rfl M.vals zM.vals rfl rfl rfl C7.out F7.out (m6_one M) (fun _ => ?_) | refine wpList_loadA rfl 23 6 aggM sizM _ rfl s8 1 rfl a.sm.vals rfl CS.out ?_ | refine wpList_storeA rfl 23 6 sizM _ _ rfl sd (nn * 6) rfl a.sm.vals (SD nn).vals rfl rfl rfl C8.out F8.out (m6_one a.sm) (fun _ => ?_))
        simp only [Act.put]
        rw [hw9']
        clear C7 F7 hw7' hs11' hw8' hw9' CS C8 F8 L8 A8 R8
        obtain ⟨SD9, hSD9⟩ : ∃ SD9 : Nat → M6, SD9 = (fun q => if q = nn then a.sm else SD q) := ⟨_, rfl⟩
        obtain ⟨L9L, hL9L⟩ : ∃ L9L, L9L = (hd hostI a i L).L := ⟨_, rfl⟩
        rw [← hSD9, ← hL9L] at L9
        have HSD := hide hSD9
        have HLL := hide hL9L
        clear hSD9 hL9L
        go_cut [133] from 71 to 132 (fun v wx => v = .bool false ∧ Hid (Lq n w c sd L9L SD9 ρ2 wx) ∧ Hid (AV n sd ρ2 a s8 wx))
        case first =>
          have LD := L9.out.later ((Below.refl _ w9).drew)
          have AD := A9.out.later ((Below.refl _ w9).drew)
          by_cases ha : a.ans = true
          · have e0 : nl = 0 := by rw [HNL.out, if_pos ha]
            subst e0
            have S0 : w9.drew.cell? ⟨s8, 0, none⟩ = some (.bool true) := by
              have := AD.c 0 (.bool a.ans) rfl
              rw [ha] at this
              exact this
            refine region_out (fun W => W.cell? ⟨s8, 0, none⟩ = some (.bool true)) (by kernel_rfl) ?_
            refine takeD (i := 0) (v := .slice ga 0 gc) 71 rfl rfl (by kernel_rfl) (by kernel_rfl) (by kernel_rfl) (fun _ _ _ h => h) (.inl ⟨by rfl, fun W hW => exec_move _ _ rfl rfl⟩) (S0) ?_
            try simp only [Act.put, List.setIfInBounds_toArray, List.set_cons_zero, List.set_cons_succ]
            refine takeD (i := 1) (v := .int .i64 ((0 : Nat) : Int)) 72 rfl rfl (by kernel_rfl) (by kernel_rfl) (by kernel_rfl) (fun _ _ _ h => h) (.inl ⟨by rfl, fun W hW => exec_len _ _ ga 0 gc (by kernel_rfl) rfl rfl⟩) (S0) ?_
            try simp only [Act.put, List.setIfInBounds_toArray, List.set_cons_zero, List.set_cons_succ]
            refine takeD (i := 2) (v := .bool false) 73 rfl rfl (by kernel_rfl) (by kernel_rfl) (by kernel_rfl) (fun _ _ _ h => h) (.inl ⟨by rfl, fun W hW => exec_nei _ _ _ _ _ _ rfl rfl rfl rfl⟩) (S0) ?_
            try simp only [Act.put, List.setIfInBounds_toArray, List.set_cons_zero, List.set_cons_succ]
            refine takeD (i := 3) (v := .bool false) 74 rfl rfl (by kernel_rfl) (by kernel_rfl) (by kernel_rfl) (fun _ _ _ h => h) (.inl ⟨by rfl, fun W hW => exec_move _ _ rfl rfl⟩) (S0) ?_
            try simp only [Act.put, List.setIfInBounds_toArray, List.set_cons_zero, List.set_cons_succ]
            refine takeD (i := 4) (v := .pointer (some ⟨s8, 0, none⟩)) 75 rfl rfl (by kernel_rfl) (by kernel_rfl) (by kernel_rfl) (fun _ _ _ h => h) (.inl ⟨by rfl, fun W hW => exec_fieldO 27 _ 0 s8 0 0 rfl rfl (fun w => by kernel_rfl)⟩) (S0) ?_
            try simp only [Act.put, List.setIfInBounds_toArray, List.set_cons_zero, List.set_cons_succ]
            refine takeD (i := 5) (v := .bool true) 76 rfl rfl (by kernel_rfl) (by kernel_rfl) (by kernel_rfl) (fun _ _ _ h => h) (.inl ⟨by rfl, fun W hW => exec_load1 4 oneB _ rfl s8 0 rfl (.bool true) (hW)⟩) (S0) ?_
            try simp only [Act.put, List.setIfInBounds_toArray, List.set_cons_zero, List.set_cons_succ]
            refine takeD (i := 6) (v := .bool true) 77 rfl rfl (by kernel_rfl) (by kernel_rfl) (by kernel_rfl) (fun _ _ _ h => h) (.inl ⟨by rfl, fun W hW => exec_move _ _ rfl rfl⟩) (S0) ?_
            try simp only [Act.put, List.setIfInBounds_toArray, List.set_cons_zero, List.set_cons_succ]
            refine takeD (i := 7) (v := .slice aa 0 ac) 78 rfl rfl (by kernel_rfl) (by kernel_rfl) (by kernel_rfl) (fun _ _ _ h => h) (.inl ⟨by rfl, fun W hW => exec_move _ _ rfl rfl⟩) (S0) ?_
            try simp only [Act.put, List.setIfInBounds_toArray, List.set_cons_zero, List.set_cons_succ]
            refine takeD (i := 8) (v := .int .i64 ((0 : Nat) : Int)) 79 rfl rfl (by kernel_rfl) (by kernel_rfl) (by kernel_rfl) (fun _ _ _ h => h) (.inl ⟨by rfl, fun W hW => exec_len _ _ aa 0 ac (by kernel_rfl) rfl rfl⟩) (S0) ?_
            try simp only [Act.put, List.setIfInBounds_toArray, List.set_cons_zero, List.set_cons_succ]
            refine takeD (i := 9) (v := .bool false) 80 rfl rfl (by kernel_rfl) (by kernel_rfl) (by kernel_rfl) (fun _ _ _ h => h) (.inl ⟨by rfl, fun W hW => exec_nei _ _ _ _ _ _ rfl rfl rfl rfl⟩) (S0) ?_
            try simp only [Act.put, List.setIfInBounds_toArray, List.set_cons_zero, List.set_cons_succ]
            refine takeD (i := 10) (v := .bool false) 81 rfl rfl (by kernel_rfl) (by kernel_rfl) (by kernel_rfl) (fun _ _ _ h => h) (.inl ⟨by rfl, fun W hW => exec_pick _ _ _ true _ rfl rfl rfl⟩) (S0) ?_
            try simp only [Act.put, List.setIfInBounds_toArray, List.set_cons_zero, List.set_cons_succ]
            refine takeD (i := 11) (v := .bool false) 82 rfl rfl (by kernel_rfl) (by kernel_rfl) (by kernel_rfl) (fun _ _ _ h => h) (.inl ⟨by rfl, fun W hW => exec_pick _ _ _ false _ rfl rfl rfl⟩) (S0) ?_
            try simp only [Act.put, List.setIfInBounds_toArray, List.set_cons_zero, List.set_cons_succ]
            refine takeD (i := 12) (v := .bool false) 83 rfl rfl (by kernel_rfl) (by kernel_rfl) (by kernel_rfl) (fun _ _ _ h => h) (.inl ⟨by rfl, fun W hW => exec_move _ _ rfl rfl⟩) (S0) ?_
            try simp only [Act.put, List.setIfInBounds_toArray, List.set_cons_zero, List.set_cons_succ]
            refine takeD (i := 13) (v := .pointer (some ⟨s8, 0, none⟩)) 84 rfl rfl (by kernel_rfl) (by kernel_rfl) (by kernel_rfl) (fun _ _ _ h => h) (.inl ⟨by rfl, fun W hW => exec_fieldO 27 _ 0 s8 0 0 rfl rfl (fun w => by kernel_rfl)⟩) (S0) ?_
            try simp only [Act.put, List.setIfInBounds_toArray, List.set_cons_zero, List.set_cons_succ]
            refine takeD (i := 14) (v := .bool true) 85 rfl rfl (by kernel_rfl) (by kernel_rfl) (by kernel_rfl) (fun _ _ _ h => h) (.inl ⟨by rfl, fun W hW => exec_load1 4 oneB _ rfl s8 0 rfl (.bool true) (hW)⟩) (S0) ?_
            try simp only [Act.put, List.setIfInBounds_toArray, List.set_cons_zero, List.set_cons_succ]
            refine takeD (i := 15) (v := .bool false) 86 rfl rfl (by kernel_rfl) (by kernel_rfl) (by kernel_rfl) (fun _ _ _ h => h) (.inl ⟨by rfl, fun W hW => exec_not _ _ true rfl rfl⟩) (S0) ?_
            try simp only [Act.put, List.setIfInBounds_toArray, List.set_cons_zero, List.set_cons_succ]
            refine takeD (i := 16) (v := .bool false) 87 rfl rfl (by kernel_rfl) (by kernel_rfl) (by kernel_rfl) (fun _ _ _ h => h) (.inl ⟨by rfl, fun W hW => exec_move _ _ rfl rfl⟩) (S0) ?_
            try simp only [Act.put, List.setIfInBounds_toArray, List.set_cons_zero, List.set_cons_succ]
            refine takeD (i := 17) (v := undef) 88 rfl rfl (by kernel_rfl) (by kernel_rfl) (by kernel_rfl) (fun _ _ _ h => h) (.inr ⟨by rfl, rfl⟩) (S0) ?_
            try simp only [Act.put, List.setIfInBounds_toArray, List.set_cons_zero, List.set_cons_succ]
            refine takeD (i := 18) (v := undef) 89 rfl rfl (by kernel_rfl) (by kernel_rfl) (by kernel_rfl) (fun _ _ _ h => h) (.inr ⟨by rfl, rfl⟩) (S0) ?_
            try simp only [Act.put, List.setIfInBounds_toArray, List.set_cons_zero, List.set_cons_succ]
            refine takeD (i := 19) (v := undef) 90 rfl rfl (by kernel_rfl) (by kernel_rfl) (by kernel_rfl) (fun _ _ _ h => h) (.inr ⟨by rfl, rfl⟩) (S0) ?_
            try simp only [Act.put, List.setIfInBounds_toArray, List.set_cons_zero, List.set_cons_succ]
            refine takeD (i := 20) (v := undef) 91 rfl rfl (by kernel_rfl) (by kernel_rfl) (by kernel_rfl) (fun _ _ _ h => h) (.inr ⟨by rfl, rfl⟩) (S0) ?_
            try simp only [Act.put, List.setIfInBounds_toArray, List.set_cons_zero, List.set_cons_succ]
            refine takeD (i := 21) (v := undef) 92 rfl rfl (by kernel_rfl) (by kernel_rfl) (by kernel_rfl) (fun _ _ _ h => h) (.inr ⟨by rfl, rfl⟩) (S0) ?_
            try simp only [Act.put, List.setIfInBounds_toArray, List.set_cons_zero, List.set_cons_succ]
            refine takeD (i := 22) (v := undef) 93 rfl rfl (by kernel_rfl) (by kernel_rfl) (by kernel_rfl) (fun _ _ _ h => h) (.inr ⟨by rfl, rfl⟩) (S0) ?_
            try simp only [Act.put, List.setIfInBounds_toArray, List.set_cons_zero, List.set_cons_succ]
            refine takeD (i := 23) (v := undef) 94 rfl rfl (by kernel_rfl) (by kernel_rfl) (by kernel_rfl) (fun _ _ _ h => h) (.inr ⟨by rfl, rfl⟩) (S0) ?_
            try simp only [Act.put, List.setIfInBounds_toArray, List.set_cons_zero, List.set_cons_succ]
            refine takeD (i := 24) (v := undef) 95 rfl rfl (by kernel_rfl) (by kernel_rfl) (by kernel_rfl) (fun _ _ _ h => h) (.inr ⟨by rfl, rfl⟩) (S0) ?_
            try simp only [Act.put, List.setIfInBounds_toArray, List.set_cons_zero, List.set_cons_succ]
            refine takeD (i := 25) (v := undef) 96 rfl rfl (by kernel_rfl) (by kernel_rfl) (by kernel_rfl) (fun _ _ _ h => h) (.inr ⟨by rfl, rfl⟩) (S0) ?_
            try simp only [Act.put, List.setIfInBounds_toArray, List.set_cons_zero, List.set_cons_succ]
            refine takeD (i := 26) (v := undef) 97 rfl rfl (by kernel_rfl) (by kernel_rfl) (by kernel_rfl) (fun _ _ _ h => h) (.inr ⟨by rfl, rfl⟩) (S0) ?_
            try simp only [Act.put, List.setIfInBounds_toArray, List.set_cons_zero, List.set_cons_succ]
            refine takeD (i := 27) (v := undef) 98 rfl rfl (by kernel_rfl) (by kernel_rfl) (by kernel_rfl) (fun _ _ _ h => h) (.inr ⟨by rfl, rfl⟩) (S0) ?_
            try simp only [Act.put, List.setIfInBounds_toArray, List.set_cons_zero, List.set_cons_succ]
            refine takeD (i := 28) (v := undef) 99 rfl rfl (by kernel_rfl) (by kernel_rfl) (by kernel_rfl) (fun _ _ _ h => h) (.inr ⟨by rfl, rfl⟩) (S0) ?_
            try simp only [Act.put, List.setIfInBounds_toArray, List.set_cons_zero, List.set_cons_succ]
            refine takeD (i := 29) (v := undef) 100 rfl rfl (by kernel_rfl) (by kernel_rfl) (by kernel_rfl) (fun _ _ _ h => h) (.inr ⟨by rfl, rfl⟩) (S0) ?_
            try simp only [Act.put, List.setIfInBounds_toArray, List.set_cons_zero, List.set_cons_succ]
            refine takeD (i := 30) (v := undef) 101 rfl rfl (by kernel_rfl) (by kernel_rfl) (by kernel_rfl) (fun _ _ _ h => h) (.inr ⟨by rfl, rfl⟩) (S0) ?_
            try simp only [Act.put, List.setIfInBounds_toArray, List.set_cons_zero, List.set_cons_succ]
            refine takeD (i := 31) (v := undef) 102 rfl rfl (by kernel_rfl) (by kernel_rfl) (by kernel_rfl) (fun _ _ _ h => h) (.inr ⟨by rfl, rfl⟩) (S0) ?_
            try simp only [Act.put, List.setIfInBounds_toArray, List.set_cons_zero, List.set_cons_succ]
            refine takeD (i := 32) (v := undef) 103 rfl rfl (by kernel_rfl) (by kernel_rfl) (by kernel_rfl) (fun _ _ _ h => h) (.inr ⟨by rfl, rfl⟩) (S0) ?_
            try simp only [Act.put, List.setIfInBounds_toArray, List.set_cons_zero, List.set_cons_succ]
            refine takeD (i := 33) (v := undef) 104 rfl rfl (by kernel_rfl) (by kernel_rfl) (by kernel_rfl) (fun _ _ _ h => h) (.inr ⟨by rfl, rfl⟩) (S0) ?_
            try simp only [Act.put, List.setIfInBounds_toArray, List.set_cons_zero, List.set_cons_succ]
            refine takeD (i := 34) (v := undef) 105 rfl rfl (by kernel_rfl) (by kernel_rfl) (by kernel_rfl) (fun _ _ _ h => h) (.inr ⟨by rfl, rfl⟩) (S0) ?_
            try simp only [Act.put, List.setIfInBounds_toArray, List.set_cons_zero, List.set_cons_succ]
            refine takeD (i := 35) (v := undef) 106 rfl rfl (by kernel_rfl) (by kernel_rfl) (by kernel_rfl) (fun _ _ _ h => h) (.inr ⟨by rfl, rfl⟩) (S0) ?_
            try simp only [Act.put, List.setIfInBounds_toArray, List.set_cons_zero, List.set_cons_succ]
            refine takeD (i := 36) (v := undef) 107 rfl rfl (by kernel_rfl) (by kernel_rfl) (by kernel_rfl) (fun _ _ _ h => h) (.inr ⟨by rfl, rfl⟩) (S0) ?_
            try simp only [Act.put, List.setIfInBounds_toArray, List.set_cons_zero, List.set_cons_succ]
            refine takeD (i := 37) (v := undef) 108 rfl rfl (by kernel_rfl) (by kernel_rfl) (by kernel_rfl) (fun _ _ _ h => h) (.inr ⟨by rfl, rfl⟩) (S0) ?_
            try simp only [Act.put, List.setIfInBounds_toArray, List.set_cons_zero, List.set_cons_succ]
            refine takeD (i := 38) (v := undef) 109 rfl rfl (by kernel_rfl) (by kernel_rfl) (by kernel_rfl) (fun _ _ _ h => h) (.inr ⟨by rfl, rfl⟩) (S0) ?_
            try simp only [Act.put, List.setIfInBounds_toArray, List.set_cons_zero, List.set_cons_succ]
            refine takeD (i := 39) (v := undef) 110 rfl rfl (by kernel_rfl) (by kernel_rfl) (by kernel_rfl) (fun _ _ _ h => h) (.inr ⟨by rfl, rfl⟩) (S0) ?_
            try simp only [Act.put, List.setIfInBounds_toArray, List.set_cons_zero, List.set_cons_succ]
            refine takeD (i := 40) (v := undef) 111 rfl rfl (by kernel_rfl) (by kernel_rfl) (by kernel_rfl) (fun _ _ _ h => h) (.inr ⟨by rfl, rfl⟩) (S0) ?_
            try simp only [Act.put, List.setIfInBounds_toArray, List.set_cons_zero, List.set_cons_succ]
            refine takeD (i := 41) (v := undef) 112 rfl rfl (by kernel_rfl) (by kernel_rfl) (by kernel_rfl) (fun _ _ _ h => h) (.inr ⟨by rfl, rfl⟩) (S0) ?_
            try simp only [Act.put, List.setIfInBounds_toArray, List.set_cons_zero, List.set_cons_succ]
            refine takeD (i := 42) (v := undef) 113 rfl rfl (by kernel_rfl) (by kernel_rfl) (by kernel_rfl) (fun _ _ _ h => h) (.inr ⟨by rfl, rfl⟩) (S0) ?_
            try simp only [Act.put, List.setIfInBounds_toArray, List.set_cons_zero, List.set_cons_succ]
            refine takeD (i := 43) (v := undef) 114 rfl rfl (by kernel_rfl) (by kernel_rfl) (by kernel_rfl) (fun _ _ _ h => h) (.inr ⟨by rfl, rfl⟩) (S0) ?_
            try simp only [Act.put, List.setIfInBounds_toArray, List.set_cons_zero, List.set_cons_succ]
            refine takeD (i := 44) (v := undef) 115 rfl rfl (by kernel_rfl) (by kernel_rfl) (by kernel_rfl) (fun _ _ _ h => h) (.inr ⟨by rfl, rfl⟩) (S0) ?_
            try simp only [Act.put, List.setIfInBounds_toArray, List.set_cons_zero, List.set_cons_succ]
            refine takeD (i := 45) (v := undef) 116 rfl rfl (by kernel_rfl) (by kernel_rfl) (by kernel_rfl) (fun _ _ _ h => h) (.inr ⟨by rfl, rfl⟩) (S0) ?_
            try simp only [Act.put, List.setIfInBounds_toArray, List.set_cons_zero, List.set_cons_succ]
            refine takeD (i := 46) (v := undef) 117 rfl rfl (by kernel_rfl) (by kernel_rfl) (by kernel_rfl) (fun _ _ _ h => h) (.inr ⟨by rfl, rfl⟩) (S0) ?_
            try simp only [Act.put, List.setIfInBounds_toArray, List.set_cons_zero, List.set_cons_succ]
            refine takeD (i := 47) (v := undef) 118 rfl rfl (by kernel_rfl) (by kernel_rfl) (by kernel_rfl) (fun _ _ _ h => h) (.inr ⟨by rfl, rfl⟩) (S0) ?_
            try simp only [Act.put, List.setIfInBounds_toArray, List.set_cons_zero, List.set_cons_succ]
            refine takeD (i := 48) (v := undef) 119 rfl rfl (by kernel_rfl) (by kernel_rfl) (by kernel_rfl) (fun _ _ _ h => h) (.inr ⟨by rfl, rfl⟩) (S0) ?_
            try simp only [Act.put, List.setIfInBounds_toArray, List.set_cons_zero, List.set_cons_succ]
            refine takeD (i := 49) (v := undef) 120 rfl rfl (by kernel_rfl) (by kernel_rfl) (by kernel_rfl) (fun _ _ _ h => h) (.inr ⟨by rfl, rfl⟩) (S0) ?_
            try simp only [Act.put, List.setIfInBounds_toArray, List.set_cons_zero, List.set_cons_succ]
            refine takeD (i := 50) (v := undef) 121 rfl rfl (by kernel_rfl) (by kernel_rfl) (by kernel_rfl) (fun _ _ _ h => h) (.inr ⟨by rfl, rfl⟩) (S0) ?_
            try simp only [Act.put, List.setIfInBounds_toArray, List.set_cons_zero, List.set_cons_succ]
            refine takeD (i := 51) (v := undef) 122 rfl rfl (by kernel_rfl) (by kernel_rfl) (by kernel_rfl) (fun _ _ _ h => h) (.inr ⟨by rfl, rfl⟩) (S0) ?_
            try simp only [Act.put, List.setIfInBounds_toArray, List.set_cons_zero, List.set_cons_succ]
            refine takeD (i := 52) (v := undef) 123 rfl rfl (by kernel_rfl) (by kernel_rfl) (by kernel_rfl) (fun _ _ _ h => h) (.inr ⟨by rfl, rfl⟩) (S0) ?_
            try simp only [Act.put, List.setIfInBounds_toArray, List.set_cons_zero, List.set_cons_succ]
            refine takeD (i := 53) (v := undef) 124 rfl rfl (by kernel_rfl) (by kernel_rfl) (by kernel_rfl) (fun _ _ _ h => h) (.inr ⟨by rfl, rfl⟩) (S0) ?_
            try simp only [Act.put, List.setIfInBounds_toArray, List.set_cons_zero, List.set_cons_succ]
            refine takeD (i := 54) (v := undef) 125 rfl rfl (by kernel_rfl) (by kernel_rfl) (by kernel_rfl) (fun _ _ _ h => h) (.inr ⟨by rfl, rfl⟩) (S0) ?_
            try simp only [Act.put, List.setIfInBounds_toArray, List.set_cons_zero, List.set_cons_succ]
            refine takeD (i := 55) (v := undef) 126 rfl rfl (by kernel_rfl) (by kernel_rfl) (by kernel_rfl) (fun _ _ _ h => h) (.inr ⟨by rfl, rfl⟩) (S0) ?_
            try simp only [Act.put, List.setIfInBounds_toArray, List.set_cons_zero, List.set_cons_succ]
            refine takeD (i := 56) (v := undef) 127 rfl rfl (by kernel_rfl) (by kernel_rfl) (by kernel_rfl) (fun _ _ _ h => h) (.inr ⟨by rfl, rfl⟩) (S0) ?_
            try simp only [Act.put, List.setIfInBounds_toArray, List.set_cons_zero, List.set_cons_succ]
            refine takeD (i := 57) (v := undef) 128 rfl rfl (by kernel_rfl) (by kernel_rfl) (by kernel_rfl) (fun _ _ _ h => h) (.inr ⟨by rfl, rfl⟩) (S0) ?_
            try simp only [Act.put, List.setIfInBounds_toArray, List.set_cons_zero, List.set_cons_succ]
            refine takeD (i := 58) (v := undef) 129 rfl rfl (by kernel_rfl) (by kernel_rfl) (by kernel_rfl) (fun _ _ _ h => h) (.inr ⟨by rfl, rfl⟩) (S0) ?_
            try simp only [Act.put, List.setIfInBounds_toArray, List.set_cons_zero, List.set_cons_succ]
            refine takeD (i := 59) (v := undef) 130 rfl rfl (by kernel_rfl) (by kernel_rfl) (by kernel_rfl) (fun _ _ _ h => h) (.inr ⟨by rfl, rfl⟩) (S0) ?_
            try simp only [Act.put, List.setIfInBounds_toArray, List.set_cons_zero, List.set_cons_succ]
            refine takeD (i := 60) (v := undef) 131 rfl rfl (by kernel_rfl) (by kernel_rfl) (by kernel_rfl) (fun _ _ _ h => h) (.inr ⟨by rfl, rfl⟩) (S0) ?_
            try simp only [Act.put, List.setIfInBounds_toArray, List.set_cons_zero, List.set_cons_succ]
            refine takeD (i := 61) (v := .bool false) 132 rfl rfl (by kernel_rfl) (by kernel_rfl) (by kernel_rfl) (fun _ _ _ h => h) (.inl ⟨by rfl, fun W hW => exec_pick _ _ _ false _ rfl rfl rfl⟩) (S0) ?_
            try simp only [Act.put, List.setIfInBounds_toArray, List.set_cons_zero, List.set_cons_succ]
            refine takeD (i := 62) (v := .bool false) 133 rfl rfl (by kernel_rfl) (by kernel_rfl) (by kernel_rfl) (fun _ _ _ h => h) (.inl ⟨by rfl, fun W hW => exec_pick _ _ _ false _ rfl rfl rfl⟩) (S0) ?_
            try simp only [Act.put, List.setIfInBounds_toArray, List.set_cons_zero, List.set_cons_succ]
            refine wpAnyH_done (by kernel_rfl) ?_ _
            have LD2 := hide LD
            have AD2 := hide AD
            clear LD AD
            go_wp2
            go_meet
            exact ⟨rfl, LD2, AD2⟩
          · have hf : a.ans = false := by simpa using ha
            have e0 : nl = 1 := by rw [HNL.out, if_neg ha]
            subst e0
            obtain ⟨g, rfl, hgl, hgc⟩ := R9.out hf
            have SP : ∀ W, Below w9.heap.size w9 W → CellsAt W s8 0 a.vals ∧ CellsAt W g 0 (Ar.vals ⟨true, hostM, hostI, a.sm, a.si⟩) := fun W hb => ⟨(A9.out.later hb).c, hgc.later hgl hb⟩
            have P1 : ∀ W, CellsAt W s8 0 a.vals → W.cell? ⟨s8, 0, none⟩ = some (.bool false) ∧ CellsAt W s8 1 a.sm.vals ∧ CellsAt W s8 7 a.si.vals := fun W h1 => by
              have h0 := h1 0 (.bool a.ans) rfl
              rw [hf] at h0
              have e : a.vals = [.bool a.ans] ++ (a.sm.vals ++ (a.si.vals ++ (a.dm.vals ++ a.di.vals))) := by simp [Ar.vals]
              rw [e] at h1
              have h2 := (CellsAt.append.1 h1).2
              have h3 := CellsAt.append.1 h2
              exact ⟨h0, h3.1, (CellsAt.append.1 h3.2).1⟩
            have P2 : ∀ W, CellsAt W g 0 (Ar.vals ⟨true, hostM, hostI, a.sm, a.si⟩) → W.cell? ⟨g, 0, none⟩ = some (.bool true) ∧ CellsAt W g 1 hostM.vals ∧ CellsAt W g 7 hostI.vals ∧ CellsAt W g 11 a.sm.vals ∧ CellsAt W g 17 a.si.vals := fun W h1 => by
              have h0 := h1 0 (.bool true) rfl
              have e : Ar.vals ⟨true, hostM, hostI, a.sm, a.si⟩ = [.bool true] ++ (hostM.vals ++ (hostI.vals ++ (a.sm.vals ++ a.si.vals))) := by simp [Ar.vals]
              rw [e] at h1
              have h3 := CellsAt.append.1 (CellsAt.append.1 h1).2
              have h4 := CellsAt.append.1 h3.2
              have h5 := CellsAt.append.1 h4.2
              exact ⟨h0, h3.1, h4.1, h5.1, h5.2⟩
            have bd : Below w9.heap.size w9 w9.drew := (Below.refl _ w9).drew
            have S0 := SP _ bd
            refine region_out (fun W => CellsAt W s8 0 a.vals ∧ CellsAt W g 0 (Ar.vals ⟨true, hostM, hostI, a.sm, a.si⟩)) (by kernel_rfl) ?_
            refine takeD (i := 0) (v := .slice ga 0 gc) 71 rfl rfl (by kernel_rfl) (by kernel_rfl) (by kernel_rfl) (fun _ _ _ h => h) (.inl ⟨by rfl, fun W hW => exec_move _ _ rfl rfl⟩) (S0) ?_
            try simp only [Act.put, List.setIfInBounds_toArray, List.set_cons_zero, List.set_cons_succ]
            refine takeD (i := 1) (v := .int .i64 ((0 : Nat) : Int)) 72 rfl rfl (by kernel_rfl) (by kernel_rfl) (by kernel_rfl) (fun _ _ _ h => h) (.inl ⟨by rfl, fun W hW => exec_len _ _ ga 0 gc (by kernel_rfl) rfl rfl⟩) (S0) ?_
            try simp only [Act.put, List.setIfInBounds_toArray, List.set_cons_zero, List.set_cons_succ]
            refine takeD (i := 2) (v := .bool false) 73 rfl rfl (by kernel_rfl) (by kernel_rfl) (by kernel_rfl) (fun _ _ _ h => h) (.inl ⟨by rfl, fun W hW => exec_nei _ _ _ _ _ _ rfl rfl rfl rfl⟩) (S0) ?_
            try simp only [Act.put, List.setIfInBounds_toArray, List.set_cons_zero, List.set_cons_succ]
            refine takeD (i := 3) (v := .bool false) 74 rfl rfl (by kernel_rfl) (by kernel_rfl) (by kernel_rfl) (fun _ _ _ h => h) (.inl ⟨by rfl, fun W hW => exec_move _ _ rfl rfl⟩) (S0) ?_
            try simp only [Act.put, List.setIfInBounds_toArray, List.set_cons_zero, List.set_cons_succ]
            refine takeD (i := 4) (v := .pointer (some ⟨s8, 0, none⟩)) 75 rfl rfl (by kernel_rfl) (by kernel_rfl) (by kernel_rfl) (fun _ _ _ h => h) (.inl ⟨by rfl, fun W hW => exec_fieldO 27 _ 0 s8 0 0 rfl rfl (fun w => by kernel_rfl)⟩) (S0) ?_
            try simp only [Act.put, List.setIfInBounds_toArray, List.set_cons_zero, List.set_cons_succ]
            refine takeD (i := 5) (v := .bool false) 76 rfl rfl (by kernel_rfl) (by kernel_rfl) (by kernel_rfl) (fun _ _ _ h => h) (.inl ⟨by rfl, fun W hW => exec_load1 4 oneB _ rfl s8 0 rfl (.bool false) ((P1 W hW.1).1)⟩) (S0) ?_
            try simp only [Act.put, List.setIfInBounds_toArray, List.set_cons_zero, List.set_cons_succ]
            refine takeD (i := 6) (v := .bool false) 77 rfl rfl (by kernel_rfl) (by kernel_rfl) (by kernel_rfl) (fun _ _ _ h => h) (.inl ⟨by rfl, fun W hW => exec_move _ _ rfl rfl⟩) (S0) ?_
            try simp only [Act.put, List.setIfInBounds_toArray, List.set_cons_zero, List.set_cons_succ]
            refine takeD (i := 7) (v := undef) 78 rfl rfl (by kernel_rfl) (by kernel_rfl) (by kernel_rfl) (fun _ _ _ h => h) (.inr ⟨by rfl, rfl⟩) (S0) ?_
            try simp only [Act.put, List.setIfInBounds_toArray, List.set_cons_zero, List.set_cons_succ]
            refine takeD (i := 8) (v := undef) 79 rfl rfl (by kernel_rfl) (by kernel_rfl) (by kernel_rfl) (fun _ _ _ h => h) (.inr ⟨by rfl, rfl⟩) (S0) ?_
            try simp only [Act.put, List.setIfInBounds_toArray, List.set_cons_zero, List.set_cons_succ]
            refine takeD (i := 9) (v := undef) 80 rfl rfl (by kernel_rfl) (by kernel_rfl) (by kernel_rfl) (fun _ _ _ h => h) (.inr ⟨by rfl, rfl⟩) (S0) ?_
            try simp only [Act.put, List.setIfInBounds_toArray, List.set_cons_zero, List.set_cons_succ]
            refine takeD (i := 10) (v := .bool false) 81 rfl rfl (by kernel_rfl) (by kernel_rfl) (by kernel_rfl) (fun _ _ _ h => h) (.inl ⟨by rfl, fun W hW => exec_pick _ _ _ false _ rfl rfl rfl⟩) (S0) ?_
            try simp only [Act.put, List.setIfInBounds_toArray, List.set_cons_zero, List.set_cons_succ]
            refine takeD (i := 11) (v := .bool false) 82 rfl rfl (by kernel_rfl) (by kernel_rfl) (by kernel_rfl) (fun _ _ _ h => h) (.inl ⟨by rfl, fun W hW => exec_pick _ _ _ false _ rfl rfl rfl⟩) (S0) ?_
            try simp only [Act.put, List.setIfInBounds_toArray, List.set_cons_zero, List.set_cons_succ]
            refine takeD (i := 12) (v := .bool false) 83 rfl rfl (by kernel_rfl) (by kernel_rfl) (by kernel_rfl) (fun _ _ _ h => h) (.inl ⟨by rfl, fun W hW => exec_move _ _ rfl rfl⟩) (S0) ?_
            try simp only [Act.put, List.setIfInBounds_toArray, List.set_cons_zero, List.set_cons_succ]
            refine takeD (i := 13) (v := .pointer (some ⟨s8, 0, none⟩)) 84 rfl rfl (by kernel_rfl) (by kernel_rfl) (by kernel_rfl) (fun _ _ _ h => h) (.inl ⟨by rfl, fun W hW => exec_fieldO 27 _ 0 s8 0 0 rfl rfl (fun w => by kernel_rfl)⟩) (S0) ?_
            try simp only [Act.put, List.setIfInBounds_toArray, List.set_cons_zero, List.set_cons_succ]
            refine takeD (i := 14) (v := .bool false) 85 rfl rfl (by kernel_rfl) (by kernel_rfl) (by kernel_rfl) (fun _ _ _ h => h) (.inl ⟨by rfl, fun W hW => exec_load1 4 oneB _ rfl s8 0 rfl (.bool false) ((P1 W hW.1).1)⟩) (S0) ?_
            try simp only [Act.put, List.setIfInBounds_toArray, List.set_cons_zero, List.set_cons_succ]
            refine takeD (i := 15) (v := .bool true) 86 rfl rfl (by kernel_rfl) (by kernel_rfl) (by kernel_rfl) (fun _ _ _ h => h) (.inl ⟨by rfl, fun W hW => exec_not _ _ false rfl rfl⟩) (S0) ?_
            try simp only [Act.put, List.setIfInBounds_toArray, List.set_cons_zero, List.set_cons_succ]
            refine takeD (i := 16) (v := .bool true) 87 rfl rfl (by kernel_rfl) (by kernel_rfl) (by kernel_rfl) (fun _ _ _ h => h) (.inl ⟨by rfl, fun W hW => exec_move _ _ rfl rfl⟩) (S0) ?_
            try simp only [Act.put, List.setIfInBounds_toArray, List.set_cons_zero, List.set_cons_succ]
            refine takeD (i := 17) (v := .slice (some ⟨g, 0, none⟩) 1 ac) 88 rfl rfl (by kernel_rfl) (by kernel_rfl) (by kernel_rfl) (fun _ _ _ h => h) (.inl ⟨by rfl, fun W hW => exec_move _ _ rfl rfl⟩) (S0) ?_
            try simp only [Act.put, List.setIfInBounds_toArray, List.set_cons_zero, List.set_cons_succ]
            refine takeD (i := 18) (v := .int .i64 ((1 : Nat) : Int)) 89 rfl rfl (by kernel_rfl) (by kernel_rfl) (by kernel_rfl) (fun _ _ _ h => h) (.inl ⟨by rfl, fun W hW => exec_len _ _ (some ⟨g, 0, none⟩) 1 ac (by kernel_rfl) rfl rfl⟩) (S0) ?_
            try simp only [Act.put, List.setIfInBounds_toArray, List.set_cons_zero, List.set_cons_succ]
            refine takeD (i := 19) (v := .bool false) 90 rfl rfl (by kernel_rfl) (by kernel_rfl) (by kernel_rfl) (fun _ _ _ h => h) (.inl ⟨by rfl, fun W hW => exec_nei _ _ _ _ _ _ rfl rfl rfl rfl⟩) (S0) ?_
            try simp only [Act.put, List.setIfInBounds_toArray, List.set_cons_zero, List.set_cons_succ]
            refine takeD (i := 20) (v := .bool false) 91 rfl rfl (by kernel_rfl) (by kernel_rfl) (by kernel_rfl) (fun _ _ _ h => h) (.inl ⟨by rfl, fun W hW => exec_move _ _ rfl rfl⟩) (S0) ?_
            try simp only [Act.put, List.setIfInBounds_toArray, List.set_cons_zero, List.set_cons_succ]
            refine takeD (i := 21) (v := .slice (some ⟨g, 0, none⟩) 1 ac) 92 rfl rfl (by kernel_rfl) (by kernel_rfl) (by kernel_rfl) (fun _ _ _ h => h) (.inl ⟨by rfl, fun W hW => exec_move _ _ rfl rfl⟩) (S0) ?_
            try simp only [Act.put, List.setIfInBounds_toArray, List.set_cons_zero, List.set_cons_succ]
            refine takeD (i := 22) (v := .pointer (some ⟨g, 0, none⟩)) 93 rfl rfl (by kernel_rfl) (by kernel_rfl) (by kernel_rfl) (fun _ _ _ h => h) (.inl ⟨by rfl, fun W hW => exec_ixA _ _ g 1 ac 0 rfl rfl rfl (by omega)⟩) (S0) ?_
            try simp only [Act.put, List.setIfInBounds_toArray, List.set_cons_zero, List.set_cons_succ]
            refine takeD (i := 23) (v := .pointer (some ⟨g, 0, none⟩)) 94 rfl rfl (by kernel_rfl) (by kernel_rfl) (by kernel_rfl) (fun _ _ _ h => h) (.inl ⟨by rfl, fun W hW => exec_fieldO 27 _ 0 g 0 0 rfl rfl (fun w => by kernel_rfl)⟩) (S0) ?_
            try simp only [Act.put, List.setIfInBounds_toArray, List.set_cons_zero, List.set_cons_succ]
            refine takeD (i := 24) (v := .bool true) 95 rfl rfl (by kernel_rfl) (by kernel_rfl) (by kernel_rfl) (fun _ _ _ h => h) (.inl ⟨by rfl, fun W hW => exec_load1 4 oneB _ rfl g 0 rfl (.bool true) ((P2 W hW.2).1)⟩) (S0) ?_
            try simp only [Act.put, List.setIfInBounds_toArray, List.set_cons_zero, List.set_cons_succ]
            refine takeD (i := 25) (v := .bool false) 96 rfl rfl (by kernel_rfl) (by kernel_rfl) (by kernel_rfl) (fun _ _ _ h => h) (.inl ⟨by rfl, fun W hW => exec_not _ _ true rfl rfl⟩) (S0) ?_
            try simp only [Act.put, List.setIfInBounds_toArray, List.set_cons_zero, List.set_cons_succ]
            refine takeD (i := 26) (v := .bool false) 97 rfl rfl (by kernel_rfl) (by kernel_rfl) (by kernel_rfl) (fun _ _ _ h => h) (.inl ⟨by rfl, fun W hW => exec_pick _ _ _ false _ rfl rfl rfl⟩) (S0) ?_
            try simp only [Act.put, List.setIfInBounds_toArray, List.set_cons_zero, List.set_cons_succ]
            refine takeD (i := 27) (v := .bool false) 98 rfl rfl (by kernel_rfl) (by kernel_rfl) (by kernel_rfl) (fun _ _ _ h => h) (.inl ⟨by rfl, fun W hW => exec_move _ _ rfl rfl⟩) (S0) ?_
            try simp only [Act.put, List.setIfInBounds_toArray, List.set_cons_zero, List.set_cons_succ]
            refine takeD (i := 28) (v := .slice (some ⟨g, 0, none⟩) 1 ac) 99 rfl rfl (by kernel_rfl) (by kernel_rfl) (by kernel_rfl) (fun _ _ _ h => h) (.inl ⟨by rfl, fun W hW => exec_move _ _ rfl rfl⟩) (S0) ?_
            try simp only [Act.put, List.setIfInBounds_toArray, List.set_cons_zero, List.set_cons_succ]
            refine takeD (i := 29) (v := .pointer (some ⟨g, 0, none⟩)) 100 rfl rfl (by kernel_rfl) (by kernel_rfl) (by kernel_rfl) (fun _ _ _ h => h) (.inl ⟨by rfl, fun W hW => exec_ixA _ _ g 1 ac 0 rfl rfl rfl (by omega)⟩) (S0) ?_
            try simp only [Act.put, List.setIfInBounds_toArray, List.set_cons_zero, List.set_cons_succ]
            refine takeD (i := 30) (v := .pointer (some ⟨g, 11, none⟩)) 101 rfl rfl (by kernel_rfl) (by kernel_rfl) (by kernel_rfl) (fun _ _ _ h => h) (.inl ⟨by rfl, fun W hW => exec_fieldO 27 _ 3 g 0 11 rfl rfl (fun w => by kernel_rfl)⟩) (S0) ?_
            try simp only [Act.put, List.setIfInBounds_toArray, List.set_cons_zero, List.set_cons_succ]
            refine takeD (i := 31) (v := .agg (a.sm.vals).toArray) 102 rfl rfl (by kernel_rfl) (by kernel_rfl) (by kernel_rfl) (fun _ _ _ h => h) (.inl ⟨by rfl, fun W hW => exec_loadA 23 6 aggM sizM _ rfl g 11 rfl (a.sm.vals) rfl ((P2 W hW.2).2.2.2.1)⟩) (S0) ?_
            try simp only [Act.put, List.setIfInBounds_toArray, List.set_cons_zero, List.set_cons_succ]
            refine takeD (i := 32) (v := .pointer (some ⟨s8, 1, none⟩)) 103 rfl rfl (by kernel_rfl) (by kernel_rfl) (by kernel_rfl) (fun _ _ _ h => h) (.inl ⟨by rfl, fun W hW => exec_fieldO 27 _ 1 s8 0 1 rfl rfl (fun w => by kernel_rfl)⟩) (S0) ?_
            try simp only [Act.put, List.setIfInBounds_toArray, List.set_cons_zero, List.set_cons_succ]
            refine takeD (i := 33) (v := .agg (a.sm.vals).toArray) 104 rfl rfl (by kernel_rfl) (by kernel_rfl) (by kernel_rfl) (fun _ _ _ h => h) (.inl ⟨by rfl, fun W hW => exec_loadA 23 6 aggM sizM _ rfl s8 1 rfl (a.sm.vals) rfl ((P1 W hW.1).2.1)⟩) (S0) ?_
            try simp only [Act.put, List.setIfInBounds_toArray, List.set_cons_zero, List.set_cons_succ]
            refine takeD (i := 34) (v := .bool false) 105 rfl rfl (by kernel_rfl) (by kernel_rfl) (by kernel_rfl) (fun _ _ _ h => h) (.inl ⟨by rfl, fun W hW => exec_neM _ _ _ a.sm rfl rfl rfl⟩) (S0) ?_
            try simp only [Act.put, List.setIfInBounds_toArray, List.set_cons_zero, List.set_cons_succ]
            refine takeD (i := 35) (v := .bool false) 106 rfl rfl (by kernel_rfl) (by kernel_rfl) (by kernel_rfl) (fun _ _ _ h => h) (.inl ⟨by rfl, fun W hW => exec_pick _ _ _ false _ rfl rfl rfl⟩) (S0) ?_
            try simp only [Act.put, List.setIfInBounds_toArray, List.set_cons_zero, List.set_cons_succ]
            refine takeD (i := 36) (v := .bool false) 107 rfl rfl (by kernel_rfl) (by kernel_rfl) (by kernel_rfl) (fun _ _ _ h => h) (.inl ⟨by rfl, fun W hW => exec_move _ _ rfl rfl⟩) (S0) ?_
            try simp only [Act.put, List.setIfInBounds_toArray, List.set_cons_zero, List.set_cons_succ]
            refine takeD (i := 37) (v := .slice (some ⟨g, 0, none⟩) 1 ac) 108 rfl rfl (by kernel_rfl) (by kernel_rfl) (by kernel_rfl) (fun _ _ _ h => h) (.inl ⟨by rfl, fun W hW => exec_move _ _ rfl rfl⟩) (S0) ?_
            try simp only [Act.put, List.setIfInBounds_toArray, List.set_cons_zero, List.set_cons_succ]
            refine takeD (i := 38) (v := .pointer (some ⟨g, 0, none⟩)) 109 rfl rfl (by kernel_rfl) (by kernel_rfl) (by kernel_rfl) (fun _ _ _ h => h) (.inl ⟨by rfl, fun W hW => exec_ixA _ _ g 1 ac 0 rfl rfl rfl (by omega)⟩) (S0) ?_
            try simp only [Act.put, List.setIfInBounds_toArray, List.set_cons_zero, List.set_cons_succ]
            refine takeD (i := 39) (v := .pointer (some ⟨g, 17, none⟩)) 110 rfl rfl (by kernel_rfl) (by kernel_rfl) (by kernel_rfl) (fun _ _ _ h => h) (.inl ⟨by rfl, fun W hW => exec_fieldO 27 _ 4 g 0 17 rfl rfl (fun w => by kernel_rfl)⟩) (S0) ?_
            try simp only [Act.put, List.setIfInBounds_toArray, List.set_cons_zero, List.set_cons_succ]
            refine takeD (i := 40) (v := .agg (a.si.vals).toArray) 111 rfl rfl (by kernel_rfl) (by kernel_rfl) (by kernel_rfl) (fun _ _ _ h => h) (.inl ⟨by rfl, fun W hW => exec_loadA 25 4 aggI sizI _ rfl g 17 rfl (a.si.vals) rfl ((P2 W hW.2).2.2.2.2)⟩) (S0) ?_
            try simp only [Act.put, List.setIfInBounds_toArray, List.set_cons_zero, List.set_cons_succ]
            refine takeD (i := 41) (v := .pointer (some ⟨s8, 7, none⟩)) 112 rfl rfl (by kernel_rfl) (by kernel_rfl) (by kernel_rfl) (fun _ _ _ h => h) (.inl ⟨by rfl, fun W hW => exec_fieldO 27 _ 2 s8 0 7 rfl rfl (fun w => by kernel_rfl)⟩) (S0) ?_
            try simp only [Act.put, List.setIfInBounds_toArray, List.set_cons_zero, List.set_cons_succ]
            refine takeD (i := 42) (v := .agg (a.si.vals).toArray) 113 rfl rfl (by kernel_rfl) (by kernel_rfl) (by kernel_rfl) (fun _ _ _ h => h) (.inl ⟨by rfl, fun W hW => exec_loadA 25 4 aggI sizI _ rfl s8 7 rfl (a.si.vals) rfl ((P1 W hW.1).2.2)⟩) (S0) ?_
            try simp only [Act.put, List.setIfInBounds_toArray, List.set_cons_zero, List.set_cons_succ]
            refine takeD (i := 43) (v := .bool false) 114 rfl rfl (by kernel_rfl) (by kernel_rfl) (by kernel_rfl) (fun _ _ _ h => h) (.inl ⟨by rfl, fun W hW => exec_neI _ _ _ a.si rfl rfl rfl⟩) (S0) ?_
            try simp only [Act.put, List.setIfInBounds_toArray, List.set_cons_zero, List.set_cons_succ]
            refine takeD (i := 44) (v := .bool false) 115 rfl rfl (by kernel_rfl) (by kernel_rfl) (by kernel_rfl) (fun _ _ _ h => h) (.inl ⟨by rfl, fun W hW => exec_pick _ _ _ false _ rfl rfl rfl⟩) (S0) ?_
            try simp only [Act.put, List.setIfInBounds_toArray, List.set_cons_zero, List.set_cons_succ]
            refine takeD (i := 45) (v := .bool false) 116 rfl rfl (by kernel_rfl) (by kernel_rfl) (by kernel_rfl) (fun _ _ _ h => h) (.inl ⟨by rfl, fun W hW => exec_move _ _ rfl rfl⟩) (S0) ?_
            try simp only [Act.put, List.setIfInBounds_toArray, List.set_cons_zero, List.set_cons_succ]
            refine takeD (i := 46) (v := .slice (some ⟨g, 0, none⟩) 1 ac) 117 rfl rfl (by kernel_rfl) (by kernel_rfl) (by kernel_rfl) (fun _ _ _ h => h) (.inl ⟨by rfl, fun W hW => exec_move _ _ rfl rfl⟩) (S0) ?_
            try simp only [Act.put, List.setIfInBounds_toArray, List.set_cons_zero, List.set_cons_succ]
            refine takeD (i := 47) (v := .pointer (some ⟨g, 0, none⟩)) 118 rfl rfl (by kernel_rfl) (by kernel_rfl) (by kernel_rfl) (fun _ _ _ h => h) (.inl ⟨by rfl, fun W hW => exec_ixA _ _ g 1 ac 0 rfl rfl rfl (by omega)⟩) (S0) ?_
            try simp only [Act.put, List.setIfInBounds_toArray, List.set_cons_zero, List.set_cons_succ]
            refine takeD (i := 48) (v := .pointer (some ⟨g, 1, none⟩)) 119 rfl rfl (by kernel_rfl) (by kernel_rfl) (by kernel_rfl) (fun _ _ _ h => h) (.inl ⟨by rfl, fun W hW => exec_fieldO 27 _ 1 g 0 1 rfl rfl (fun w => by kernel_rfl)⟩) (S0) ?_
            try simp only [Act.put, List.setIfInBounds_toArray, List.set_cons_zero, List.set_cons_succ]
            refine takeD (i := 49) (v := .agg (hostM.vals).toArray) 120 rfl rfl (by kernel_rfl) (by kernel_rfl) (by kernel_rfl) (fun _ _ _ h => h) (.inl ⟨by rfl, fun W hW => exec_loadA 23 6 aggM sizM _ rfl g 1 rfl (hostM.vals) rfl ((P2 W hW.2).2.1)⟩) (S0) ?_
            try simp only [Act.put, List.setIfInBounds_toArray, List.set_cons_zero, List.set_cons_succ]
            refine takeD (i := 50) (v := .agg (M6.vals ⟨2, 0, 0, 0, 0, 0⟩).toArray) 121 rfl rfl (by kernel_rfl) (by kernel_rfl) (by kernel_rfl) (fun _ _ _ h => h) (.inl ⟨by rfl, fun W hW => exec_m1 2 rfl (fun _ => rfl)⟩) (S0) ?_
            try simp only [Act.put, List.setIfInBounds_toArray, List.set_cons_zero, List.set_cons_succ]
            refine takeD (i := 51) (v := .bool false) 122 rfl rfl (by kernel_rfl) (by kernel_rfl) (by kernel_rfl) (fun _ _ _ h => h) (.inl ⟨by rfl, fun W hW => exec_neM _ _ _ hostM rfl rfl rfl⟩) (S0) ?_
            try simp only [Act.put, List.setIfInBounds_toArray, List.set_cons_zero, List.set_cons_succ]
            refine takeD (i := 52) (v := .bool false) 123 rfl rfl (by kernel_rfl) (by kernel_rfl) (by kernel_rfl) (fun _ _ _ h => h) (.inl ⟨by rfl, fun W hW => exec_pick _ _ _ false _ rfl rfl rfl⟩) (S0) ?_
            try simp only [Act.put, List.setIfInBounds_toArray, List.set_cons_zero, List.set_cons_succ]
            refine takeD (i := 53) (v := .bool false) 124 rfl rfl (by kernel_rfl) (by kernel_rfl) (by kernel_rfl) (fun _ _ _ h => h) (.inl ⟨by rfl, fun W hW => exec_move _ _ rfl rfl⟩) (S0) ?_
            try simp only [Act.put, List.setIfInBounds_toArray, List.set_cons_zero, List.set_cons_succ]
            refine takeD (i := 54) (v := .slice (some ⟨g, 0, none⟩) 1 ac) 125 rfl rfl (by kernel_rfl) (by kernel_rfl) (by kernel_rfl) (fun _ _ _ h => h) (.inl ⟨by rfl, fun W hW => exec_move _ _ rfl rfl⟩) (S0) ?_
            try simp only [Act.put, List.setIfInBounds_toArray, List.set_cons_zero, List.set_cons_succ]
            refine takeD (i := 55) (v := .pointer (some ⟨g, 0, none⟩)) 126 rfl rfl (by kernel_rfl) (by kernel_rfl) (by kernel_rfl) (fun _ _ _ h => h) (.inl ⟨by rfl, fun W hW => exec_ixA _ _ g 1 ac 0 rfl rfl rfl (by omega)⟩) (S0) ?_
            try simp only [Act.put, List.setIfInBounds_toArray, List.set_cons_zero, List.set_cons_succ]
            refine takeD (i := 56) (v := .pointer (some ⟨g, 7, none⟩)) 127 rfl rfl (by kernel_rfl) (by kernel_rfl) (by kernel_rfl) (fun _ _ _ h => h) (.inl ⟨by rfl, fun W hW => exec_fieldO 27 _ 2 g 0 7 rfl rfl (fun w => by kernel_rfl)⟩) (S0) ?_
            try simp only [Act.put, List.setIfInBounds_toArray, List.set_cons_zero, List.set_cons_succ]
            refine takeD (i := 57) (v := .agg (hostI.vals).toArray) 128 rfl rfl (by kernel_rfl) (by kernel_rfl) (by kernel_rfl) (fun _ _ _ h => h) (.inl ⟨by rfl, fun W hW => exec_loadA 25 4 aggI sizI _ rfl g 7 rfl (hostI.vals) rfl ((P2 W hW.2).2.2.1)⟩) (S0) ?_
            try simp only [Act.put, List.setIfInBounds_toArray, List.set_cons_zero, List.set_cons_succ]
            have CI : Calls Try.prog 14 #[.int .u8 1] w9.drew fun e w2 => ∃ v, e = .returned v ∧ (v = I4.val ⟨10, 0, 0, 1⟩ ∧ Below w9.drew.heap.size w9.drew w2) := (ip_any 1 _).mono (by rintro _ w2 ⟨rfl, b⟩; exact ⟨_, rfl, rfl, b⟩)
            refine callD (w' := w9.drew) 58 129 (by kernel_rfl) rfl rfl (by rfl) 14 #[.int .u8 1] (by kernel_rfl) _ CI ?_
            rintro _ wa ⟨rfl, bwa⟩
            have Bwa : Below w9.heap.size w9 wa := bd.trans (bwa.mono bd.size)
            have Swa := SP wa Bwa
            refine ⟨Swa, ?_⟩
            simp only [Act.put, List.setIfInBounds_toArray, List.set_cons_zero, List.set_cons_succ]
            refine takeD (i := 59) (v := .bool false) 130 rfl rfl (by kernel_rfl) (by kernel_rfl) (by kernel_rfl) (fun _ _ _ h => h) (.inl ⟨by rfl, fun W hW => exec_neI _ _ _ hostI rfl rfl rfl⟩) (Swa) ?_
            try simp only [Act.put, List.setIfInBounds_toArray, List.set_cons_zero, List.set_cons_succ]
            refine takeD (i := 60) (v := .bool false) 131 rfl rfl (by kernel_rfl) (by kernel_rfl) (by kernel_rfl) (fun _ _ _ h => h) (.inl ⟨by rfl, fun W hW => exec_pick _ _ _ false _ rfl rfl rfl⟩) (Swa) ?_
            try simp only [Act.put, List.setIfInBounds_toArray, List.set_cons_zero, List.set_cons_succ]
            refine takeD (i := 61) (v := .bool false) 132 rfl rfl (by kernel_rfl) (by kernel_rfl) (by kernel_rfl) (fun _ _ _ h => h) (.inl ⟨by rfl, fun W hW => exec_pick _ _ _ true _ rfl rfl rfl⟩) (Swa) ?_
            try simp only [Act.put, List.setIfInBounds_toArray, List.set_cons_zero, List.set_cons_succ]
            refine takeD (i := 62) (v := .bool false) 133 rfl rfl (by kernel_rfl) (by kernel_rfl) (by kernel_rfl) (fun _ _ _ h => h) (.inl ⟨by rfl, fun W hW => exec_pick _ _ _ false _ rfl rfl rfl⟩) (Swa) ?_
            try simp only [Act.put, List.setIfInBounds_toArray, List.set_cons_zero, List.set_cons_succ]
            refine wpAnyH_done (by kernel_rfl) ?_ _
            have LD2 := hide (L9.out.later Bwa)
            have AD2 := hide (A9.out.later Bwa)
            clear LD AD
            go_wp2
            go_meet
            exact ⟨rfl, LD2, AD2⟩
        case rest =>
          obtain ⟨rfl, L10, A10⟩ := hcut
          clear L9 A9 R9
          go_wp2_with fail
          refine (ip_any (2 + (nn : Int)) _).mono ?_
          rintro _ w11 ⟨rfl, b11⟩
          have L11 : Hid (Lq n w c sd L9L SD9 ρ2 w11) := L10.out.later b11
          have A11 : Hid (AV n sd ρ2 a s8 w11) := A10.out.later b11
          have FQ := HI.out.hears (Int.le_refl _) (by omega) n7 a (by rw [HA.out]) (by rw [HA.out])
          rw [← HLL.out, ← HSD.out] at FQ
          have I11 : Hid (LnI (i : Int) L9L SD9) := FQ.2.2.1
          have FD := hide (L11.out.find A11.out (now := (i : Int)) I11.out.ok (by omega) FQ.2.2.2)
          simp only [lip, I4.val] at FD
          simp only [I4.val]
          clear FQ b11 L10 A10
          go_wp2_with fail
          refine FD.out.mono ?_
          rintro _ w12 ⟨ρ3, xa, xc, ya, yc, rfl, hL12, hA12⟩
          simp only [M6.val]
          obtain ⟨s12, hs12⟩ : ∃ s12, s12 = w12.heap.size := ⟨_, rfl⟩
          obtain ⟨w13, hw13⟩ : ∃ w13, w13 = w12.alloc (.cells #[.int .u8 a.sm.a, .int .u8 a.sm.b, .int .u8 a.sm.c, .int .u8 a.sm.d, .int .u8 a.sm.e, .int .u8 a.sm.f] 23) := ⟨_, rfl⟩
          have b13 : Below w12.heap.size w12 w13 := by rw [hw13]; exact (Below.refl _ _).alloc (Nat.le_refl _) _
          have HL13 : Hid (Lq n w c sd L9L SD9 ρ3 w13) := hL12.later b13
          have cq : CellsAt w13 s12 0 a.sm.vals := by rw [hw13, hs12]; exact CellsAt.new w12 a.sm.vals 23
          have cs : CellsAt w13 s8 1 a.sm.vals := by
            have h1 := (hA12.later b13).c
            have e : a.vals = [.bool a.ans] ++ (a.sm.vals ++ (a.si.vals ++ (a.dm.vals ++ a.di.vals))) := by simp [Ar.vals]
            rw [e] at h1
            exact (CellsAt.append.1 (CellsAt.append.1 h1).2).1
          have x0 := cq 0 _ rfl
          have x1 := cq 1 _ rfl
          have x2 := cq 2 _ rfl
          have x3 := cq 3 _ rfl
          have x4 := cq 4 _ rfl
          have x5 := cq 5 _ rfl
          have y0 := cs 0 _ rfl
          have y1 := cs 1 _ rfl
          have y2 := cs 2 _ rfl
          have y3 := cs 3 _ rfl
          have y4 := cs 4 _ rfl
          have y5 := cs 5 _ rfl
          simp only [Nat.reduceAdd] at x0 x1 x2 x3 x4 x5 y0 y1 y2 y3 y4 y5
          have EM := eq_mac
          have ES : eqM ⟨a.sm.a, a.sm.b, a.sm.c, a.sm.d, a.sm.e, a.sm.f⟩ ⟨a.sm.a, a.sm.b, a.sm.c, a.sm.d, a.sm.e, a.sm.f⟩ = true := eqM_self _
          have hw13' := hw13.symm
          have hs12' := hs12.symm
          clear hw13 hs12 cq cs hL12 hA12 FD b13
          go_wp2
          clear x0 x1 x2 x3 x4 x5 y0 y1 y2 y3 y4 y5 EM ES hw13' hs12'
          go_roundw
          case rel => exact ⟨i + 1, ρ3, L9L, SD9, val_int (by omega), by omega, HL13.out, ⟨I11.out.ok.later (by omega), I11.out.each⟩⟩
          case measure => simp [intOf]; omega
    · have ei : i = l.length := by omega
      subst ei
      obtain ⟨wr0, hwr0⟩ : ∃ wr0, wr0 = wr := ⟨_, rfl⟩
      have AL := hide (All_any HL.out.ca HI.out.ok)
      have IL := hide HI.out.len
      go_wp2_with fail
      refine AL.out.mono ?_
      rintro _ w6 ⟨av, V, τ, rfl, hR, _, b6⟩
      rw [← hwr0] at hR
      have L6 : Hid (Lq n w c sd L SD ρ1 w6) := HL.out.later b6
      obtain ⟨aa, ac, rfl⟩ := hR.shape
      have HR := hide hR
      clear hR b6 AL hwr0
      go_wp2
      go_loopw [17] (fun v17 wr => ∃ k : Nat, v17 = .int .i64 (k : Int) ∧ k ≤ L.length ∧ Hid (Lq n w c sd L SD ρ1 wr) ∧ Hid (RowF 15 (fun g => wr0.heap.size ≤ g ∧ τ g = 1) wr (.slice aa L.length ac) L.length (nbl L V))) (fun v17 _ => L.length - (intOf v17).toNat)
      case atStart => exact ⟨0, rfl, by omega, L6.out, HR.out⟩
      case round =>
        obtain ⟨k, rfl, hk, HL2, HR2⟩ := hrel
        by_cases hlt : k < L.length
        · obtain ⟨x, hx⟩ : ∃ x, L[k]? = some x := ⟨_, List.getElem?_eq_getElem hlt⟩
          obtain ⟨g, rfl, hgl, _, _, hcl⟩ := HR2.out.at (by omega)
          obtain ⟨hst, m, hm, hip, hmac⟩ := HI.out.each x (List.mem_of_getElem? hx)
          have hck := hcl k hlt
          rw [nbl_at hx] at hck
          have x3 : wr.cell? ⟨g, k * 15 + 3, none⟩ = some (.int .u8 (2 + (m : Int))) := by
            have := hck 3 (.int .u8 x.ip.d) rfl
            rw [hip] at this
            exact this
          have HCK := hide hck
          have HP := hide (And.intro hst (And.intro hip hmac))
          have HX := hide hx
          have HGL := hide hgl
          have zk : (k : Int) < (L.length : Int) := by omega
          have zk7 : (k : Int) < 7 := by have := IL.out; omega
          have zm : (m : Int) < 7 := by omega
          have wm : IntKind.i64.wrap (2 + (m : Int)) = 2 + (m : Int) := by simp [IntKind.wrap, IntKind.bits, IntKind.signed]; omega
          have wm2 : IntKind.i64.wrap (m : Int) = (m : Int) := by simp [IntKind.wrap, IntKind.bits, IntKind.signed]; omega
          have wm3 : 2 + (m : Int) - 2 = (m : Int) := by omega
          clear hcl hck hst hip hmac hx hgl
          go_wp2_with fail
          clear x3 wm wm2 wm3
          have LD := HL2.out.later ((Below.refl _ wr).drew)
          have RD := HR2.out.later ((Below.refl _ wr).drew)
          have S0 : CellsAt wr.drew g (k * 15) (x.cells (V k)) ∧ CellsAt wr.drew sd (m * 6) (SD m).vals := ⟨HCK.out.later HGL.out ((Below.refl _ wr).drew), LD.cs m (by omega)⟩
          have P1 : ∀ W, CellsAt W g (k * 15) (x.cells (V k)) → W.cell? ⟨g, k * 15 + 4, none⟩ = some (.int .i64 2) ∧ CellsAt W g (k * 15 + 5) (SD m).vals := fun W h1 => by
            obtain ⟨hst, hip, hmac⟩ := HP.out
            have h0 := h1 4 (.int .i64 x.st) rfl
            rw [hst] at h0
            have e : x.cells (V k) = (x.ip.vals ++ [.int .i64 x.st]) ++ (x.mac.vals ++ [.int .i64 x.since, .int .i64 x.asked, .int .i64 x.tries, V k]) := by simp [Nb.cells]
            rw [e, hmac] at h1
            exact ⟨h0, (CellsAt.append.1 (CellsAt.append.1 h1).2).1⟩
          refine region_out (fun W => CellsAt W g (k * 15) (x.cells (V k)) ∧ CellsAt W sd (m * 6) (SD m).vals) (by kernel_rfl) ?_
          refine takeD (i := 0) (v := .int .i64 (m : Int)) 174 rfl rfl (by kernel_rfl) (by kernel_rfl) (by kernel_rfl) (fun _ _ _ h => h) (.inl ⟨by rfl, fun W hW => exec_move _ _ rfl rfl⟩) (S0) ?_
          try simp only [Act.put, List.setIfInBounds_toArray, List.set_cons_zero, List.set_cons_succ]
          refine takeD (i := 1) (v := .bool false) 175 rfl rfl (by kernel_rfl) (by kernel_rfl) (by kernel_rfl) (fun _ _ _ h => h) (.inl ⟨by rfl, fun W hW => exec_lti _ _ _ _ _ _ rfl rfl rfl (decide_eq_false (by omega))⟩) (S0) ?_
          try simp only [Act.put, List.setIfInBounds_toArray, List.set_cons_zero, List.set_cons_succ]
          refine takeD (i := 2) (v := .bool false) 176 rfl rfl (by kernel_rfl) (by kernel_rfl) (by kernel_rfl) (fun _ _ _ h => h) (.inl ⟨by rfl, fun W hW => exec_move _ _ rfl rfl⟩) (S0) ?_
          try simp only [Act.put, List.setIfInBounds_toArray, List.set_cons_zero, List.set_cons_succ]
          refine takeD (i := 3) (v := .int .i64 (m : Int)) 177 rfl rfl (by kernel_rfl) (by kernel_rfl) (by kernel_rfl) (fun _ _ _ h => h) (.inl ⟨by rfl, fun W hW => exec_move _ _ rfl rfl⟩) (S0) ?_
          try simp only [Act.put, List.setIfInBounds_toArray, List.set_cons_zero, List.set_cons_succ]
          refine takeD (i := 4) (v := .bool false) 178 rfl rfl (by kernel_rfl) (by kernel_rfl) (by kernel_rfl) (fun _ _ _ h => h) (.inl ⟨by rfl, fun W hW => exec_gti _ _ _ _ _ _ rfl rfl rfl (decide_eq_false (by omega))⟩) (S0) ?_
          try simp only [Act.put, List.setIfInBounds_toArray, List.set_cons_zero, List.set_cons_succ]
          refine takeD (i := 5) (v := .bool false) 179 rfl rfl (by kernel_rfl) (by kernel_rfl) (by kernel_rfl) (fun _ _ _ h => h) (.inl ⟨by rfl, fun W hW => exec_pick _ _ _ false _ rfl rfl rfl⟩) (S0) ?_
          try simp only [Act.put, List.setIfInBounds_toArray, List.set_cons_zero, List.set_cons_succ]
          refine takeD (i := 6) (v := .bool false) 180 rfl rfl (by kernel_rfl) (by kernel_rfl) (by kernel_rfl) (fun _ _ _ h => h) (.inl ⟨by rfl, fun W hW => exec_move _ _ rfl rfl⟩) (S0) ?_
          try simp only [Act.put, List.setIfInBounds_toArray, List.set_cons_zero, List.set_cons_succ]
          refine takeD (i := 7) (v := .slice (some ⟨g, 0, none⟩) L.length ac) 181 rfl rfl (by kernel_rfl) (by kernel_rfl) (by kernel_rfl) (fun _ _ _ h => h) (.inl ⟨by rfl, fun W hW => exec_move _ _ rfl rfl⟩) (S0) ?_
          try simp only [Act.put, List.setIfInBounds_toArray, List.set_cons_zero, List.set_cons_succ]
          refine takeD (i := 8) (v := .int .i64 (k : Int)) 182 rfl rfl (by kernel_rfl) (by kernel_rfl) (by kernel_rfl) (fun _ _ _ h => h) (.inl ⟨by rfl, fun W hW => exec_move _ _ rfl rfl⟩) (S0) ?_
          try simp only [Act.put, List.setIfInBounds_toArray, List.set_cons_zero, List.set_cons_succ]
          refine takeD (i := 9) (v := .pointer (some ⟨g, k * 15, none⟩)) 183 rfl rfl (by kernel_rfl) (by kernel_rfl) (by kernel_rfl) (fun _ _ _ h => h) (.inl ⟨by rfl, fun W hW => exec_ixN _ _ g L.length ac k rfl rfl rfl hlt⟩) (S0) ?_
          try simp only [Act.put, List.setIfInBounds_toArray, List.set_cons_zero, List.set_cons_succ]
          refine takeD (i := 10) (v := .pointer (some ⟨g, k * 15 + 5, none⟩)) 184 rfl rfl (by kernel_rfl) (by kernel_rfl) (by kernel_rfl) (fun _ _ _ h => h) (.inl ⟨by rfl, fun W hW => exec_fieldO 66 _ 2 g (k * 15) (k * 15 + 5) rfl rfl (fun w => by kernel_rfl)⟩) (S0) ?_
          try simp only [Act.put, List.setIfInBounds_toArray, List.set_cons_zero, List.set_cons_succ]
          refine takeD (i := 11) (v := .agg ((SD m).vals).toArray) 185 rfl rfl (by kernel_rfl) (by kernel_rfl) (by kernel_rfl) (fun _ _ _ h => h) (.inl ⟨by rfl, fun W hW => exec_loadA 23 6 aggM sizM _ rfl g (k * 15 + 5) rfl ((SD m).vals) rfl ((P1 W hW.1).2)⟩) (S0) ?_
          try simp only [Act.put, List.setIfInBounds_toArray, List.set_cons_zero, List.set_cons_succ]
          refine takeD (i := 12) (v := .int .i64 (m : Int)) 186 rfl rfl (by kernel_rfl) (by kernel_rfl) (by kernel_rfl) (fun _ _ _ h => h) (.inl ⟨by rfl, fun W hW => exec_move _ _ rfl rfl⟩) (S0) ?_
          try simp only [Act.put, List.setIfInBounds_toArray, List.set_cons_zero, List.set_cons_succ]
          refine takeD (i := 13) (v := .pointer (some ⟨sd, m * 6, none⟩)) 187 rfl rfl (by kernel_rfl) (by kernel_rfl) (by kernel_rfl) (fun _ _ _ h => h) (.inl ⟨by rfl, fun W hW => exec_ixS _ _ sd m rfl rfl rfl (by omega)⟩) (S0) ?_
          try simp only [Act.put, List.setIfInBounds_toArray, List.set_cons_zero, List.set_cons_succ]
          refine takeD (i := 14) (v := .agg ((SD m).vals).toArray) 188 rfl rfl (by kernel_rfl) (by kernel_rfl) (by kernel_rfl) (fun _ _ _ h => h) (.inl ⟨by rfl, fun W hW => exec_loadA 23 6 aggM sizM _ rfl sd (m * 6) rfl ((SD m).vals) rfl (hW.2)⟩) (S0) ?_
          try simp only [Act.put, List.setIfInBounds_toArray, List.set_cons_zero, List.set_cons_succ]
          refine takeD (i := 15) (v := .bool false) 189 rfl rfl (by kernel_rfl) (by kernel_rfl) (by kernel_rfl) (fun _ _ _ h => h) (.inl ⟨by rfl, fun W hW => exec_neM _ _ _ (SD m) rfl rfl rfl⟩) (S0) ?_
          try simp only [Act.put, List.setIfInBounds_toArray, List.set_cons_zero, List.set_cons_succ]
          refine takeD (i := 16) (v := .bool false) 190 rfl rfl (by kernel_rfl) (by kernel_rfl) (by kernel_rfl) (fun _ _ _ h => h) (.inl ⟨by rfl, fun W hW => exec_pick _ _ _ false _ rfl rfl rfl⟩) (S0) ?_
          try simp only [Act.put, List.setIfInBounds_toArray, List.set_cons_zero, List.set_cons_succ]
          refine takeD (i := 17) (v := .bool false) 191 rfl rfl (by kernel_rfl) (by kernel_rfl) (by kernel_rfl) (fun _ _ _ h => h) (.inl ⟨by rfl, fun W hW => exec_move _ _ rfl rfl⟩) (S0) ?_
          try simp only [Act.put, List.setIfInBounds_toArray, List.set_cons_zero, List.set_cons_succ]
          refine takeD (i := 18) (v := .slice (some ⟨g, 0, none⟩) L.length ac) 192 rfl rfl (by kernel_rfl) (by kernel_rfl) (by kernel_rfl) (fun _ _ _ h => h) (.inl ⟨by rfl, fun W hW => exec_move _ _ rfl rfl⟩) (S0) ?_
          try simp only [Act.put, List.setIfInBounds_toArray, List.set_cons_zero, List.set_cons_succ]
          refine takeD (i := 19) (v := .int .i64 (k : Int)) 193 rfl rfl (by kernel_rfl) (by kernel_rfl) (by kernel_rfl) (fun _ _ _ h => h) (.inl ⟨by rfl, fun W hW => exec_move _ _ rfl rfl⟩) (S0) ?_
          try simp only [Act.put, List.setIfInBounds_toArray, List.set_cons_zero, List.set_cons_succ]
          refine takeD (i := 20) (v := .pointer (some ⟨g, k * 15, none⟩)) 194 rfl rfl (by kernel_rfl) (by kernel_rfl) (by kernel_rfl) (fun _ _ _ h => h) (.inl ⟨by rfl, fun W hW => exec_ixN _ _ g L.length ac k rfl rfl rfl hlt⟩) (S0) ?_
          try simp only [Act.put, List.setIfInBounds_toArray, List.set_cons_zero, List.set_cons_succ]
          refine takeD (i := 21) (v := .pointer (some ⟨g, k * 15 + 4, none⟩)) 195 rfl rfl (by kernel_rfl) (by kernel_rfl) (by kernel_rfl) (fun _ _ _ h => h) (.inl ⟨by rfl, fun W hW => exec_fieldO 66 _ 1 g (k * 15) (k * 15 + 4) rfl rfl (fun w => by kernel_rfl)⟩) (S0) ?_
          try simp only [Act.put, List.setIfInBounds_toArray, List.set_cons_zero, List.set_cons_succ]
          refine takeD (i := 22) (v := .int .i64 2) 196 rfl rfl (by kernel_rfl) (by kernel_rfl) (by kernel_rfl) (fun _ _ _ h => h) (.inl ⟨by rfl, fun W hW => exec_load1 3 one1 _ rfl g (k * 15 + 4) rfl (.int .i64 2) ((P1 W hW.1).1)⟩) (S0) ?_
          try simp only [Act.put, List.setIfInBounds_toArray, List.set_cons_zero, List.set_cons_succ]
          refine takeD (i := 23) (v := .bool false) 197 rfl rfl (by kernel_rfl) (by kernel_rfl) (by kernel_rfl) (fun _ _ _ h => h) (.inl ⟨by rfl, fun W hW => exec_nei _ _ _ _ _ _ rfl rfl rfl rfl⟩) (S0) ?_
          try simp only [Act.put, List.setIfInBounds_toArray, List.set_cons_zero, List.set_cons_succ]
          refine takeD (i := 24) (v := .bool false) 198 rfl rfl (by kernel_rfl) (by kernel_rfl) (by kernel_rfl) (fun _ _ _ h => h) (.inl ⟨by rfl, fun W hW => exec_pick _ _ _ false _ rfl rfl rfl⟩) (S0) ?_
          try simp only [Act.put, List.setIfInBounds_toArray, List.set_cons_zero, List.set_cons_succ]
          refine wpAnyH_done (by kernel_rfl) ?_ _
          have LD2 := hide LD
          have RD2 := hide RD
          clear LD RD S0 P1
          go_wp2
          go_roundw
          case rel => exact ⟨k + 1, val_int (by omega), by omega, LD2.out, RD2.out⟩
          case measure => simp [intOf]; omega
        · have ek : k = L.length := by omega
          subst ek
          have z7 : (L.length : Int) ≤ 7 := by have := IL.out; omega
          go_wp2
          go_ret
          exact ⟨rfl, HL2.out.bel⟩
end Go.Proofs.Ytjaodjlgnclkhaa
