
/-
  RingHolds: what its walk needs.
-/
import Derived.Test.YtjkfjijnjkpbbaaJ9
namespace Go.Proofs.Ytjkfjijnjkpbbaa
open Go.RowKit

/-- a call as it came in -/
structure OpV where
  kind : Int
  k : Int
  bv : Value
  bs : List Int
  yes : Bool
/-- THE SLICE VALUE v HOLDS THE CALLS l, all of it below n₀ -/
def IsO (n₀ : Nat) (W : World) (v : Value) (l : List OpV) : Prop :=
  ∃ a cap, v = .slice a l.length cap ∧ (0 < l.length → ∃ g off, a = some ⟨g, off, none⟩ ∧ g < n₀ ∧ ∀ i o, l[i]? = some o →
      W.cell? ⟨g, off + i * 4, none⟩ = some (.int .i64 o.kind) ∧ W.cell? ⟨g, off + i * 4 + 1, none⟩ = some (.int .i64 o.k) ∧ W.cell? ⟨g, off + i * 4 + 2, none⟩ = some o.bv ∧ W.cell? ⟨g, off + i * 4 + 3, none⟩ = some (.bool o.yes)) ∧
    ∀ o ∈ l, IsF (fun g => n₀ ≤ g) W o.bv o.bs ∧ o.bs.length ≤ 140737488351232

theorem IsF.below {n₀ : Nat} {W W' : World} {v : Value} {bs : List Int} (h : IsF (fun g => n₀ ≤ g) W v bs) (hb : Below n₀ W W') : IsF (fun g => n₀ ≤ g) W' v bs := by
  obtain ⟨a, cap, e, hl, hn, hc⟩ := h
  refine ⟨a, cap, e, hl, hn, fun h0 => ?_⟩
  obtain ⟨b, off, e1, hb1, ha, hcs⟩ := hc h0
  exact ⟨b, off, e1, Nat.lt_of_lt_of_le hb1 hb.size, ha, fun j hj => (hb.cell (p := ⟨b, off + j, none⟩) (by simp at ha; exact ha)).trans (hcs j hj)⟩
theorem IsO.below {n₀ : Nat} {W W' : World} {v : Value} {l : List OpV} (h : IsO n₀ W v l) (hb : Below n₀ W W') : IsO n₀ W' v l := by
  obtain ⟨a, cap, e, hc, hf⟩ := h
  refine ⟨a, cap, e, fun h0 => ?_, fun o ho => ⟨(hf o ho).1.below hb, (hf o ho).2⟩⟩
  obtain ⟨g, off, e1, hg, hcs⟩ := hc h0
  have key : ∀ k, W'.cell? ⟨g, k, none⟩ = W.cell? ⟨g, k, none⟩ := fun k => hb.cell (p := ⟨g, k, none⟩) hg
  refine ⟨g, off, e1, hg, fun i o hi => ?_⟩
  obtain ⟨q0, q1, q2, q3⟩ := hcs i o hi
  exact ⟨(key _).trans q0, (key _).trans q1, (key _).trans q2, (key _).trans q3⟩

theorem made1 (n k : Nat) (hk : k < n) : (madeCells #[Value.int .i64 0] n).toList[k]? = some (.int .i64 ((0 : Nat) : Int)) := by
  have e1 : (madeCells #[Value.int .i64 0] n).toList[k]? = (madeCells #[Value.int .i64 0] n)[k]? := by simp
  rw [e1]
  unfold madeCells
  rw [Array.getElem?_map, Array.getElem?_range, if_pos hk, Option.map_some]
  have e2 : k % (#[Value.int .i64 0] : Array Value).size = 0 := by show k % 1 = 0; omega
  rw [e2]
  rfl

theorem polled_bdd {n m : Nat} {X : Rg} (h : Bdd m X.B) (h1 : 1 ≤ m) (ok : X.D.Ok) : Bdd m (X.polled n).B := by
  have rc : ∀ k, Bdd m (rcB n (X.D.rdD 6) X.c (frs n X.B (X.s.ids.take X.sent)) k) := fun k => by
    induction k with
    | zero => exact h.frs _
    | succ k ih => exact ih.st _ _
  exact (flF_ok (x := X.ready n) h1 (ok.rd 6) (rc _)).2

/-- the state of RingHolds behind k calls -/
def St (N : Nat) (W : World) (x : Nat) (q : Bl) (n hb gv pv k : Nat) (wr : World) : Prop := ∃ A Og Op X hl G P, HM A Og Op wr x q n X hb hl gv pv G P ∧ Below N W wr ∧ (∀ g, A g → N ≤ g) ∧ Bdd (k + 1) X.B ∧ ∀ i, i < n → hl i ≤ 16 * k

theorem HM.later {A Og Op : Nat → Prop} {w w' : World} {x : Nat} {q : Bl} {n : Nat} {X : Rg} {hb : Nat} {hl : Nat → Nat} {gv pv : Nat} {G P : List (List Int)} (h : HM A Og Op w x q n X hb hl gv pv G P) (hB : Below w.heap.size w w') : HM A Og Op w' x q n X hb hl gv pv G P :=
  ⟨h.rig.later hB, h.held.later hB, h.hd, h.rg.later hB, h.rp.later hB, fun g hg => Nat.lt_of_lt_of_le (h.lt g hg) hB.size, h.ah, h.og, h.op, h.hq⟩
/-- the program's side has turned -/
theorem HM.did {A Og Op : Nat → Prop} {w w' : World} {x : Nat} {q : Bl} {n : Nat} {X X' : Rg} {hb : Nat} {hl : Nat → Nat} {gv pv : Nat} {G P G' P' : List (List Int)} (h : HM A Og Op w x q n X hb hl gv pv G P) (hB : But (PK q) w w') (hR : RigP A w' x q n X'.D X'.B X'.s X'.c) (hD : Hd n X' hl G' P') (eG : G' = G) (eP : P' = P) : HM A Og Op w' x q n X' hb hl gv pv G' P' := by
  subst eG eP
  have bPA : ∀ g, PK q g → A g := fun g e => by
    rcases e with e | e | e
    · rw [e]; exact h.rig.p.dev.mem
    · rw [e]; exact h.rig.p.ag
    · rw [e]; exact h.rig.p.ar
  exact ⟨hR, h.held.but hB h.hq.1, hD, h.rg.but hB bPA (fun g hg e => (h.og g hg).2.1 e), h.rp.but hB bPA (fun g hg e => (h.op g hg).1 e), fun g hg => Nat.lt_of_lt_of_le (h.lt g hg) hB.size, h.ah, h.og, h.op, h.hq⟩
/-- a buffer and the count have turned -/
theorem HM.took {A Og Op : Nat → Prop} {w w' : World} {x : Nat} {q : Bl} {n : Nat} {X X' : Rg} {hb : Nat} {hl hl' : Nat → Nat} {gv pv : Nat} {G P : List (List Int)} (h : HM A Og Op w x q n X hb hl gv pv G P) (hB : But (fun g => g = q.g ∨ g = hb) w w') (hR : RigP A w' x q n X'.D X'.B X'.s X'.c) (hH : HeldAt w' hb n hl') (hD : Hd n X' hl' G P) : HM A Og Op w' x q n X' hb hl' gv pv G P := by
  have bPA : ∀ g, (g = q.g ∨ g = hb) → A g := fun g e => e.elim (fun e => e ▸ h.rig.p.ag) (fun e => e ▸ h.ah)
  exact ⟨hR, hH, hD, h.rg.but hB bPA (fun g hg e => e.elim (fun e => (h.og g hg).2.1 (.inr (.inl e))) (fun e => (h.og g hg).2.2.2.1 e)), h.rp.but hB bPA (fun g hg e => e.elim (fun e => (h.op g hg).1 (.inr (.inl e))) (fun e => (h.op g hg).2.2.1 e)), fun g hg => Nat.lt_of_lt_of_le (h.lt g hg) hB.size, h.ah, h.og, h.op, h.hq⟩

theorem PK_A {A Og Op : Nat → Prop} {w : World} {x : Nat} {q : Bl} {n : Nat} {X : Rg} {hb : Nat} {hl : Nat → Nat} {gv pv : Nat} {G P : List (List Int)} (h : HM A Og Op w x q n X hb hl gv pv G P) (g : Nat) (e : PK q g) : A g := by
  rcases e with e | e | e
  · rw [e]; exact h.rig.p.dev.mem
  · rw [e]; exact h.rig.p.ag
  · rw [e]; exact h.rig.p.ar

/-- one more text behind what was given -/
theorem HM.pushG {A Og Op : Nat → Prop} {w w' : World} {x : Nat} {q : Bl} {n : Nat} {X X' : Rg} {hb : Nat} {hl : Nat → Nat} {gv pv : Nat} {G P : List (List Int)} (M : HM A Og Op w x q n X hb hl gv pv G P) (bW : But (PK q) w w') (hR : RigP A w' x q n X'.D X'.B X'.s X'.c) (u : Value) (f : List Int) (hu : IsF A w' u f) (hd' : Hd n X' hl (G ++ [f]) P) (hgl : G.length ≤ 15) :
    ∃ a cap val w2, w'.cell? ⟨gv, 0, none⟩ = some (.slice a G.length cap) ∧ (Builtin.append_ #[32, 32] 32 #[.slice a G.length cap, .slice (some ⟨w'.heap.size, 0, none⟩) 1 1]).run Try.prog (w'.alloc (.cells #[u] 27)) = .ok val w2 ∧ (∃ a' c', val = .slice a' (G.length + 1) c') ∧ w2.cell? ⟨gv, 0, none⟩ = some (.slice a G.length cap) ∧ w2.frozen? ⟨gv, 0, none⟩ = false ∧
      (∃ A' Og', HM A' Og' Op (w2.setCell ⟨gv, 0, none⟩ val) x q n X' hb hl gv pv (G ++ [f]) P ∧ ∀ g, A' g → A g ∨ w'.heap.size ≤ g) ∧ But A w' (w2.setCell ⟨gv, 0, none⟩ val) := by
  have lt' : ∀ g, A g → g < w'.heap.size := fun g hg => Nat.lt_of_lt_of_le (M.lt g hg) bW.size
  have rg' := M.rg.but bW (PK_A M) (fun g hg e => (M.og g hg).2.1 e)
  have rp' := M.rp.but bW (PK_A M) (fun g hg e => (M.op g hg).1 e)
  obtain ⟨a, cap, val, w2, c1, hrun, hv, c2, f2, hrow, bO, bO2⟩ := rg'.push lt' u f hu (by omega)
  have nO : ∀ {y}, Og y → ¬ PK q y := fun h => (M.og _ h).2.1
  have hAW : ∀ g, g < w'.heap.size → (A g ∨ w'.heap.size ≤ g ∧ g < w2.heap.size) → A g := fun g hg e => e.elim id (fun e => by omega)
  have sz2 : w2.heap.size ≤ (w2.setCell ⟨gv, 0, none⟩ val).heap.size := ((But.refl (Only gv) w2).cellb 0 val).size
  refine ⟨a, cap, val, w2, c1, hrun, hv, c2, f2, ⟨_, _, ⟨?_, ?_, hd', hrow, ?_, ?_, .inl M.ah, ?_, M.op, M.hq⟩, fun g e => e.elim .inl (fun e => .inr e.1)⟩, bO.mono (fun g e => M.rg.oa g e)⟩
  · exact (hR.avoid hAW (.inl hR.p.dev.mem) (.inl hR.p.ag) (.inl hR.p.ar)).but bO (fun g e => .inl (M.rg.oa g e)) (fun e => nO e (.inl rfl)) (fun e => (M.og _ e).2.2.2.2 rfl) (fun e => nO e (.inr (.inl rfl))) (fun e => nO e (.inr (.inr rfl))) (fun e => (M.og _ e).2.2.1 rfl)
  · exact (M.held.but bW M.hq.1).but bO (fun e => (M.og _ e).2.2.2.1 rfl)
  · exact (rp'.avoid hAW (fun g e => .inl (M.rp.oa g e))).but bO (fun g e => .inl (M.rg.oa g e)) (fun g hg e => (M.og g e).1 hg)
  · intro g e
    rcases e with e | e
    · exact Nat.lt_of_lt_of_le (lt' g e) bO.size
    · omega
  · intro g e
    rcases e with e | e
    · exact M.og g e
    · refine ⟨fun e2 => by have := lt' g (M.rp.oa g e2); omega, fun e2 => by have := lt' g (PK_A M g e2); omega, by have := hR.xlt; omega, by have := lt' hb M.ah; omega, by have := hR.p.pool.blt; omega⟩

/-- one more text behind what was posted -/
theorem HM.pushP {A Og Op : Nat → Prop} {w w' : World} {x : Nat} {q : Bl} {n : Nat} {X X' : Rg} {hb : Nat} {hl : Nat → Nat} {gv pv : Nat} {G P : List (List Int)} (M : HM A Og Op w x q n X hb hl gv pv G P) (bW : But (PK q) w w') (hR : RigP A w' x q n X'.D X'.B X'.s X'.c) (u : Value) (f : List Int) (hu : IsF A w' u f) (hd' : Hd n X' hl G (P ++ [f])) (hgl : P.length ≤ 15) :
    ∃ a cap val w2, w'.cell? ⟨pv, 0, none⟩ = some (.slice a P.length cap) ∧ (Builtin.append_ #[32, 32] 32 #[.slice a P.length cap, .slice (some ⟨w'.heap.size, 0, none⟩) 1 1]).run Try.prog (w'.alloc (.cells #[u] 27)) = .ok val w2 ∧ (∃ a' c', val = .slice a' (P.length + 1) c') ∧ w2.cell? ⟨pv, 0, none⟩ = some (.slice a P.length cap) ∧ w2.frozen? ⟨pv, 0, none⟩ = false ∧
      (∃ A' Op', HM A' Og Op' (w2.setCell ⟨pv, 0, none⟩ val) x q n X' hb hl gv pv G (P ++ [f]) ∧ ∀ g, A' g → A g ∨ w'.heap.size ≤ g) ∧ But A w' (w2.setCell ⟨pv, 0, none⟩ val) := by
  have lt' : ∀ g, A g → g < w'.heap.size := fun g hg => Nat.lt_of_lt_of_le (M.lt g hg) bW.size
  have rg' := M.rg.but bW (PK_A M) (fun g hg e => (M.og g hg).2.1 e)
  have rp' := M.rp.but bW (PK_A M) (fun g hg e => (M.op g hg).1 e)
  obtain ⟨a, cap, val, w2, c1, hrun, hv, c2, f2, hrow, bO, bO2⟩ := rp'.push lt' u f hu (by omega)
  have nO : ∀ {y}, Op y → ¬ PK q y := fun h => (M.op _ h).1
  have hAW : ∀ g, g < w'.heap.size → (A g ∨ w'.heap.size ≤ g ∧ g < w2.heap.size) → A g := fun g hg e => e.elim id (fun e => by omega)
  have sz2 : w2.heap.size ≤ (w2.setCell ⟨pv, 0, none⟩ val).heap.size := ((But.refl (Only pv) w2).cellb 0 val).size
  refine ⟨a, cap, val, w2, c1, hrun, hv, c2, f2, ⟨_, _, ⟨?_, ?_, hd', ?_, hrow, ?_, .inl M.ah, ?_, ?_, M.hq⟩, fun g e => e.elim .inl (fun e => .inr e.1)⟩, bO.mono (fun g e => M.rp.oa g e)⟩
  · exact (hR.avoid hAW (.inl hR.p.dev.mem) (.inl hR.p.ag) (.inl hR.p.ar)).but bO (fun g e => .inl (M.rp.oa g e)) (fun e => nO e (.inl rfl)) (fun e => (M.op _ e).2.2.2 rfl) (fun e => nO e (.inr (.inl rfl))) (fun e => nO e (.inr (.inr rfl))) (fun e => (M.op _ e).2.1 rfl)
  · exact (M.held.but bW M.hq.1).but bO (fun e => (M.op _ e).2.2.1 rfl)
  · exact (rg'.avoid hAW (fun g e => .inl (M.rg.oa g e))).but bO (fun g e => .inl (M.rp.oa g e)) (fun g hg e => (M.og g hg).1 e)
  · intro g e
    rcases e with e | e
    · exact Nat.lt_of_lt_of_le (lt' g e) bO.size
    · omega
  · intro g e
    obtain ⟨e1, e2, e3, e4, e5⟩ := M.og g e
    exact ⟨fun h => h.elim e1 (fun h => by have := lt' g (M.rg.oa g e); omega), e2, e3, e4, e5⟩
  · intro g e
    rcases e with e | e
    · exact M.op g e
    · refine ⟨fun e2 => by have := lt' g (PK_A M g e2); omega, by have := hR.xlt; omega, by have := lt' hb M.ah; omega, by have := hR.p.pool.blt; omega⟩

/-- the first text that was posted is gone -/
theorem HM.popP {A Og Op : Nat → Prop} {w w' : World} {x : Nat} {q : Bl} {n : Nat} {X X' : Rg} {hb : Nat} {hl : Nat → Nat} {gv pv : Nat} {G P : List (List Int)} {f : List Int} (M : HM A Og Op w x q n X hb hl gv pv G (f :: P)) (bW : But (PK q) w w') (hR : RigP A w' x q n X'.D X'.B X'.s X'.c) (hd' : Hd n X' hl G P) :
    ∃ g off cap ua uc, w'.cell? ⟨pv, 0, none⟩ = some (.slice (some ⟨g, off, none⟩) (P.length + 1) cap) ∧ P.length + 1 ≤ cap ∧ cap ≤ maxLen ∧ w'.cell? ⟨g, off, none⟩ = some (.slice ua f.length uc) ∧ IsF A w' (.slice ua f.length uc) f ∧ w'.frozen? ⟨pv, 0, none⟩ = false ∧
      ∀ a', (1 < cap → a' = ⟨g, off + 1, none⟩) → HM A Og Op (w'.setCell ⟨pv, 0, none⟩ (.slice (some a') P.length (cap - 1))) x q n X' hb hl gv pv G P ∧ But A w' (w'.setCell ⟨pv, 0, none⟩ (.slice (some a') P.length (cap - 1))) := by
  have rg' := M.rg.but bW (PK_A M) (fun g hg e => (M.og g hg).2.1 e)
  have rp' := M.rp.but bW (PK_A M) (fun g hg e => (M.op g hg).1 e)
  obtain ⟨g, off, cap, u, c1, c2, c3, c4, c5, c6, c7, c8, c9⟩ := rp'.first
  obtain ⟨ua, uc, rfl, _⟩ := c5.shape
  refine ⟨g, off, cap, ua, uc, c1, c2, c3, c4, c5, rp'.vf, fun a' ha => ?_⟩
  have bO : But (Only pv) w' (w'.setCell ⟨pv, 0, none⟩ (.slice (some a') P.length (cap - 1))) := (But.refl _ _).cellb _ _
  have op := M.op pv M.rp.ov
  have KA : ∀ y, Only pv y → A y := fun y e => by have e : y = pv := e; rw [e]; exact M.rp.oa pv M.rp.ov
  refine ⟨⟨hR.but bO KA (fun e => op.1 (.inl (Eq.symm e))) (fun e => op.2.2.2 (Eq.symm e)) (fun e => op.1 (.inr (.inl (Eq.symm e)))) (fun e => op.1 (.inr (.inr (Eq.symm e)))) (fun e => op.2.1 (Eq.symm e)), (M.held.but bW M.hq.1).but bO (fun e => op.2.2.1 (Eq.symm e)), hd', rg'.but bO KA (fun y hy e => (M.og y hy).1 (by have e : y = pv := e; rw [e]; exact M.rp.ov)), c9 a' ha, fun y hy => Nat.lt_of_lt_of_le (M.lt y hy) (Nat.le_trans bW.size bO.size), M.ah, M.og, M.op, M.hq⟩, bO.mono KA⟩

theorem step_app {ops : Array Oper} {o : Oper} {a : Act} {w : World} {K : Act → World → Prop} {Q : Exit → Act → World → Prop} {E : Prop} (hg : o.guard = none) (T : TypeId) (s x : Operand)
    (hop : o.op = Op.call { callee := Callee.builtin Builtin.append, args := #[s, x], argTypes := #[T, T] }) (hty : o.type = T) (v1 v2 v' : Value) (w' : World) (hs : a.eval s = v1) (hx : a.eval x = v2)
    (hrun : (Builtin.append_ #[T, T] T #[v1, v2]).run Try.prog w = .ok v' w') (hK : K (a.put o.dst v') w') :
    if Region.wanted o (yielded ops a.tmps) = true then Oper.wp Try.prog o a w K Q else E := by
  have hw : Region.wanted o (yielded ops a.tmps) = true := by simp [Region.wanted, hg]
  rw [if_pos hw]
  unfold Oper.wp
  simp only [execOp, hop, hty]
  simp [resolve, invoke, builtin, hs, hx, hrun, Result.andThen]
  exact hK

theorem see1 {w5 w13 : World} {D H : Value} {hd dt : List Int} {Y : Nat → Prop} (ih : IsF Y w13 H hd) (it : IsF Y w13 D dt) (hY : ∀ g, g < w5.heap.size → Y g) (b13 : Below w5.drew.heap.size w5 w13) (rf : Int) :
    Below w5.heap.size w5 (w13.alloc (.cells #[.int .i64 rf, H, D] 35)) ∧ (w13.alloc (.cells #[.int .i64 rf, H, D] 35)).cell? ⟨w13.heap.size, 1, none⟩ = some H ∧ (w13.alloc (.cells #[.int .i64 rf, H, D] 35)).cell? ⟨w13.heap.size, 2, none⟩ = some D ∧ IsF (fun g => g < w5.heap.size) (w13.alloc (.cells #[.int .i64 rf, H, D] 35)) H hd ∧ IsF (fun g => g < w5.heap.size) (w13.alloc (.cells #[.int .i64 rf, H, D] 35)) D dt ∧ w5.heap.size ≤ w13.heap.size := by
  have bz : But (fun _ => False) w13 (w13.alloc (.cells #[.int .i64 rf, H, D] 35)) := (But.refl _ _).alloc _
  have cz : ∀ j v, (#[.int .i64 rf, H, D] : Array Value)[j]? = some v → (w13.alloc (.cells #[.int .i64 rf, H, D] 35)).cell? ⟨w13.heap.size, j, none⟩ = some v := fun j v hv => by
    rw [cell_of_row _ w13.heap.size j _ 35 (0, 0) (heap_alloc_new w13 _)]; exact hv
  exact ⟨b13.alloc b13.size _, cz 1 _ rfl, cz 2 _ rfl, (ih.avoid (fun g _ e => hY g e)).but bz (fun _ e => e.elim), (it.avoid (fun g _ e => hY g e)).but bz (fun _ e => e.elim), b13.size⟩
theorem see3 {w5 w13 : World} {D H : Value} {hd dt : List Int} {Z : Array Value} {t : TypeId} (ih : IsF (fun g => g < (w5.alloc (.cells Z t)).drew.heap.size) w13 H hd) (it : IsF (fun g => g < (w5.alloc (.cells Z t)).drew.heap.size) w13 D dt) (b13 : Below (w5.alloc (.cells Z t)).drew.heap.size (w5.alloc (.cells Z t)) w13) (B0 : Below w5.heap.size w5 (w5.alloc (.cells Z t))) (t13 : PTri w13 w5.heap.size) (rf : Int) :
    Below w5.heap.size w5 (((w13.setCell ⟨w5.heap.size, 0, none⟩ (.int .i64 rf)).setCell ⟨w5.heap.size, 1, none⟩ H).setCell ⟨w5.heap.size, 2, none⟩ D) ∧ (((w13.setCell ⟨w5.heap.size, 0, none⟩ (.int .i64 rf)).setCell ⟨w5.heap.size, 1, none⟩ H).setCell ⟨w5.heap.size, 2, none⟩ D).cell? ⟨w5.heap.size, 1, none⟩ = some H ∧ (((w13.setCell ⟨w5.heap.size, 0, none⟩ (.int .i64 rf)).setCell ⟨w5.heap.size, 1, none⟩ H).setCell ⟨w5.heap.size, 2, none⟩ D).cell? ⟨w5.heap.size, 2, none⟩ = some D ∧ IsF (fun g => g < w5.heap.size) (((w13.setCell ⟨w5.heap.size, 0, none⟩ (.int .i64 rf)).setCell ⟨w5.heap.size, 1, none⟩ H).setCell ⟨w5.heap.size, 2, none⟩ D) H hd ∧ IsF (fun g => g < w5.heap.size) (((w13.setCell ⟨w5.heap.size, 0, none⟩ (.int .i64 rf)).setCell ⟨w5.heap.size, 1, none⟩ H).setCell ⟨w5.heap.size, 2, none⟩ D) D dt ∧ w5.heap.size ≤ w5.heap.size := by
  obtain ⟨a, b, c, _⟩ := tol3 it b13 B0 t13 rf H D
  have hs : (w5.alloc (.cells Z t)).drew.heap.size = w5.heap.size + 1 := by show (w5.alloc (.cells Z t)).heap.size = _; simp
  have b1 : But (Only w5.heap.size) w13 (((w13.setCell ⟨w5.heap.size, 0, none⟩ (.int .i64 rf)).setCell ⟨w5.heap.size, 1, none⟩ H).setCell ⟨w5.heap.size, 2, none⟩ D) := (((But.refl _ _).cellb _ _).cellb _ _).cellb _ _
  have kb : ∀ g, Only w5.heap.size g → g < (w5.alloc (.cells Z t)).drew.heap.size := fun g e => by have e : g = w5.heap.size := e; omega
  exact ⟨a, b, c, (ih.but b1 kb).avoid (fun g _ e => by omega), (it.but b1 kb).avoid (fun g _ e => by omega), Nat.le_refl _⟩

theorem St_counted {N : Nat} {W : World} {x : Nat} {q : Bl} {n hb gv pv k : Nat} {w : World} (h : St N W x q n hb gv pv k w) (hk : k ≤ 2932031007318) (hN : N ≤ W.heap.size) :
    Calls Try.prog 18 #[.pointer (some ⟨x, 0, none⟩), .slice (some ⟨hb, 0, none⟩) n n] w fun e w' => e = .returned (.bool true) ∧ St N W x q n hb gv pv k w' := by
  obtain ⟨A, Og, Op, X, hl, G, P, hM, hB, hge, hbd, hhl⟩ := h
  refine (counted_any hM.rig hM.held hM.hd (fun i hi => by have := hhl i hi; omega)).mono ?_
  rintro e w' ⟨rfl, bz⟩
  exact ⟨rfl, A, Og, Op, X, hl, G, P, hM.later bz, hB.trans (bz.mono (Nat.le_trans hN hB.size)), hge, hbd, hhl⟩
end Go.Proofs.Ytjkfjijnjkpbbaa
