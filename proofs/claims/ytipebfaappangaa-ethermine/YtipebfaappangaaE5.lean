
/-
  Package ether: the contract of head.
-/
import Derived.Test.YtipebfaappangaaE4
import Derived.Deep.RegionLaw
namespace Go.Proofs.Ytipebfaappangaa
open Go.RowKit

theorem wp_copy {w : World} {o : Oper} {a : Act} {K : Act → World → Prop} {Q : Exit → Act → World → Prop} (d s : Operand) (t : TypeId)
    (ho : o.op = .call { callee := .builtin .copy, args := #[d, s], argTypes := #[t, t] }) (v u : Value) (hd : a.eval d = v) (hs : a.eval s = u) {v' : Value} {w' : World}
    (hr : (Builtin.copy_ #[t, t] o.type #[v, u]).run Try.prog w = .ok v' w') (h : K (a.put o.dst v') w') : o.wp Try.prog a w K Q := by
  unfold Oper.wp execOp
  simp only [ho, resolve, invoke, builtin, Sem.run_bind, Sem.run_pure, Result.andThen_ok, List.map_toArray, List.map_cons, List.map_nil, hd, hs, hr]
  exact h
theorem step_copy {ops : Array Oper} {o : Oper} {a : Act} {w : World} {K : Act → World → Prop} {Q : Exit → Act → World → Prop} {E : Prop}
    (hg : o.guard = none) (d x : Operand) (t : TypeId) (hop : o.op = Op.call { callee := Callee.builtin Builtin.copy, args := #[d, x], argTypes := #[t, t] })
    (v u : Value) (hd : a.eval d = v) (hx : a.eval x = u) {v' : Value} {w' : World} (hr : (Builtin.copy_ #[t, t] o.type #[v, u]).run Try.prog w = .ok v' w') (hK : K (a.put o.dst v') w') :
    if Region.wanted o (yielded ops a.tmps) = true then Oper.wp Try.prog o a w K Q else E := by
  have hw : Region.wanted o (yielded ops a.tmps) = true := by simp [Region.wanted, hg]
  rw [if_pos hw]
  exact wp_copy d x t hop v u hd hx hr hK

theorem lt16 {k : Nat} (h : k < 16) : k = 0 ∨ k = 1 ∨ k = 2 ∨ k = 3 ∨ k = 4 ∨ k = 5 ∨ k = 6 ∨ k = 7 ∨ k = 8 ∨ k = 9 ∨ k = 10 ∨ k = 11 ∨ k = 12 ∨ k = 13 ∨ k = 14 ∨ k = 15 := by omega
theorem FrAt.has {W : World} {s : Nat} {f : Fr} (h : FrAt W s f) (k : Nat) (hk : k < 16) : (W.cell? ⟨s, k, none⟩).isSome = true := by
  rcases lt16 hk with rfl | rfl | rfl | rfl | rfl | rfl | rfl | rfl | rfl | rfl | rfl | rfl | rfl | rfl | rfl | rfl
  · rw [h.c0]; rfl
  · rw [h.c1]; rfl
  · rw [h.c2]; rfl
  · rw [h.c3]; rfl
  · rw [h.c4]; rfl
  · rw [h.c5]; rfl
  · rw [h.c6]; rfl
  · rw [h.c7]; rfl
  · rw [h.c8]; rfl
  · rw [h.c9]; rfl
  · rw [h.c10]; rfl
  · rw [h.c11]; rfl
  · rw [h.c12]; rfl
  · rw [h.c13]; rfl
  · rw [h.c14]; rfl
  · rw [h.c15]; rfl

def M6.vals (m : M6) : List Value := [.int .u8 m.a, .int .u8 m.b, .int .u8 m.c, .int .u8 m.d, .int .u8 m.e, .int .u8 m.f]
theorem FrAt.setDst {W : World} {s : Nat} {f : Fr} (h : FrAt W s f) (m : M6) : FrAt (W.setCells s 0 m.vals) s { f with dst := m } := by
  have hi := World.cell?_setCells_in s m.vals 0 W (fun j hj => h.has _ (by have : j < 6 := hj; omega))
  have ho : ∀ k, k < 0 ∨ 6 ≤ k → (W.setCells s 0 m.vals).cell? ⟨s, k, none⟩ = W.cell? ⟨s, k, none⟩ := fun k hk => World.cell?_setCells_out s m.vals 0 W ⟨s, k, none⟩ (fun _ _ => hk)
  exact ⟨hi 0 (show 0 < 6 by decide), hi 1 (show 1 < 6 by decide), hi 2 (show 2 < 6 by decide), hi 3 (show 3 < 6 by decide), hi 4 (show 4 < 6 by decide), hi 5 (show 5 < 6 by decide), (ho 6 (by omega)).trans h.c6, (ho 7 (by omega)).trans h.c7, (ho 8 (by omega)).trans h.c8, (ho 9 (by omega)).trans h.c9, (ho 10 (by omega)).trans h.c10, (ho 11 (by omega)).trans h.c11, (ho 12 (by omega)).trans h.c12, (ho 13 (by omega)).trans h.c13, (ho 14 (by omega)).trans h.c14, (ho 15 (by omega)).trans h.c15, fun k => (World.frozen?_setCells ..).trans (h.fz k)⟩
theorem FrAt.setSrc {W : World} {s : Nat} {f : Fr} (h : FrAt W s f) (m : M6) : FrAt (W.setCells s 6 m.vals) s { f with src := m } := by
  have hi := World.cell?_setCells_in s m.vals 6 W (fun j hj => h.has _ (by have : j < 6 := hj; omega))
  have ho : ∀ k, k < 6 ∨ 12 ≤ k → (W.setCells s 6 m.vals).cell? ⟨s, k, none⟩ = W.cell? ⟨s, k, none⟩ := fun k hk => World.cell?_setCells_out s m.vals 6 W ⟨s, k, none⟩ (fun _ _ => hk)
  exact ⟨(ho 0 (by omega)).trans h.c0, (ho 1 (by omega)).trans h.c1, (ho 2 (by omega)).trans h.c2, (ho 3 (by omega)).trans h.c3, (ho 4 (by omega)).trans h.c4, (ho 5 (by omega)).trans h.c5, hi 0 (show 0 < 6 by decide), hi 1 (show 1 < 6 by decide), hi 2 (show 2 < 6 by decide), hi 3 (show 3 < 6 by decide), hi 4 (show 4 < 6 by decide), hi 5 (show 5 < 6 by decide), (ho 12 (by omega)).trans h.c12, (ho 13 (by omega)).trans h.c13, (ho 14 (by omega)).trans h.c14, (ho 15 (by omega)).trans h.c15, fun k => (World.frozen?_setCells ..).trans (h.fz k)⟩
theorem FrAt.set_tag {W : World} {s : Nat} {f : Fr} (h : FrAt W s f) (x : Bool) : FrAt (W.setCell ⟨s, 12, none⟩ (.bool x)) s { f with tag := x } := by
  have ho : ∀ k, k ≠ 12 → (W.setCell ⟨s, 12, none⟩ (.bool x)).cell? ⟨s, k, none⟩ = W.cell? ⟨s, k, none⟩ := fun k hk => World.cell?_setCell_other _ _ _ _ (by intro q; cases q; exact hk rfl)
  exact ⟨(ho 0 (by omega)).trans h.c0, (ho 1 (by omega)).trans h.c1, (ho 2 (by omega)).trans h.c2, (ho 3 (by omega)).trans h.c3, (ho 4 (by omega)).trans h.c4, (ho 5 (by omega)).trans h.c5, (ho 6 (by omega)).trans h.c6, (ho 7 (by omega)).trans h.c7, (ho 8 (by omega)).trans h.c8, (ho 9 (by omega)).trans h.c9, (ho 10 (by omega)).trans h.c10, (ho 11 (by omega)).trans h.c11, World.cell?_setCell_same' _ _ _ (by rw [h.c12]; rfl), (ho 13 (by omega)).trans h.c13, (ho 14 (by omega)).trans h.c14, (ho 15 (by omega)).trans h.c15, fun k => (World.frozen?_setCell ..).trans (h.fz k)⟩
theorem FrAt.set_vlan {W : World} {s : Nat} {f : Fr} (h : FrAt W s f) (x : Int) : FrAt (W.setCell ⟨s, 13, none⟩ (.int .i64 x)) s { f with vlan := x } := by
  have ho : ∀ k, k ≠ 13 → (W.setCell ⟨s, 13, none⟩ (.int .i64 x)).cell? ⟨s, k, none⟩ = W.cell? ⟨s, k, none⟩ := fun k hk => World.cell?_setCell_other _ _ _ _ (by intro q; cases q; exact hk rfl)
  exact ⟨(ho 0 (by omega)).trans h.c0, (ho 1 (by omega)).trans h.c1, (ho 2 (by omega)).trans h.c2, (ho 3 (by omega)).trans h.c3, (ho 4 (by omega)).trans h.c4, (ho 5 (by omega)).trans h.c5, (ho 6 (by omega)).trans h.c6, (ho 7 (by omega)).trans h.c7, (ho 8 (by omega)).trans h.c8, (ho 9 (by omega)).trans h.c9, (ho 10 (by omega)).trans h.c10, (ho 11 (by omega)).trans h.c11, (ho 12 (by omega)).trans h.c12, World.cell?_setCell_same' _ _ _ (by rw [h.c13]; rfl), (ho 14 (by omega)).trans h.c14, (ho 15 (by omega)).trans h.c15, fun k => (World.frozen?_setCell ..).trans (h.fz k)⟩
theorem FrAt.set_prio {W : World} {s : Nat} {f : Fr} (h : FrAt W s f) (x : Int) : FrAt (W.setCell ⟨s, 14, none⟩ (.int .i64 x)) s { f with prio := x } := by
  have ho : ∀ k, k ≠ 14 → (W.setCell ⟨s, 14, none⟩ (.int .i64 x)).cell? ⟨s, k, none⟩ = W.cell? ⟨s, k, none⟩ := fun k hk => World.cell?_setCell_other _ _ _ _ (by intro q; cases q; exact hk rfl)
  exact ⟨(ho 0 (by omega)).trans h.c0, (ho 1 (by omega)).trans h.c1, (ho 2 (by omega)).trans h.c2, (ho 3 (by omega)).trans h.c3, (ho 4 (by omega)).trans h.c4, (ho 5 (by omega)).trans h.c5, (ho 6 (by omega)).trans h.c6, (ho 7 (by omega)).trans h.c7, (ho 8 (by omega)).trans h.c8, (ho 9 (by omega)).trans h.c9, (ho 10 (by omega)).trans h.c10, (ho 11 (by omega)).trans h.c11, (ho 12 (by omega)).trans h.c12, (ho 13 (by omega)).trans h.c13, World.cell?_setCell_same' _ _ _ (by rw [h.c14]; rfl), (ho 15 (by omega)).trans h.c15, fun k => (World.frozen?_setCell ..).trans (h.fz k)⟩
theorem FrAt.set_ty {W : World} {s : Nat} {f : Fr} (h : FrAt W s f) (x : Int) : FrAt (W.setCell ⟨s, 15, none⟩ (.int .i64 x)) s { f with ty := x } := by
  have ho : ∀ k, k ≠ 15 → (W.setCell ⟨s, 15, none⟩ (.int .i64 x)).cell? ⟨s, k, none⟩ = W.cell? ⟨s, k, none⟩ := fun k hk => World.cell?_setCell_other _ _ _ _ (by intro q; cases q; exact hk rfl)
  exact ⟨(ho 0 (by omega)).trans h.c0, (ho 1 (by omega)).trans h.c1, (ho 2 (by omega)).trans h.c2, (ho 3 (by omega)).trans h.c3, (ho 4 (by omega)).trans h.c4, (ho 5 (by omega)).trans h.c5, (ho 6 (by omega)).trans h.c6, (ho 7 (by omega)).trans h.c7, (ho 8 (by omega)).trans h.c8, (ho 9 (by omega)).trans h.c9, (ho 10 (by omega)).trans h.c10, (ho 11 (by omega)).trans h.c11, (ho 12 (by omega)).trans h.c12, (ho 13 (by omega)).trans h.c13, (ho 14 (by omega)).trans h.c14, World.cell?_setCell_same' _ _ _ (by rw [h.c15]; rfl), fun k => (World.frozen?_setCell ..).trans (h.fz k)⟩

theorem aggF (w : World) : (isAgg 25).run Try.prog w = .ok true w := by kernel_rfl
theorem sizF (w : World) : (Go.sizeOf 25).run Try.prog w = .ok 16 w := by kernel_rfl

theorem FrAt.loads {W : World} {s : Nat} {f : Fr} (h : FrAt W s f) : (loadCells ⟨s, 0, none⟩ 16).run Try.prog W = .ok f.cells W := by
  have := run_loadCells_list (P := Try.prog) W ⟨s, 0, none⟩ f.cells.toList (fun j v hv => by
    have hj : j < 16 := by have := (List.getElem?_eq_some_iff.1 hv).1; simpa [Fr.cells] using this
    rw [Addr.add_lit, Nat.zero_add, ← hv]
    rcases lt16 hj with rfl | rfl | rfl | rfl | rfl | rfl | rfl | rfl | rfl | rfl | rfl | rfl | rfl | rfl | rfl | rfl
    · exact h.c0
    · exact h.c1
    · exact h.c2
    · exact h.c3
    · exact h.c4
    · exact h.c5
    · exact h.c6
    · exact h.c7
    · exact h.c8
    · exact h.c9
    · exact h.c10
    · exact h.c11
    · exact h.c12
    · exact h.c13
    · exact h.c14
    · exact h.c15)
  exact this
theorem FrAt.stored {W : World} {s : Nat} {g : Fr} (h : FrAt W s g) (f : Fr) : FrAt (W.setCells s 0 f.cells.toList) s f := by
  have hs : ∀ j, j < f.cells.toList.length → (W.cell? ⟨s, 0 + j, none⟩).isSome = true := fun j hj => h.has _ (by have : j < 16 := hj; omega)
  exact ⟨(World.cell?_setCells_in s f.cells.toList 0 W hs 0 (show 0 < 16 by decide)), (World.cell?_setCells_in s f.cells.toList 0 W hs 1 (show 1 < 16 by decide)), (World.cell?_setCells_in s f.cells.toList 0 W hs 2 (show 2 < 16 by decide)), (World.cell?_setCells_in s f.cells.toList 0 W hs 3 (show 3 < 16 by decide)), (World.cell?_setCells_in s f.cells.toList 0 W hs 4 (show 4 < 16 by decide)), (World.cell?_setCells_in s f.cells.toList 0 W hs 5 (show 5 < 16 by decide)), (World.cell?_setCells_in s f.cells.toList 0 W hs 6 (show 6 < 16 by decide)), (World.cell?_setCells_in s f.cells.toList 0 W hs 7 (show 7 < 16 by decide)), (World.cell?_setCells_in s f.cells.toList 0 W hs 8 (show 8 < 16 by decide)), (World.cell?_setCells_in s f.cells.toList 0 W hs 9 (show 9 < 16 by decide)), (World.cell?_setCells_in s f.cells.toList 0 W hs 10 (show 10 < 16 by decide)), (World.cell?_setCells_in s f.cells.toList 0 W hs 11 (show 11 < 16 by decide)), (World.cell?_setCells_in s f.cells.toList 0 W hs 12 (show 12 < 16 by decide)), (World.cell?_setCells_in s f.cells.toList 0 W hs 13 (show 13 < 16 by decide)), (World.cell?_setCells_in s f.cells.toList 0 W hs 14 (show 14 < 16 by decide)), (World.cell?_setCells_in s f.cells.toList 0 W hs 15 (show 15 < 16 by decide)), fun k => (World.frozen?_setCells ..).trans (h.fz k)⟩
theorem FrAt.stores {W : World} {s : Nat} {g : Fr} (h : FrAt W s g) (f : Fr) : (storeCells ⟨s, 0, none⟩ f.cells.toList 0).run Try.prog W = .ok () (W.setCells s 0 f.cells.toList) := by
  have := run_storeCells_cells (P := Try.prog) s 0 f.cells.toList 0 W (fun j hj => h.has _ (by have : j < 16 := hj; omega)) (fun j hj => h.fz _)
    (by simp [Fr.cells, Value.oneCell'])
  simpa using this

/-- a whole head is loaded, is stored, is answered -/
theorem wpList_load_fr {ops : Array Oper} {rest : List Oper} {o : Oper} {a : Act} {w : World} {Q : Exit → Act → World → Prop} (hgd : o.guard = none) (x : Operand) (ho : o.op = .load 25 x)
    (s : Nat) (hx : a.eval x = .pointer (some ⟨s, 0, none⟩)) (f : Fr) (hg : FrAt w s f)
    (h : wpList Try.prog ops Q rest (a.put o.dst f.val) w) : wpList Try.prog ops Q (o :: rest) a w := by
  refine wpList_plain hgd fun K hK => ?_
  unfold Oper.wp execOp
  simp only [ho, hx, Instr.loadAt, Instr.sureAddr, loadVar, Sem.run_bind, Sem.run_pure, Result.andThen_ok, aggF, sizF, if_true, hg.loads]
  exact hK _ _ h
theorem wpList_store_fr {ops : Array Oper} {rest : List Oper} {o : Oper} {a : Act} {w : World} {Q : Exit → Act → World → Prop} (hgd : o.guard = none) (x y : Operand) (ho : o.op = .store 25 x y)
    (s : Nat) (hx : a.eval x = .pointer (some ⟨s, 0, none⟩)) (f g : Fr) (hy : a.eval y = f.val) (hg : FrAt w s g)
    (h : ∀ W', FrAt W' s f → But (Only s) w W' → wpList Try.prog ops Q rest (a.put o.dst undef) W') : wpList Try.prog ops Q (o :: rest) a w := by
  refine wpList_plain hgd fun K hK => ?_
  unfold Oper.wp execOp
  have hl : f.cells.size = 16 := rfl
  simp only [ho, hx, hy, Fr.val, Instr.storeAt, Instr.sureAddr, storeVar, Sem.run_bind, Sem.run_pure, Result.andThen_ok, sizF, Value.cells, hl, ne_eq, not_true, if_false, hg.stores f]
  exact hK _ _ (h _ (hg.stored f) (But.cells s _ 0 w))
theorem FrAt.load {W : World} {s : Nat} {f : Fr} (h : FrAt W s f) : (loadVar 25 ⟨s, 0, none⟩).run Try.prog W = .ok f.val W := by
  simp only [loadVar, Sem.run_bind, Sem.run_pure, Result.andThen_ok, aggF, sizF, if_true, h.loads]
  rfl

/-- are two heads the same? -/
def eqF (f g : Fr) : Bool := decide (f = g)
theorem eqF_self (f : Fr) : eqF f f = true := decide_eq_true rfl
theorem eq_guard (w : World) (op : BinOp) (x y : Operand) (f g : Fr) : (eqGuard op 25 x y f.val g.val).run Try.prog w = .ok () w := run_eqGuard_agg w op _ x y _ _ (by kernel_rfl)
theorem eq_frame (w : World) (f g : Fr) : (Op.equalIn 10000 25 f.val g.val).run Try.prog w = .ok (eqF f g) w := by
  obtain ⟨⟨a, b, c, d, e, k⟩, ⟨a1, b1, c1, d1, e1, k1⟩, t, v, p, y⟩ := f
  obtain ⟨⟨a', b', c', d', e', k'⟩, ⟨a1', b1', c1', d1', e1', k1'⟩, t', v', p', y'⟩ := g
  have EM := eq_mac
  have E : eqF ⟨⟨a, b, c, d, e, k⟩, ⟨a1, b1, c1, d1, e1, k1⟩, t, v, p, y⟩ ⟨⟨a', b', c', d', e', k'⟩, ⟨a1', b1', c1', d1', e1', k1'⟩, t', v', p', y'⟩ = (eqM ⟨a, b, c, d, e, k⟩ ⟨a', b', c', d', e', k'⟩ && (eqM ⟨a1, b1, c1, d1, e1, k1⟩ ⟨a1', b1', c1', d1', e1', k1'⟩ && (t == t' && (v == v' && (p == p' && y == y'))))) := by
    rw [Bool.eq_iff_iff]
    simp [eqF, eqM]
  rw [E]
  simp [Fr.val, Fr.cells, go_sem, EM]
  generalize eqM ⟨a, b, c, d, e, k⟩ ⟨a', b', c', d', e', k'⟩ = x1
  generalize eqM ⟨a1, b1, c1, d1, e1, k1⟩ ⟨a1', b1', c1', d1', e1', k1'⟩ = x2
  cases x1 <;> cases x2
  all_goals simp
  repeat' split
  all_goals simp [*]
theorem eq_eql (w : World) (f g : Fr) : (binOp .eql 25 f.val g.val).run Try.prog w = .ok (.bool (eqF f g)) w := by
  have := run_eql_struct (P := Try.prog) w 25 f.cells g.cells
  have e := eq_frame w f g
  unfold Fr.val at e ⊢
  rw [this, e]
  rfl
theorem eq_neq (w : World) (f g : Fr) : (binOp .neq 25 f.val g.val).run Try.prog w = .ok (.bool (!eqF f g)) w := by
  have := run_neq_struct (P := Try.prog) w 25 f.cells g.cells
  have e := eq_frame w f g
  unfold Fr.val at e ⊢
  rw [this, e]
  rfl

/-- the address in six bytes from k on -/
def macAt (bs : List Int) (k : Nat) : M6 := ⟨nb bs k, nb bs (k + 1), nb bs (k + 2), nb bs (k + 3), nb bs (k + 4), nb bs (k + 5)⟩

theorem mac_copy {A : Nat → Prop} {w : World} {a : Option Addr} {n cap : Nat} {bs : List Int} (h : IsF A w (.slice a n cap) bs) (hl : 6 ≤ bs.length) {s : Nat} {f : Fr} (hf : FrAt w s f) (o : Nat) (ho : o + 6 ≤ 16) :
    (Builtin.copy_ #[26, 26] 3 #[.slice (some ⟨s, o, none⟩) 6 6, .slice a n cap]).run Try.prog w = .ok (.int .i64 6) (w.setCells s o (macAt bs 0).vals) := by
  obtain ⟨a', cap', e, hlc, hn, hc⟩ := h
  simp only [Value.slice.injEq] at e
  obtain ⟨rfl, rfl, rfl⟩ := e
  obtain ⟨b, q, rfl, _, _, hcs⟩ := hc (by omega)
  have hm : Nat.min bs.length 6 = 6 := Nat.min_eq_right hl
  have := run_copy_cells (P := Try.prog) w 26 26 3 5 s o 6 6 ⟨b, q, none⟩ bs.length cap (macAt bs 0).vals Try.underlying26 size_u8 (by rw [hm]; rfl)
    (fun j v hv => by
      have hj : j < 6 := by have := (List.getElem?_eq_some_iff.1 hv).1; simpa [M6.vals] using this
      rw [Addr.add_lit, hcs j (by omega), ← hv]
      have hj' : j = 0 ∨ j = 1 ∨ j = 2 ∨ j = 3 ∨ j = 4 ∨ j = 5 := by omega
      rcases hj' with rfl | rfl | rfl | rfl | rfl | rfl <;> rfl) (fun j hj => hf.has _ (by have : j < 6 := hj; omega)) (fun j _ => hf.fz _) (by simp [M6.vals, Value.oneCell'])
  rw [this]
  rfl

/-- the head of a frame, and whether the bit is set that no tag may set -/
def hdF (bs : List Int) : Fr := if w16 bs 12 = 33024 then ⟨macAt bs 0, macAt bs 6, true, w16 bs 14 % 4096, w16 bs 14 / 8192, w16 bs 16⟩ else ⟨macAt bs 0, macAt bs 6, false, 0, 0, w16 bs 12⟩
def hdU (bs : List Int) : Bool := decide (w16 bs 12 = 33024) && decide (w16 bs 14 / 4096 % 2 = 1)

end Go.Proofs.Ytipebfaappangaa
