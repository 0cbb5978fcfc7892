
/-
  A region that draws its order and only reads, or calls what leaves all that was there: one walk in the order of the text, in a class of worlds.
-/
import Derived.Test.YtipebfaappangaaE10
import Derived.Test.YtipebfaappangaaE3
namespace Go.Proofs.Ytipebfaappangaa
open Go.RowKit

section
variable {P : Program} {C : World → Prop} {o : Oper} {a : Act} {K : Act → Prop}

theorem region_quiet_C {id : Nat} {Q : Exit → Act → World → Prop} {w : World} {l : List Oper} (C : World → Prop) (hm : P.follows .mixedOrders = true) (hB : Region.lexB .any l.toArray = true) (hC : C w.drew)
    (h : wpQuiet P l.toArray C (fun a' => ∀ w', C w' → Q .normal a' w') l a) : (Code.region id l.toArray true).wp P Q a w :=
  wp_region_quiet (C := C) hm hB hC (by simpa using h)
theorem quiet_pure (v : Value) (hx : ∀ W, C W → (execOp a.eval o).run P W = .ok (.value v) W) (h : K (a.put o.dst v)) : o.quiet P a C K :=
  ⟨v, fun W hW => by unfold Oper.quietAt; rw [hx W hW]; exact ⟨rfl, rfl⟩, h⟩
theorem quiet_call (F : FuncId) (vals : Array Value) (v : Value) (hx : ∀ W, (execOp a.eval o).run P W = .ok (.enter F vals) W) (hC : ∀ W, C W → Calls P F vals W (fun e w' => e = .returned v ∧ C w')) (h : K (a.put o.dst v)) : o.quiet P a C K :=
  ⟨v, fun W hW => by unfold Oper.quietAt; rw [hx W]; exact ⟨rfl, hC W hW⟩, h⟩
end

section
variable {C : World → Prop} {o : Oper} {a : Act} {K : Act → Prop}
theorem quiet_load_fr (x : Operand) (ho : o.op = .load 25 x) (s : Nat) (hx : a.eval x = .pointer (some ⟨s, 0, none⟩)) (f : Fr) (hg : ∀ W, C W → FrAt W s f)
    (h : K (a.put o.dst f.val)) : o.quiet Try.prog a C K :=
  quiet_pure f.val (fun W hW => by
    unfold execOp
    simp only [ho, hx, Instr.loadAt, Instr.sureAddr, loadVar, Sem.run_bind, Sem.run_pure, Result.andThen_ok, aggF, sizF, if_true, (hg W hW).loads]
    rfl) h
theorem aggM (w : World) : (isAgg 23).run Try.prog w = .ok true w := by kernel_rfl
theorem sizM (w : World) : (Go.sizeOf 23).run Try.prog w = .ok 6 w := by kernel_rfl
/-- six cells of a block, from o on, hold an address -/
def SixAt (W : World) (s o : Nat) (m : M6) : Prop := ∀ j v, m.vals[j]? = some v → W.cell? ⟨s, o + j, none⟩ = some v
theorem SixAt.loads {W : World} {s o : Nat} {m : M6} (h : SixAt W s o m) : (loadCells ⟨s, o, none⟩ 6).run Try.prog W = .ok m.cells W := by
  have := run_loadCells_list (P := Try.prog) W ⟨s, o, none⟩ m.vals (fun j v hv => by rw [Addr.add_lit]; exact h j v hv)
  exact this
theorem MaAt.six {W : World} {s : Nat} {m : M6} (h : MaAt W s m) : SixAt W s 0 m := fun j v hv => by
  have hj : j < 6 := by have := (List.getElem?_eq_some_iff.1 hv).1; simpa [M6.vals] using this
  rw [Nat.zero_add, ← hv]
  rcases lt6 hj with rfl | rfl | rfl | rfl | rfl | rfl
  · exact h.c0
  · exact h.c1
  · exact h.c2
  · exact h.c3
  · exact h.c4
  · exact h.c5
theorem FrAt.six_dst {W : World} {s : Nat} {f : Fr} (h : FrAt W s f) : SixAt W s 0 f.dst := fun j v hv => by
  have hj : j < 6 := by have := (List.getElem?_eq_some_iff.1 hv).1; simpa [M6.vals] using this
  rw [Nat.zero_add, ← hv]
  rcases lt6 hj with rfl | rfl | rfl | rfl | rfl | rfl
  · exact h.c0
  · exact h.c1
  · exact h.c2
  · exact h.c3
  · exact h.c4
  · exact h.c5
theorem FrAt.six_src {W : World} {s : Nat} {f : Fr} (h : FrAt W s f) : SixAt W s 6 f.src := fun j v hv => by
  have hj : j < 6 := by have := (List.getElem?_eq_some_iff.1 hv).1; simpa [M6.vals] using this
  rw [← hv]
  rcases lt6 hj with rfl | rfl | rfl | rfl | rfl | rfl
  · exact h.c6
  · exact h.c7
  · exact h.c8
  · exact h.c9
  · exact h.c10
  · exact h.c11
theorem quiet_load_mac (x : Operand) (ho : o.op = .load 23 x) (s k : Nat) (hx : a.eval x = .pointer (some ⟨s, k, none⟩)) (m : M6) (hg : ∀ W, C W → SixAt W s k m)
    (h : K (a.put o.dst m.val)) : o.quiet Try.prog a C K :=
  quiet_pure m.val (fun W hW => by
    unfold execOp
    simp only [ho, hx, Instr.loadAt, Instr.sureAddr, loadVar, Sem.run_bind, Sem.run_pure, Result.andThen_ok, aggM, sizM, if_true, (hg W hW).loads]
    rfl) h
end

set_option maxHeartbeats 1000000 in
theorem mine_walk (f : Fr) (own : M6) (vlan : Int) (w : World) (h0 : 0 ≤ f.src.a) (h1 : f.src.a ≤ 255) : Calls Try.prog 4 #[f.val, own.val, .int .i64 vlan] w fun e w' => e = .returned (.bool true) ∧ Below w.heap.size w w' := by
  have B2 := hide (later (later_alloc w (.cells f.cells 25)) (later_alloc _ (.cells own.cells 23)))
  have F2 := hide ((FrAt.new w f 25).al (.cells own.cells 23))
  have M2 := hide (MaAt.new (w.alloc (.cells f.cells 25)) own 23)
  rw [World.size_alloc] at M2
  have K1 := hide (fun W => Mine_any f own vlan W h0 h1)
  have K2 := hide (fun W => rMine_any f own vlan W h0 h1)
  obtain ⟨b, hb⟩ : ∃ b, miB f own vlan = b := ⟨_, rfl⟩
  rw [hb] at K1 K2
  clear hb h0 h1
  simp only [Fr.val, M6.val]
  go_enter Try.func4, Try.ntmps4
  go_wp2_with fail
  obtain ⟨W2, e2⟩ : ∃ W2, (w.alloc (.cells f.cells 25)).alloc (.cells own.cells 23) = W2 := ⟨_, rfl⟩
  rw [e2] at B2 F2 M2 ⊢
  clear e2
  refine (awake_any W2).mono ?_
  rintro e w3 ⟨rfl, b3⟩
  have F3 := hide (F2.out.later b3)
  have M3 := hide (M2.out.later b3)
  have B3 := hide (later B2.out b3)
  clear F2 M2 B2 b3
  go_upto_region 2 with fail
  refine region_quiet_C (fun W => Below w3.heap.size w3 W) (by kernel_rfl) (by kernel_rfl) (later_drew _) ?_
  go_big_quiet_step (fail)
  go_big_quiet_step (fail)
  go_big_quiet_want
  refine quiet_load_fr _ rfl w.heap.size rfl f (fun W hW => F3.out.later hW) ?_
  go_big_quiet_on
  simp only [Act.put, List.setIfInBounds_toArray, List.set_cons_succ, List.set_cons_zero]
  go_big_quiet_want
  refine quiet_load_mac _ rfl (w.heap.size + 1) 0 rfl own (fun W hW => (M3.out.later hW).six) ?_
  go_big_quiet_on
  simp only [Act.put, List.setIfInBounds_toArray, List.set_cons_succ, List.set_cons_zero]
  go_big_quiet_step (fail)
  go_big_quiet_want
  refine quiet_call 13 #[f.val, own.val, .int .i64 vlan] (.bool b) (fun _ => by simp [Act.eval, go_sem]) (fun W hW => (K1.out W).mono fun e w' h => ⟨h.1, later hW h.2⟩) ?_
  go_big_quiet_on
  simp only [Act.put, List.setIfInBounds_toArray, List.set_cons_succ, List.set_cons_zero]
  go_big_quiet_want
  refine quiet_load_fr _ rfl w.heap.size rfl f (fun W hW => F3.out.later hW) ?_
  go_big_quiet_on
  simp only [Act.put, List.setIfInBounds_toArray, List.set_cons_succ, List.set_cons_zero]
  go_big_quiet_want
  refine quiet_load_mac _ rfl (w.heap.size + 1) 0 rfl own (fun W hW => (M3.out.later hW).six) ?_
  go_big_quiet_on
  simp only [Act.put, List.setIfInBounds_toArray, List.set_cons_succ, List.set_cons_zero]
  go_big_quiet_step (fail)
  go_big_quiet_want
  refine quiet_call 14 #[f.val, own.val, .int .i64 vlan] (.bool b) (fun _ => by simp [Act.eval, go_sem]) (fun W hW => (K2.out W).mono fun e w' h => ⟨h.1, later hW h.2⟩) ?_
  go_big_quiet_on
  simp only [Act.put, List.setIfInBounds_toArray, List.set_cons_succ, List.set_cons_zero]
  go_big_quiet_want
  refine quiet_pure (.bool true) (fun _ _ => by simp [Act.eval, go_sem]) ?_
  go_big_quiet_on
  simp only [Act.put, List.setIfInBounds_toArray, List.set_cons_succ, List.set_cons_zero]
  go_big_quiet_want
  refine quiet_pure (.bool true) (fun _ _ => by simp [Act.eval, go_sem]) ?_
  go_big_quiet_on
  simp only [Act.put, List.setIfInBounds_toArray, List.set_cons_succ, List.set_cons_zero]
  go_big_quiet_step (fail)
  refine wpQuiet_nil ?_
  intro w4 b4
  go_wp2
  go_ret
  exact ⟨rfl, later B3.out b4⟩

end Go.Proofs.Ytipebfaappangaa
