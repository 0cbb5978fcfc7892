
/-
  A region that draws its order and only reads, or calls what leaves all that was there; route.mayBe.
-/
import Derived.Test.YtlfacppkgamkgaaM5
namespace Go.Proofs.Ytlfacppkgamkgaa
open Go.RowKit Go.Shelf

theorem later_drew (w : World) : Below w.heap.size w w.drew := ⟨rfl, rfl, rfl, Nat.le_refl _, fun _ _ => rfl⟩
theorem later {a b c : World} (h : Below a.heap.size a b) (k : Below b.heap.size b c) : Below a.heap.size a c := h.trans (k.mono h.size)
section
variable {P : Program} {C : World → Prop} {o : Oper} {a : Act} {K : Act → Prop}
theorem region_quiet_C {id : Nat} {Q : Exit → Act → World → Prop} {w : World} {l : List Oper} (C : World → Prop) (hm : P.follows .mixedOrders = true) (hB : Region.lexB .any l.toArray = true) (hC : C w.drew)
    (h : wpQuiet P l.toArray C (fun a' => ∀ w', C w' → Q .normal a' w') l a) : (Code.region id l.toArray true).wp P Q a w :=
  wp_region_quiet (C := C) hm hB hC (by simpa using h)
theorem quiet_pure (v : Value) (hx : ∀ W, C W → (execOp a.eval o).run P W = .ok (.value v) W) (h : K (a.put o.dst v)) : o.quiet P a C K :=
  ⟨v, fun W hW => by unfold Oper.quietAt; rw [hx W hW]; exact ⟨rfl, rfl⟩, h⟩
theorem quiet_call (F : FuncId) (vals : Array Value) (v : Value) (hx : ∀ W, (execOp a.eval o).run P W = .ok (.enter F vals) W) (hC : ∀ W, C W → Calls P F vals W (fun e w' => e = .returned v ∧ C w')) (h : K (a.put o.dst v)) : o.quiet P a C K :=
  ⟨v, fun W hW => by unfold Oper.quietAt; rw [hx W]; exact ⟨rfl, hC W hW⟩, h⟩
end
section
variable {o : Oper} {w : World} {ev : Operand → Value}
theorem exec_gei (x y : Operand) (t : TypeId) (a b : Int) (r : Bool) (ho : o.op = .binOp .geq 3 x y t) (hx : ev x = .int .i64 a) (hy : ev y = .int .i64 b) (hr : decide (b ≤ a) = r) : (execOp ev o).run Try.prog w = .ok (.value (.bool r)) w := by
  subst hr
  unfold execOp
  simp [ho, hx, hy, go_sem]
end
/-- may a way be? -/
def mayW (x : Wy) : Bool := decide (0 ≤ x.bits ∧ x.bits ≤ 32 ∧ beg x.net x.bits.toNat = x.net ∧ (x.via = true ∨ x.gate = zI))
structure Wy.Ok (x : Wy) : Prop where
  net : x.net.Ok
  gate : x.gate.Ok
theorem Wy.parts {W : World} {s o : Nat} {x : Wy} (h : CellsAt W s o x.cells) : CellsAt W s o x.net.vals ∧ W.cell? ⟨s, o + 4, none⟩ = some (.int .i64 x.bits) ∧ CellsAt W s (o + 5) x.gate.vals ∧ W.cell? ⟨s, o + 9, none⟩ = some (.bool x.via) :=
  ⟨(CellsAt.append.1 h).1, h 4 _ rfl, fun j v hv => by
    have hj : j < 4 := by have := (List.getElem?_eq_some_iff.1 hv).1; simpa [I4.vals] using this
    rw [Nat.add_assoc]
    refine h (5 + j) v ?_
    rcases j with _ | _ | _ | _ | j
    all_goals first | (exfalso; omega) | exact hv, h 9 _ rfl⟩
set_option maxRecDepth 100000 in
set_option maxHeartbeats 4000000 in
theorem mayBe_any (x : Wy) (hx : x.Ok) (w : World) : Calls Try.prog 16 #[x.val] w fun e w' => e = .returned (.bool (mayW x)) ∧ Below w.heap.size w w' := by
  obtain ⟨s, hs⟩ : ∃ s, s = w.heap.size := ⟨_, rfl⟩
  obtain ⟨X, hX⟩ : ∃ X, X = x.cells := ⟨_, rfl⟩
  obtain ⟨w1, hw1⟩ : ∃ w1, w1 = w.alloc (.cells X.toArray 33) := ⟨_, rfl⟩
  have b1 : Hid (Below w.heap.size w w1) := by rw [hw1]; exact (Below.refl _ w).alloc (Nat.le_refl _) _
  have c1 : CellsAt w1 s 0 x.cells := by rw [hw1, hs, ← hX]; exact CellsAt.new w X 33
  have sl : s < w1.heap.size := c1.lt (by simp [Wy.cells, I4.vals])
  have PW : ∀ W, Below w1.heap.size w1 W → CellsAt W s 0 x.net.vals ∧ W.cell? ⟨s, 4, none⟩ = some (.int .i64 x.bits) ∧ CellsAt W s 5 x.gate.vals ∧ W.cell? ⟨s, 9, none⟩ = some (.bool x.via) := fun W hW => by
    have h := Wy.parts (c1.later sl hW)
    simpa using h
  have HX := hide hx
  have hw1' := hw1.symm
  have hs' := hs.symm
  have EX : Hid (x.val = .agg X.toArray) := by rw [hX]; exact rfl
  rw [EX.out]
  clear hw1 hs c1 hX
  go_enter Try.func16, Try.ntmps16
  go_upto_region 1 with fail
  clear hs' hw1'
  by_cases h0 : 0 ≤ x.bits
  · by_cases h1 : x.bits ≤ 32
    · obtain ⟨k, hk⟩ : ∃ k : Nat, k = x.bits.toNat := ⟨_, rfl⟩
      have ek : x.bits = (k : Int) := by omega
      have k32 : k ≤ 32 := by omega
      by_cases h2 : beg x.net k = x.net
      · have q2 : eqI (beg x.net k) x.net = true := decide_eq_true h2
        cases h3 : x.via with
        | true =>
          have em : mayW x = true := by unfold mayW; exact decide_eq_true ⟨h0, h1, by rw [← hk]; exact h2, .inl h3⟩
          refine region_quiet_C (fun W => Below w1.heap.size w1 W) (by kernel_rfl) (by kernel_rfl) (later_drew _) ?_
          go_big_quiet_want
          refine quiet_pure (.pointer (some ⟨s, 4, none⟩)) (fun W hW => exec_fieldO 33 _ 1 s 0 4 rfl rfl (fun w => by kernel_rfl)) ?_
          go_big_quiet_on
          simp only [Act.put, List.setIfInBounds_toArray, List.set_cons_succ, List.set_cons_zero]
          go_big_quiet_want
          refine quiet_pure (.int .i64 x.bits) (fun W hW => exec_load1 3 one1 _ rfl s 4 rfl (.int .i64 x.bits) ((PW W hW).2.1)) ?_
          go_big_quiet_on
          simp only [Act.put, List.setIfInBounds_toArray, List.set_cons_succ, List.set_cons_zero]
          go_big_quiet_want
          refine quiet_pure (.bool true) (fun W hW => exec_gei _ _ _ _ _ _ rfl rfl rfl (decide_eq_true h0)) ?_
          go_big_quiet_on
          simp only [Act.put, List.setIfInBounds_toArray, List.set_cons_succ, List.set_cons_zero]
          go_big_quiet_step (fail)
          go_big_quiet_want
          refine quiet_pure (.pointer (some ⟨s, 4, none⟩)) (fun W hW => exec_fieldO 33 _ 1 s 0 4 rfl rfl (fun w => by kernel_rfl)) ?_
          go_big_quiet_on
          simp only [Act.put, List.setIfInBounds_toArray, List.set_cons_succ, List.set_cons_zero]
          go_big_quiet_want
          refine quiet_pure (.int .i64 x.bits) (fun W hW => exec_load1 3 one1 _ rfl s 4 rfl (.int .i64 x.bits) ((PW W hW).2.1)) ?_
          go_big_quiet_on
          simp only [Act.put, List.setIfInBounds_toArray, List.set_cons_succ, List.set_cons_zero]
          go_big_quiet_want
          refine quiet_pure (.bool true) (fun W hW => exec_lei _ _ _ _ _ _ rfl rfl rfl (decide_eq_true h1)) ?_
          go_big_quiet_on
          simp only [Act.put, List.setIfInBounds_toArray, List.set_cons_succ, List.set_cons_zero]
          go_big_quiet_want
          refine quiet_pure (.bool true) (fun W hW => exec_pick _ _ _ true _ rfl rfl rfl) ?_
          go_big_quiet_on
          simp only [Act.put, List.setIfInBounds_toArray, List.set_cons_succ, List.set_cons_zero]
          go_big_quiet_step (fail)
          go_big_quiet_want
          refine quiet_pure (.pointer (some ⟨s, 0, none⟩)) (fun W hW => exec_fieldO 33 _ 0 s 0 0 rfl rfl (fun w => by kernel_rfl)) ?_
          go_big_quiet_on
          simp only [Act.put, List.setIfInBounds_toArray, List.set_cons_succ, List.set_cons_zero]
          go_big_quiet_want
          refine quiet_pure (.agg (x.net.vals).toArray) (fun W hW => exec_loadA 31 4 aggI sizI _ rfl s 0 rfl (x.net.vals) rfl ((PW W hW).1)) ?_
          go_big_quiet_on
          simp only [Act.put, List.setIfInBounds_toArray, List.set_cons_succ, List.set_cons_zero]
          go_big_quiet_want
          refine quiet_pure (.pointer (some ⟨s, 4, none⟩)) (fun W hW => exec_fieldO 33 _ 1 s 0 4 rfl rfl (fun w => by kernel_rfl)) ?_
          go_big_quiet_on
          simp only [Act.put, List.setIfInBounds_toArray, List.set_cons_succ, List.set_cons_zero]
          go_big_quiet_want
          refine quiet_pure (.int .i64 x.bits) (fun W hW => exec_load1 3 one1 _ rfl s 4 rfl (.int .i64 x.bits) ((PW W hW).2.1)) ?_
          go_big_quiet_on
          simp only [Act.put, List.setIfInBounds_toArray, List.set_cons_succ, List.set_cons_zero]
          go_big_quiet_want
          refine quiet_call 20 #[.agg x.net.vals.toArray, .int .i64 x.bits] (.agg (beg x.net k).vals.toArray) (fun _ => by simp [Act.eval, go_sem]) (fun W hW => by rw [ek]; exact (beginning_any x.net k HX.out.net k32 W).mono fun e w' h => ⟨h.1, later hW h.2⟩) ?_
          go_big_quiet_on
          simp only [Act.put, List.setIfInBounds_toArray, List.set_cons_succ, List.set_cons_zero]
          go_big_quiet_want
          refine quiet_pure (.pointer (some ⟨s, 0, none⟩)) (fun W hW => exec_fieldO 33 _ 0 s 0 0 rfl rfl (fun w => by kernel_rfl)) ?_
          go_big_quiet_on
          simp only [Act.put, List.setIfInBounds_toArray, List.set_cons_succ, List.set_cons_zero]
          go_big_quiet_want
          refine quiet_pure (.agg (x.net.vals).toArray) (fun W hW => exec_loadA 31 4 aggI sizI _ rfl s 0 rfl (x.net.vals) rfl ((PW W hW).1)) ?_
          go_big_quiet_on
          simp only [Act.put, List.setIfInBounds_toArray, List.set_cons_succ, List.set_cons_zero]
          go_big_quiet_want
          refine quiet_pure (.bool true) (fun W hW => exec_eqI _ _ _ _ _ _ rfl rfl rfl q2) ?_
          go_big_quiet_on
          simp only [Act.put, List.setIfInBounds_toArray, List.set_cons_succ, List.set_cons_zero]
          go_big_quiet_want
          refine quiet_pure (.bool true) (fun W hW => exec_pick _ _ _ true _ rfl rfl rfl) ?_
          go_big_quiet_on
          simp only [Act.put, List.setIfInBounds_toArray, List.set_cons_succ, List.set_cons_zero]
          go_big_quiet_step (fail)
          go_big_quiet_want
          refine quiet_pure (.pointer (some ⟨s, 9, none⟩)) (fun W hW => exec_fieldO 33 _ 3 s 0 9 rfl rfl (fun w => by kernel_rfl)) ?_
          go_big_quiet_on
          simp only [Act.put, List.setIfInBounds_toArray, List.set_cons_succ, List.set_cons_zero]
          go_big_quiet_want
          refine quiet_pure (.bool true) (fun W hW => exec_load1 4 oneB _ rfl s 9 rfl (.bool true) (by rw [← h3]; exact (PW W hW).2.2.2)) ?_
          go_big_quiet_on
          simp only [Act.put, List.setIfInBounds_toArray, List.set_cons_succ, List.set_cons_zero]
          go_big_quiet_step (fail)
          go_big_quiet_step (fail)
          go_big_quiet_step (fail)
          go_big_quiet_step (fail)
          go_big_quiet_step (fail)
          go_big_quiet_want
          refine quiet_pure (.bool true) (fun W hW => exec_pick _ _ _ true _ rfl rfl rfl) ?_
          go_big_quiet_on
          simp only [Act.put, List.setIfInBounds_toArray, List.set_cons_succ, List.set_cons_zero]
          go_big_quiet_want
          refine quiet_pure (.bool true) (fun W hW => exec_pick _ _ _ true _ rfl rfl rfl) ?_
          go_big_quiet_on
          simp only [Act.put, List.setIfInBounds_toArray, List.set_cons_succ, List.set_cons_zero]
          go_big_quiet_step (fail)
          refine wpQuiet_nil ?_
          intro wq bq
          clear PW
          go_wp2
          go_ret
          exact ⟨by first | rfl | (rw [em]; rfl), later b1.out bq⟩
        | false =>
          by_cases h4 : x.gate = zI
          · have em : mayW x = true := by unfold mayW; exact decide_eq_true ⟨h0, h1, by rw [← hk]; exact h2, .inr h4⟩
            have q4 : eqI x.gate zI = true := decide_eq_true h4
            refine region_quiet_C (fun W => Below w1.heap.size w1 W) (by kernel_rfl) (by kernel_rfl) (later_drew _) ?_
            go_big_quiet_want
            refine quiet_pure (.pointer (some ⟨s, 4, none⟩)) (fun W hW => exec_fieldO 33 _ 1 s 0 4 rfl rfl (fun w => by kernel_rfl)) ?_
            go_big_quiet_on
            simp only [Act.put, List.setIfInBounds_toArray, List.set_cons_succ, List.set_cons_zero]
            go_big_quiet_want
            refine quiet_pure (.int .i64 x.bits) (fun W hW => exec_load1 3 one1 _ rfl s 4 rfl (.int .i64 x.bits) ((PW W hW).2.1)) ?_
            go_big_quiet_on
            simp only [Act.put, List.setIfInBounds_toArray, List.set_cons_succ, List.set_cons_zero]
            go_big_quiet_want
            refine quiet_pure (.bool true) (fun W hW => exec_gei _ _ _ _ _ _ rfl rfl rfl (decide_eq_true h0)) ?_
            go_big_quiet_on
            simp only [Act.put, List.setIfInBounds_toArray, List.set_cons_succ, List.set_cons_zero]
            go_big_quiet_step (fail)
            go_big_quiet_want
            refine quiet_pure (.pointer (some ⟨s, 4, none⟩)) (fun W hW => exec_fieldO 33 _ 1 s 0 4 rfl rfl (fun w => by kernel_rfl)) ?_
            go_big_quiet_on
            simp only [Act.put, List.setIfInBounds_toArray, List.set_cons_succ, List.set_cons_zero]
            go_big_quiet_want
            refine quiet_pure (.int .i64 x.bits) (fun W hW => exec_load1 3 one1 _ rfl s 4 rfl (.int .i64 x.bits) ((PW W hW).2.1)) ?_
            go_big_quiet_on
            simp only [Act.put, List.setIfInBounds_toArray, List.set_cons_succ, List.set_cons_zero]
            go_big_quiet_want
            refine quiet_pure (.bool true) (fun W hW => exec_lei _ _ _ _ _ _ rfl rfl rfl (decide_eq_true h1)) ?_
            go_big_quiet_on
            simp only [Act.put, List.setIfInBounds_toArray, List.set_cons_succ, List.set_cons_zero]
            go_big_quiet_want
            refine quiet_pure (.bool true) (fun W hW => exec_pick _ _ _ true _ rfl rfl rfl) ?_
            go_big_quiet_on
            simp only [Act.put, List.setIfInBounds_toArray, List.set_cons_succ, List.set_cons_zero]
            go_big_quiet_step (fail)
            go_big_quiet_want
            refine quiet_pure (.pointer (some ⟨s, 0, none⟩)) (fun W hW => exec_fieldO 33 _ 0 s 0 0 rfl rfl (fun w => by kernel_rfl)) ?_
            go_big_quiet_on
            simp only [Act.put, List.setIfInBounds_toArray, List.set_cons_succ, List.set_cons_zero]
            go_big_quiet_want
            refine quiet_pure (.agg (x.net.vals).toArray) (fun W hW => exec_loadA 31 4 aggI sizI _ rfl s 0 rfl (x.net.vals) rfl ((PW W hW).1)) ?_
            go_big_quiet_on
            simp only [Act.put, List.setIfInBounds_toArray, List.set_cons_succ, List.set_cons_zero]
            go_big_quiet_want
            refine quiet_pure (.pointer (some ⟨s, 4, none⟩)) (fun W hW => exec_fieldO 33 _ 1 s 0 4 rfl rfl (fun w => by kernel_rfl)) ?_
            go_big_quiet_on
            simp only [Act.put, List.setIfInBounds_toArray, List.set_cons_succ, List.set_cons_zero]
            go_big_quiet_want
            refine quiet_pure (.int .i64 x.bits) (fun W hW => exec_load1 3 one1 _ rfl s 4 rfl (.int .i64 x.bits) ((PW W hW).2.1)) ?_
            go_big_quiet_on
            simp only [Act.put, List.setIfInBounds_toArray, List.set_cons_succ, List.set_cons_zero]
            go_big_quiet_want
            refine quiet_call 20 #[.agg x.net.vals.toArray, .int .i64 x.bits] (.agg (beg x.net k).vals.toArray) (fun _ => by simp [Act.eval, go_sem]) (fun W hW => by rw [ek]; exact (beginning_any x.net k HX.out.net k32 W).mono fun e w' h => ⟨h.1, later hW h.2⟩) ?_
            go_big_quiet_on
            simp only [Act.put, List.setIfInBounds_toArray, List.set_cons_succ, List.set_cons_zero]
            go_big_quiet_want
            refine quiet_pure (.pointer (some ⟨s, 0, none⟩)) (fun W hW => exec_fieldO 33 _ 0 s 0 0 rfl rfl (fun w => by kernel_rfl)) ?_
            go_big_quiet_on
            simp only [Act.put, List.setIfInBounds_toArray, List.set_cons_succ, List.set_cons_zero]
            go_big_quiet_want
            refine quiet_pure (.agg (x.net.vals).toArray) (fun W hW => exec_loadA 31 4 aggI sizI _ rfl s 0 rfl (x.net.vals) rfl ((PW W hW).1)) ?_
            go_big_quiet_on
            simp only [Act.put, List.setIfInBounds_toArray, List.set_cons_succ, List.set_cons_zero]
            go_big_quiet_want
            refine quiet_pure (.bool true) (fun W hW => exec_eqI _ _ _ _ _ _ rfl rfl rfl q2) ?_
            go_big_quiet_on
            simp only [Act.put, List.setIfInBounds_toArray, List.set_cons_succ, List.set_cons_zero]
            go_big_quiet_want
            refine quiet_pure (.bool true) (fun W hW => exec_pick _ _ _ true _ rfl rfl rfl) ?_
            go_big_quiet_on
            simp only [Act.put, List.setIfInBounds_toArray, List.set_cons_succ, List.set_cons_zero]
            go_big_quiet_step (fail)
            go_big_quiet_want
            refine quiet_pure (.pointer (some ⟨s, 9, none⟩)) (fun W hW => exec_fieldO 33 _ 3 s 0 9 rfl rfl (fun w => by kernel_rfl)) ?_
            go_big_quiet_on
            simp only [Act.put, List.setIfInBounds_toArray, List.set_cons_succ, List.set_cons_zero]
            go_big_quiet_want
            refine quiet_pure (.bool false) (fun W hW => exec_load1 4 oneB _ rfl s 9 rfl (.bool false) (by rw [← h3]; exact (PW W hW).2.2.2)) ?_
            go_big_quiet_on
            simp only [Act.put, List.setIfInBounds_toArray, List.set_cons_succ, List.set_cons_zero]
            go_big_quiet_step (fail)
            go_big_quiet_want
            refine quiet_pure (.pointer (some ⟨s, 5, none⟩)) (fun W hW => exec_fieldO 33 _ 2 s 0 5 rfl rfl (fun w => by kernel_rfl)) ?_
            go_big_quiet_on
            simp only [Act.put, List.setIfInBounds_toArray, List.set_cons_succ, List.set_cons_zero]
            go_big_quiet_want
            refine quiet_pure (.agg (x.gate.vals).toArray) (fun W hW => exec_loadA 31 4 aggI sizI _ rfl s 5 rfl (x.gate.vals) rfl ((PW W hW).2.2.1)) ?_
            go_big_quiet_on
            simp only [Act.put, List.setIfInBounds_toArray, List.set_cons_succ, List.set_cons_zero]
            go_big_quiet_want
            refine quiet_pure (.agg zI.vals.toArray) (fun W hW => exec_zI rfl) ?_
            go_big_quiet_on
            simp only [Act.put, List.setIfInBounds_toArray, List.set_cons_succ, List.set_cons_zero]
            go_big_quiet_want
            refine quiet_pure (.bool true) (fun W hW => exec_eqI _ _ _ _ _ _ rfl rfl rfl q4) ?_
            go_big_quiet_on
            simp only [Act.put, List.setIfInBounds_toArray, List.set_cons_succ, List.set_cons_zero]
            go_big_quiet_want
            refine quiet_pure (.bool true) (fun W hW => exec_pick _ _ _ false _ rfl rfl rfl) ?_
            go_big_quiet_on
            simp only [Act.put, List.setIfInBounds_toArray, List.set_cons_succ, List.set_cons_zero]
            go_big_quiet_want
            refine quiet_pure (.bool true) (fun W hW => exec_pick _ _ _ true _ rfl rfl rfl) ?_
            go_big_quiet_on
            simp only [Act.put, List.setIfInBounds_toArray, List.set_cons_succ, List.set_cons_zero]
            go_big_quiet_step (fail)
            refine wpQuiet_nil ?_
            intro wq bq
            clear PW
            go_wp2
            go_ret
            exact ⟨by first | rfl | (rw [em]; rfl), later b1.out bq⟩
          · have em : mayW x = false := by unfold mayW; exact decide_eq_false (fun h => by rcases h.2.2.2 with h | h; rw [h3] at h; cases h; exact h4 h)
            have q4 : eqI x.gate zI = false := decide_eq_false h4
            refine region_quiet_C (fun W => Below w1.heap.size w1 W) (by kernel_rfl) (by kernel_rfl) (later_drew _) ?_
            go_big_quiet_want
            refine quiet_pure (.pointer (some ⟨s, 4, none⟩)) (fun W hW => exec_fieldO 33 _ 1 s 0 4 rfl rfl (fun w => by kernel_rfl)) ?_
            go_big_quiet_on
            simp only [Act.put, List.setIfInBounds_toArray, List.set_cons_succ, List.set_cons_zero]
            go_big_quiet_want
            refine quiet_pure (.int .i64 x.bits) (fun W hW => exec_load1 3 one1 _ rfl s 4 rfl (.int .i64 x.bits) ((PW W hW).2.1)) ?_
            go_big_quiet_on
            simp only [Act.put, List.setIfInBounds_toArray, List.set_cons_succ, List.set_cons_zero]
            go_big_quiet_want
            refine quiet_pure (.bool true) (fun W hW => exec_gei _ _ _ _ _ _ rfl rfl rfl (decide_eq_true h0)) ?_
            go_big_quiet_on
            simp only [Act.put, List.setIfInBounds_toArray, List.set_cons_succ, List.set_cons_zero]
            go_big_quiet_step (fail)
            go_big_quiet_want
            refine quiet_pure (.pointer (some ⟨s, 4, none⟩)) (fun W hW => exec_fieldO 33 _ 1 s 0 4 rfl rfl (fun w => by kernel_rfl)) ?_
            go_big_quiet_on
            simp only [Act.put, List.setIfInBounds_toArray, List.set_cons_succ, List.set_cons_zero]
            go_big_quiet_want
            refine quiet_pure (.int .i64 x.bits) (fun W hW => exec_load1 3 one1 _ rfl s 4 rfl (.int .i64 x.bits) ((PW W hW).2.1)) ?_
            go_big_quiet_on
            simp only [Act.put, List.setIfInBounds_toArray, List.set_cons_succ, List.set_cons_zero]
            go_big_quiet_want
            refine quiet_pure (.bool true) (fun W hW => exec_lei _ _ _ _ _ _ rfl rfl rfl (decide_eq_true h1)) ?_
            go_big_quiet_on
            simp only [Act.put, List.setIfInBounds_toArray, List.set_cons_succ, List.set_cons_zero]
            go_big_quiet_want
            refine quiet_pure (.bool true) (fun W hW => exec_pick _ _ _ true _ rfl rfl rfl) ?_
            go_big_quiet_on
            simp only [Act.put, List.setIfInBounds_toArray, List.set_cons_succ, List.set_cons_zero]
            go_big_quiet_step (fail)
            go_big_quiet_want
            refine quiet_pure (.pointer (some ⟨s, 0, none⟩)) (fun W hW => exec_fieldO 33 _ 0 s 0 0 rfl rfl (fun w => by kernel_rfl)) ?_
            go_big_quiet_on
            simp only [Act.put, List.setIfInBounds_toArray, List.set_cons_succ, List.set_cons_zero]
            go_big_quiet_want
            refine quiet_pure (.agg (x.net.vals).toArray) (fun W hW => exec_loadA 31 4 aggI sizI _ rfl s 0 rfl (x.net.vals) rfl ((PW W hW).1)) ?_
            go_big_quiet_on
            simp only [Act.put, List.setIfInBounds_toArray, List.set_cons_succ, List.set_cons_zero]
            go_big_quiet_want
            refine quiet_pure (.pointer (some ⟨s, 4, none⟩)) (fun W hW => exec_fieldO 33 _ 1 s 0 4 rfl rfl (fun w => by kernel_rfl)) ?_
            go_big_quiet_on
            simp only [Act.put, List.setIfInBounds_toArray, List.set_cons_succ, List.set_cons_zero]
            go_big_quiet_want
            refine quiet_pure (.int .i64 x.bits) (fun W hW => exec_load1 3 one1 _ rfl s 4 rfl (.int .i64 x.bits) ((PW W hW).2.1)) ?_
            go_big_quiet_on
            simp only [Act.put, List.setIfInBounds_toArray, List.set_cons_succ, List.set_cons_zero]
            go_big_quiet_want
            refine quiet_call 20 #[.agg x.net.vals.toArray, .int .i64 x.bits] (.agg (beg x.net k).vals.toArray) (fun _ => by simp [Act.eval, go_sem]) (fun W hW => by rw [ek]; exact (beginning_any x.net k HX.out.net k32 W).mono fun e w' h => ⟨h.1, later hW h.2⟩) ?_
            go_big_quiet_on
            simp only [Act.put, List.setIfInBounds_toArray, List.set_cons_succ, List.set_cons_zero]
            go_big_quiet_want
            refine quiet_pure (.pointer (some ⟨s, 0, none⟩)) (fun W hW => exec_fieldO 33 _ 0 s 0 0 rfl rfl (fun w => by kernel_rfl)) ?_
            go_big_quiet_on
            simp only [Act.put, List.setIfInBounds_toArray, List.set_cons_succ, List.set_cons_zero]
            go_big_quiet_want
            refine quiet_pure (.agg (x.net.vals).toArray) (fun W hW => exec_loadA 31 4 aggI sizI _ rfl s 0 rfl (x.net.vals) rfl ((PW W hW).1)) ?_
            go_big_quiet_on
            simp only [Act.put, List.setIfInBounds_toArray, List.set_cons_succ, List.set_cons_zero]
            go_big_quiet_want
            refine quiet_pure (.bool true) (fun W hW => exec_eqI _ _ _ _ _ _ rfl rfl rfl q2) ?_
            go_big_quiet_on
            simp only [Act.put, List.setIfInBounds_toArray, List.set_cons_succ, List.set_cons_zero]
            go_big_quiet_want
            refine quiet_pure (.bool true) (fun W hW => exec_pick _ _ _ true _ rfl rfl rfl) ?_
            go_big_quiet_on
            simp only [Act.put, List.setIfInBounds_toArray, List.set_cons_succ, List.set_cons_zero]
            go_big_quiet_step (fail)
            go_big_quiet_want
            refine quiet_pure (.pointer (some ⟨s, 9, none⟩)) (fun W hW => exec_fieldO 33 _ 3 s 0 9 rfl rfl (fun w => by kernel_rfl)) ?_
            go_big_quiet_on
            simp only [Act.put, List.setIfInBounds_toArray, List.set_cons_succ, List.set_cons_zero]
            go_big_quiet_want
            refine quiet_pure (.bool false) (fun W hW => exec_load1 4 oneB _ rfl s 9 rfl (.bool false) (by rw [← h3]; exact (PW W hW).2.2.2)) ?_
            go_big_quiet_on
            simp only [Act.put, List.setIfInBounds_toArray, List.set_cons_succ, List.set_cons_zero]
            go_big_quiet_step (fail)
            go_big_quiet_want
            refine quiet_pure (.pointer (some ⟨s, 5, none⟩)) (fun W hW => exec_fieldO 33 _ 2 s 0 5 rfl rfl (fun w => by kernel_rfl)) ?_
            go_big_quiet_on
            simp only [Act.put, List.setIfInBounds_toArray, List.set_cons_succ, List.set_cons_zero]
            go_big_quiet_want
            refine quiet_pure (.agg (x.gate.vals).toArray) (fun W hW => exec_loadA 31 4 aggI sizI _ rfl s 5 rfl (x.gate.vals) rfl ((PW W hW).2.2.1)) ?_
            go_big_quiet_on
            simp only [Act.put, List.setIfInBounds_toArray, List.set_cons_succ, List.set_cons_zero]
            go_big_quiet_want
            refine quiet_pure (.agg zI.vals.toArray) (fun W hW => exec_zI rfl) ?_
            go_big_quiet_on
            simp only [Act.put, List.setIfInBounds_toArray, List.set_cons_succ, List.set_cons_zero]
            go_big_quiet_want
            refine quiet_pure (.bool false) (fun W hW => exec_eqI _ _ _ _ _ _ rfl rfl rfl q4) ?_
            go_big_quiet_on
            simp only [Act.put, List.setIfInBounds_toArray, List.set_cons_succ, List.set_cons_zero]
            go_big_quiet_want
            refine quiet_pure (.bool false) (fun W hW => exec_pick _ _ _ false _ rfl rfl rfl) ?_
            go_big_quiet_on
            simp only [Act.put, List.setIfInBounds_toArray, List.set_cons_succ, List.set_cons_zero]
            go_big_quiet_want
            refine quiet_pure (.bool false) (fun W hW => exec_pick _ _ _ true _ rfl rfl rfl) ?_
            go_big_quiet_on
            simp only [Act.put, List.setIfInBounds_toArray, List.set_cons_succ, List.set_cons_zero]
            go_big_quiet_step (fail)
            refine wpQuiet_nil ?_
            intro wq bq
            clear PW
            go_wp2
            go_ret
            exact ⟨by first | rfl | (rw [em]; rfl), later b1.out bq⟩
      · have q2 : eqI (beg x.net k) x.net = false := decide_eq_false h2
        have em : mayW x = false := by unfold mayW; exact decide_eq_false (fun h => h2 (by rw [hk]; exact h.2.2.1))
        refine region_quiet_C (fun W => Below w1.heap.size w1 W) (by kernel_rfl) (by kernel_rfl) (later_drew _) ?_
        go_big_quiet_want
        refine quiet_pure (.pointer (some ⟨s, 4, none⟩)) (fun W hW => exec_fieldO 33 _ 1 s 0 4 rfl rfl (fun w => by kernel_rfl)) ?_
        go_big_quiet_on
        simp only [Act.put, List.setIfInBounds_toArray, List.set_cons_succ, List.set_cons_zero]
        go_big_quiet_want
        refine quiet_pure (.int .i64 x.bits) (fun W hW => exec_load1 3 one1 _ rfl s 4 rfl (.int .i64 x.bits) ((PW W hW).2.1)) ?_
        go_big_quiet_on
        simp only [Act.put, List.setIfInBounds_toArray, List.set_cons_succ, List.set_cons_zero]
        go_big_quiet_want
        refine quiet_pure (.bool true) (fun W hW => exec_gei _ _ _ _ _ _ rfl rfl rfl (decide_eq_true h0)) ?_
        go_big_quiet_on
        simp only [Act.put, List.setIfInBounds_toArray, List.set_cons_succ, List.set_cons_zero]
        go_big_quiet_step (fail)
        go_big_quiet_want
        refine quiet_pure (.pointer (some ⟨s, 4, none⟩)) (fun W hW => exec_fieldO 33 _ 1 s 0 4 rfl rfl (fun w => by kernel_rfl)) ?_
        go_big_quiet_on
        simp only [Act.put, List.setIfInBounds_toArray, List.set_cons_succ, List.set_cons_zero]
        go_big_quiet_want
        refine quiet_pure (.int .i64 x.bits) (fun W hW => exec_load1 3 one1 _ rfl s 4 rfl (.int .i64 x.bits) ((PW W hW).2.1)) ?_
        go_big_quiet_on
        simp only [Act.put, List.setIfInBounds_toArray, List.set_cons_succ, List.set_cons_zero]
        go_big_quiet_want
        refine quiet_pure (.bool true) (fun W hW => exec_lei _ _ _ _ _ _ rfl rfl rfl (decide_eq_true h1)) ?_
        go_big_quiet_on
        simp only [Act.put, List.setIfInBounds_toArray, List.set_cons_succ, List.set_cons_zero]
        go_big_quiet_want
        refine quiet_pure (.bool true) (fun W hW => exec_pick _ _ _ true _ rfl rfl rfl) ?_
        go_big_quiet_on
        simp only [Act.put, List.setIfInBounds_toArray, List.set_cons_succ, List.set_cons_zero]
        go_big_quiet_step (fail)
        go_big_quiet_want
        refine quiet_pure (.pointer (some ⟨s, 0, none⟩)) (fun W hW => exec_fieldO 33 _ 0 s 0 0 rfl rfl (fun w => by kernel_rfl)) ?_
        go_big_quiet_on
        simp only [Act.put, List.setIfInBounds_toArray, List.set_cons_succ, List.set_cons_zero]
        go_big_quiet_want
        refine quiet_pure (.agg (x.net.vals).toArray) (fun W hW => exec_loadA 31 4 aggI sizI _ rfl s 0 rfl (x.net.vals) rfl ((PW W hW).1)) ?_
        go_big_quiet_on
        simp only [Act.put, List.setIfInBounds_toArray, List.set_cons_succ, List.set_cons_zero]
        go_big_quiet_want
        refine quiet_pure (.pointer (some ⟨s, 4, none⟩)) (fun W hW => exec_fieldO 33 _ 1 s 0 4 rfl rfl (fun w => by kernel_rfl)) ?_
        go_big_quiet_on
        simp only [Act.put, List.setIfInBounds_toArray, List.set_cons_succ, List.set_cons_zero]
        go_big_quiet_want
        refine quiet_pure (.int .i64 x.bits) (fun W hW => exec_load1 3 one1 _ rfl s 4 rfl (.int .i64 x.bits) ((PW W hW).2.1)) ?_
        go_big_quiet_on
        simp only [Act.put, List.setIfInBounds_toArray, List.set_cons_succ, List.set_cons_zero]
        go_big_quiet_want
        refine quiet_call 20 #[.agg x.net.vals.toArray, .int .i64 x.bits] (.agg (beg x.net k).vals.toArray) (fun _ => by simp [Act.eval, go_sem]) (fun W hW => by rw [ek]; exact (beginning_any x.net k HX.out.net k32 W).mono fun e w' h => ⟨h.1, later hW h.2⟩) ?_
        go_big_quiet_on
        simp only [Act.put, List.setIfInBounds_toArray, List.set_cons_succ, List.set_cons_zero]
        go_big_quiet_want
        refine quiet_pure (.pointer (some ⟨s, 0, none⟩)) (fun W hW => exec_fieldO 33 _ 0 s 0 0 rfl rfl (fun w => by kernel_rfl)) ?_
        go_big_quiet_on
        simp only [Act.put, List.setIfInBounds_toArray, List.set_cons_succ, List.set_cons_zero]
        go_big_quiet_want
        refine quiet_pure (.agg (x.net.vals).toArray) (fun W hW => exec_loadA 31 4 aggI sizI _ rfl s 0 rfl (x.net.vals) rfl ((PW W hW).1)) ?_
        go_big_quiet_on
        simp only [Act.put, List.setIfInBounds_toArray, List.set_cons_succ, List.set_cons_zero]
        go_big_quiet_want
        refine quiet_pure (.bool false) (fun W hW => exec_eqI _ _ _ _ _ _ rfl rfl rfl q2) ?_
        go_big_quiet_on
        simp only [Act.put, List.setIfInBounds_toArray, List.set_cons_succ, List.set_cons_zero]
        go_big_quiet_want
        refine quiet_pure (.bool false) (fun W hW => exec_pick _ _ _ true _ rfl rfl rfl) ?_
        go_big_quiet_on
        simp only [Act.put, List.setIfInBounds_toArray, List.set_cons_succ, List.set_cons_zero]
        go_big_quiet_step (fail)
        go_big_quiet_step (fail)
        go_big_quiet_step (fail)
        go_big_quiet_step (fail)
        go_big_quiet_step (fail)
        go_big_quiet_step (fail)
        go_big_quiet_step (fail)
        go_big_quiet_step (fail)
        go_big_quiet_step (fail)
        go_big_quiet_want
        refine quiet_pure (.bool false) (fun W hW => exec_pick _ _ _ false _ rfl rfl rfl) ?_
        go_big_quiet_on
        simp only [Act.put, List.setIfInBounds_toArray, List.set_cons_succ, List.set_cons_zero]
        go_big_quiet_step (fail)
        refine wpQuiet_nil ?_
        intro wq bq
        clear PW
        go_wp2
        go_ret
        exact ⟨by first | rfl | (rw [em]; rfl), later b1.out bq⟩
    · have em : mayW x = false := by unfold mayW; exact decide_eq_false (fun h => h1 h.2.1)
      refine region_quiet_C (fun W => Below w1.heap.size w1 W) (by kernel_rfl) (by kernel_rfl) (later_drew _) ?_
      go_big_quiet_want
      refine quiet_pure (.pointer (some ⟨s, 4, none⟩)) (fun W hW => exec_fieldO 33 _ 1 s 0 4 rfl rfl (fun w => by kernel_rfl)) ?_
      go_big_quiet_on
      simp only [Act.put, List.setIfInBounds_toArray, List.set_cons_succ, List.set_cons_zero]
      go_big_quiet_want
      refine quiet_pure (.int .i64 x.bits) (fun W hW => exec_load1 3 one1 _ rfl s 4 rfl (.int .i64 x.bits) ((PW W hW).2.1)) ?_
      go_big_quiet_on
      simp only [Act.put, List.setIfInBounds_toArray, List.set_cons_succ, List.set_cons_zero]
      go_big_quiet_want
      refine quiet_pure (.bool true) (fun W hW => exec_gei _ _ _ _ _ _ rfl rfl rfl (decide_eq_true h0)) ?_
      go_big_quiet_on
      simp only [Act.put, List.setIfInBounds_toArray, List.set_cons_succ, List.set_cons_zero]
      go_big_quiet_step (fail)
      go_big_quiet_want
      refine quiet_pure (.pointer (some ⟨s, 4, none⟩)) (fun W hW => exec_fieldO 33 _ 1 s 0 4 rfl rfl (fun w => by kernel_rfl)) ?_
      go_big_quiet_on
      simp only [Act.put, List.setIfInBounds_toArray, List.set_cons_succ, List.set_cons_zero]
      go_big_quiet_want
      refine quiet_pure (.int .i64 x.bits) (fun W hW => exec_load1 3 one1 _ rfl s 4 rfl (.int .i64 x.bits) ((PW W hW).2.1)) ?_
      go_big_quiet_on
      simp only [Act.put, List.setIfInBounds_toArray, List.set_cons_succ, List.set_cons_zero]
      go_big_quiet_want
      refine quiet_pure (.bool false) (fun W hW => exec_lei _ _ _ _ _ _ rfl rfl rfl (decide_eq_false h1)) ?_
      go_big_quiet_on
      simp only [Act.put, List.setIfInBounds_toArray, List.set_cons_succ, List.set_cons_zero]
      go_big_quiet_want
      refine quiet_pure (.bool false) (fun W hW => exec_pick _ _ _ true _ rfl rfl rfl) ?_
      go_big_quiet_on
      simp only [Act.put, List.setIfInBounds_toArray, List.set_cons_succ, List.set_cons_zero]
      go_big_quiet_step (fail)
      go_big_quiet_step (fail)
      go_big_quiet_step (fail)
      go_big_quiet_step (fail)
      go_big_quiet_step (fail)
      go_big_quiet_step (fail)
      go_big_quiet_step (fail)
      go_big_quiet_step (fail)
      go_big_quiet_step (fail)
      go_big_quiet_want
      refine quiet_pure (.bool false) (fun W hW => exec_pick _ _ _ false _ rfl rfl rfl) ?_
      go_big_quiet_on
      simp only [Act.put, List.setIfInBounds_toArray, List.set_cons_succ, List.set_cons_zero]
      go_big_quiet_step (fail)
      go_big_quiet_step (fail)
      go_big_quiet_step (fail)
      go_big_quiet_step (fail)
      go_big_quiet_step (fail)
      go_big_quiet_step (fail)
      go_big_quiet_step (fail)
      go_big_quiet_step (fail)
      go_big_quiet_step (fail)
      go_big_quiet_want
      refine quiet_pure (.bool false) (fun W hW => exec_pick _ _ _ false _ rfl rfl rfl) ?_
      go_big_quiet_on
      simp only [Act.put, List.setIfInBounds_toArray, List.set_cons_succ, List.set_cons_zero]
      go_big_quiet_step (fail)
      refine wpQuiet_nil ?_
      intro wq bq
      clear PW
      go_wp2
      go_ret
      exact ⟨by first | rfl | (rw [em]; rfl), later b1.out bq⟩
  · have em : mayW x = false := by unfold mayW; exact decide_eq_false (fun h => h0 h.1)
    refine region_quiet_C (fun W => Below w1.heap.size w1 W) (by kernel_rfl) (by kernel_rfl) (later_drew _) ?_
    go_big_quiet_want
    refine quiet_pure (.pointer (some ⟨s, 4, none⟩)) (fun W hW => exec_fieldO 33 _ 1 s 0 4 rfl rfl (fun w => by kernel_rfl)) ?_
    go_big_quiet_on
    simp only [Act.put, List.setIfInBounds_toArray, List.set_cons_succ, List.set_cons_zero]
    go_big_quiet_want
    refine quiet_pure (.int .i64 x.bits) (fun W hW => exec_load1 3 one1 _ rfl s 4 rfl (.int .i64 x.bits) ((PW W hW).2.1)) ?_
    go_big_quiet_on
    simp only [Act.put, List.setIfInBounds_toArray, List.set_cons_succ, List.set_cons_zero]
    go_big_quiet_want
    refine quiet_pure (.bool false) (fun W hW => exec_gei _ _ _ _ _ _ rfl rfl rfl (decide_eq_false h0)) ?_
    go_big_quiet_on
    simp only [Act.put, List.setIfInBounds_toArray, List.set_cons_succ, List.set_cons_zero]
    go_big_quiet_step (fail)
    go_big_quiet_step (fail)
    go_big_quiet_step (fail)
    go_big_quiet_step (fail)
    go_big_quiet_want
    refine quiet_pure (.bool false) (fun W hW => exec_pick _ _ _ false _ rfl rfl rfl) ?_
    go_big_quiet_on
    simp only [Act.put, List.setIfInBounds_toArray, List.set_cons_succ, List.set_cons_zero]
    go_big_quiet_step (fail)
    go_big_quiet_step (fail)
    go_big_quiet_step (fail)
    go_big_quiet_step (fail)
    go_big_quiet_step (fail)
    go_big_quiet_step (fail)
    go_big_quiet_step (fail)
    go_big_quiet_step (fail)
    go_big_quiet_step (fail)
    go_big_quiet_want
    refine quiet_pure (.bool false) (fun W hW => exec_pick _ _ _ false _ rfl rfl rfl) ?_
    go_big_quiet_on
    simp only [Act.put, List.setIfInBounds_toArray, List.set_cons_succ, List.set_cons_zero]
    go_big_quiet_step (fail)
    go_big_quiet_step (fail)
    go_big_quiet_step (fail)
    go_big_quiet_step (fail)
    go_big_quiet_step (fail)
    go_big_quiet_step (fail)
    go_big_quiet_step (fail)
    go_big_quiet_step (fail)
    go_big_quiet_step (fail)
    go_big_quiet_want
    refine quiet_pure (.bool false) (fun W hW => exec_pick _ _ _ false _ rfl rfl rfl) ?_
    go_big_quiet_on
    simp only [Act.put, List.setIfInBounds_toArray, List.set_cons_succ, List.set_cons_zero]
    go_big_quiet_step (fail)
    refine wpQuiet_nil ?_
    intro wq bq
    clear PW
    go_wp2
    go_ret
    exact ⟨by first | rfl | (rw [em]; rfl), later b1.out bq⟩
end Go.Proofs.Ytlfacppkgamkgaa
