
/-
  Package frag: areAtOdds.
-/
import Derived.Test.YtgempelfamjabaaF6
namespace Go.Proofs.Ytgempelfamjabaa
open Go.RowKit Go.Shelf

theorem exec_lss2 {o : Oper} {w : World} {ev : Operand → Value} (x y : Operand) (t : TypeId) (a b : Int) (r : Bool) (ho : o.op = .binOp .lss 3 x y t) (hx : ev x = .int .i64 a) (hy : ev y = .int .i64 b) (hr : decide (a < b) = r) : (execOp ev o).run Try.prog w = .ok (.value (.bool r)) w := by
  subst hr
  unfold execOp
  simp [ho, hx, hy, go_sem]
theorem exec_gtr2 {o : Oper} {w : World} {ev : Operand → Value} (x y : Operand) (t : TypeId) (a b : Int) (r : Bool) (ho : o.op = .binOp .gtr 3 x y t) (hx : ev x = .int .i64 a) (hy : ev y = .int .i64 b) (hr : decide (b < a) = r) : (execOp ev o).run Try.prog w = .ok (.value (.bool r)) w := by
  subst hr
  unfold execOp
  simp [ho, hx, hy, go_sem]
/-- can't two pieces be of one datagram? -/
def odds (x y : Pc) : Bool := (decide (x.at_ < y.end_) && decide (y.at_ < x.end_)) || ((x.last && y.last) || ((x.last && decide (x.end_ < y.end_)) || (y.last && decide (y.end_ < x.end_))))
theorem Pc.Ok.later {P : Nat → Prop} {W W' : World} {c : Pc} (h : c.Ok P W) (hb : Below W.heap.size W W') : c.Ok P W' := ⟨h.d.later hb, h.lo, h.hi⟩
set_option maxRecDepth 100000 in
set_option maxHeartbeats 4000000 in
theorem odds_any {P Q : Nat → Prop} (x y : Pc) (w : World) (hx : x.Ok P w) (hy : y.Ok Q w) : Calls Try.prog 47 #[.agg x.cells.toArray, .agg y.cells.toArray] w fun e w' => e = .returned (.bool (odds x y)) ∧ Below w.heap.size w w' := by
  rw [show (Value.agg x.cells.toArray) = .agg #[.int .i64 x.at_, x.dv, .bool x.last, .int .i64 x.buf] from rfl, show (Value.agg y.cells.toArray) = .agg #[.int .i64 y.at_, y.dv, .bool y.last, .int .i64 y.buf] from rfl]
  obtain ⟨X, hX⟩ : ∃ X, X = x.cells := ⟨_, rfl⟩
  obtain ⟨Y, hY⟩ : ∃ Y, Y = y.cells := ⟨_, rfl⟩
  have LX : Hid (X.length = 4) := by rw [hX]; exact rfl
  have LY : Hid (Y.length = 4) := by rw [hY]; exact rfl
  obtain ⟨s2, hs2⟩ : ∃ s, s = w.heap.size := ⟨_, rfl⟩
  obtain ⟨w1, hw1⟩ : ∃ w1, w1 = w.alloc (.cells x.cells.toArray 80) := ⟨_, rfl⟩
  obtain ⟨s3, hs3⟩ : ∃ s, s = w1.heap.size := ⟨_, rfl⟩
  obtain ⟨w2, hw2⟩ : ∃ w2, w2 = w1.alloc (.cells y.cells.toArray 80) := ⟨_, rfl⟩
  have b1 : Below w.heap.size w w1 := by rw [hw1]; exact later_alloc _ _
  have b2 : Below w1.heap.size w1 w2 := by rw [hw2]; exact later_alloc _ _
  have c1 : CellsAt w1 s2 0 x.cells := by rw [hw1, hs2]; exact CellsAt.new w _ _
  have l1 : s2 < w1.heap.size := c1.lt (Nat.zero_lt_succ _)
  have c2 : CellsAt w2 s3 0 y.cells := by rw [hw2, hs3]; exact CellsAt.new w1 _ _
  have l2 : s3 < w2.heap.size := c2.lt (Nat.zero_lt_succ _)
  have c12 := c1.later l1 b2
  have l12 : s2 < w2.heap.size := Nat.lt_of_lt_of_le l1 b2.size
  have B2 := hide (later b1 b2)
  have CX : Hid (∀ W, Below w2.heap.size w2 W → CellsAt W s2 0 X) := fun W hW => by rw [hX]; exact c12.later l12 hW
  have CY : Hid (∀ W, Below w2.heap.size w2 W → CellsAt W s3 0 Y) := fun W hW => by rw [hY]; exact c2.later l2 hW
  have X0 : Hid (∀ W, Below w2.heap.size w2 W → W.cell? ⟨s2, 0, none⟩ = some (.int .i64 x.at_) ∧ W.cell? ⟨s2, 2, none⟩ = some (.bool x.last)) := fun W hW => by
    have h := CX.out W hW
    rw [hX] at h
    exact ⟨h 0 _ rfl, h 2 _ rfl⟩
  have Y0 : Hid (∀ W, Below w2.heap.size w2 W → W.cell? ⟨s3, 0, none⟩ = some (.int .i64 y.at_) ∧ W.cell? ⟨s3, 2, none⟩ = some (.bool y.last)) := fun W hW => by
    have h := CY.out W hW
    rw [hY] at h
    exact ⟨h 0 _ rfl, h 2 _ rfl⟩
  have EX : Hid (∀ V W, Below w2.heap.size w2 V → Below V.heap.size V W → Calls Try.prog 50 #[.agg X.toArray] W fun e w' => e = .returned (.int .i64 x.end_) ∧ Below V.heap.size V w') := fun V W hV hW => by
    rw [hX]
    exact (end_any x W (hx.later (later B2.out (later hV hW)))).mono (fun e w' h => ⟨h.1, later hW h.2⟩)
  have EY : Hid (∀ V W, Below w2.heap.size w2 V → Below V.heap.size V W → Calls Try.prog 50 #[.agg Y.toArray] W fun e w' => e = .returned (.int .i64 y.end_) ∧ Below V.heap.size V w') := fun V W hV hW => by
    rw [hY]
    exact (end_any y W (hy.later (later B2.out (later hV hW)))).mono (fun e w' h => ⟨h.1, later hW h.2⟩)
  obtain ⟨xe, hxe⟩ : ∃ xe, xe = x.end_ := ⟨_, rfl⟩
  obtain ⟨ye, hye⟩ : ∃ ye, ye = y.end_ := ⟨_, rfl⟩
  rw [← hxe] at EX
  rw [← hye] at EY
  obtain ⟨xl, hxl⟩ : ∃ xl, xl = x.last := ⟨_, rfl⟩
  obtain ⟨yl, hyl⟩ : ∃ yl, yl = y.last := ⟨_, rfl⟩
  obtain ⟨xt, hxt⟩ : ∃ xt, xt = x.at_ := ⟨_, rfl⟩
  obtain ⟨yt, hyt⟩ : ∃ yt, yt = y.at_ := ⟨_, rfl⟩
  have OE : Hid (odds x y = ((decide (xt < ye) && decide (yt < xe)) || ((xl && yl) || ((xl && decide (xe < ye)) || (yl && decide (ye < xe)))))) := by rw [hxe, hye, hxl, hyl, hxt, hyt]; exact rfl
  rw [← hxt, ← hxl] at X0
  rw [← hyt, ← hyl] at Y0
  rw [OE.out]
  have hw1' : w.alloc (.cells #[.int .i64 xt, x.dv, .bool xl, .int .i64 x.buf] 80) = w1 := by rw [hw1, hxt, hxl]; rfl
  have hw2' : w1.alloc (.cells #[.int .i64 yt, y.dv, .bool yl, .int .i64 y.buf] 80) = w2 := by rw [hw2, hyt, hyl]; rfl
  rw [← hxt, ← hxl, ← hyt, ← hyl]
  have hs2' := hs2.symm
  have hs3' := hs3.symm
  have BW : Hid (∀ W, Below w2.heap.size w2 W → Below w.heap.size w W ∧ Below s2 w W) := fun W hW => ⟨later B2.out hW, by rw [hs2]; exact later B2.out hW⟩
  clear hs2 hs3 hw1 hw2 b1 b2 c1 c2 c12 hX hY hxe hye hxl hyl hxt hyt OE hx hy
  go_enter Try.func47, Try.ntmps47
  go_upto_region 1 with fail
  clear hs2' hs3' hw1' hw2'
  go_cut [5] from 6 to 17 (fun v5 wx => v5 = .bool (decide (xt < ye) && decide (yt < xe)) ∧ Hid (Below w2.heap.size w2 wx))
  case first =>
    by_cases A : xt < ye
    · have EA : Hid (decide (xt < ye) = true) := decide_eq_true A
      clear A
      by_cases B : yt < xe
      · have EB : Hid (decide (yt < xe) = true) := decide_eq_true B
        clear B
        refine region_quiet_C (fun W => Below w2.heap.size w2 W) (by kernel_rfl) (by kernel_rfl) (later_drew _) ?_
        go_big_quiet_want
        refine quiet_pure (.pointer (some ⟨s2, 0, none⟩)) (fun W hW => exec_fieldO 80 _ 0 s2 0 0 rfl rfl (fun w => by kernel_rfl)) ?_
        go_big_quiet_on
        simp only [Act.put, List.setIfInBounds_toArray, List.set_cons_succ, List.set_cons_zero]
        go_big_quiet_want
        refine quiet_pure (.int .i64 xt) (fun W hW => exec_load1 3 one1 _ rfl s2 0 rfl (.int .i64 xt) ((X0.out W hW).1)) ?_
        go_big_quiet_on
        simp only [Act.put, List.setIfInBounds_toArray, List.set_cons_succ, List.set_cons_zero]
        go_big_quiet_want
        refine quiet_pure (.agg Y.toArray) (fun W hW => exec_loadA 80 4 aggPc sizPc _ rfl s3 0 rfl Y LY.out (CY.out W hW)) ?_
        go_big_quiet_on
        simp only [Act.put, List.setIfInBounds_toArray, List.set_cons_succ, List.set_cons_zero]
        go_big_quiet_want
        refine quiet_call 50 #[.agg Y.toArray] (.int .i64 ye) (fun _ => by simp [Act.eval, go_sem]) (fun W hW => EY.out w2 W (Below.refl _ _) hW) ?_
        go_big_quiet_on
        simp only [Act.put, List.setIfInBounds_toArray, List.set_cons_succ, List.set_cons_zero]
        go_big_quiet_want
        refine quiet_pure (.bool true) (fun W hW => exec_lss2 _ _ _ _ _ true rfl rfl rfl EA.out) ?_
        go_big_quiet_on
        simp only [Act.put, List.setIfInBounds_toArray, List.set_cons_succ, List.set_cons_zero]
        go_big_quiet_step (fail)
        go_big_quiet_want
        refine quiet_pure (.pointer (some ⟨s3, 0, none⟩)) (fun W hW => exec_fieldO 80 _ 0 s3 0 0 rfl rfl (fun w => by kernel_rfl)) ?_
        go_big_quiet_on
        simp only [Act.put, List.setIfInBounds_toArray, List.set_cons_succ, List.set_cons_zero]
        go_big_quiet_want
        refine quiet_pure (.int .i64 yt) (fun W hW => exec_load1 3 one1 _ rfl s3 0 rfl (.int .i64 yt) ((Y0.out W hW).1)) ?_
        go_big_quiet_on
        simp only [Act.put, List.setIfInBounds_toArray, List.set_cons_succ, List.set_cons_zero]
        go_big_quiet_want
        refine quiet_pure (.agg X.toArray) (fun W hW => exec_loadA 80 4 aggPc sizPc _ rfl s2 0 rfl X LX.out (CX.out W hW)) ?_
        go_big_quiet_on
        simp only [Act.put, List.setIfInBounds_toArray, List.set_cons_succ, List.set_cons_zero]
        go_big_quiet_want
        refine quiet_call 50 #[.agg X.toArray] (.int .i64 xe) (fun _ => by simp [Act.eval, go_sem]) (fun W hW => EX.out w2 W (Below.refl _ _) hW) ?_
        go_big_quiet_on
        simp only [Act.put, List.setIfInBounds_toArray, List.set_cons_succ, List.set_cons_zero]
        go_big_quiet_want
        refine quiet_pure (.bool true) (fun W hW => exec_lss2 _ _ _ _ _ true rfl rfl rfl EB.out) ?_
        go_big_quiet_on
        simp only [Act.put, List.setIfInBounds_toArray, List.set_cons_succ, List.set_cons_zero]
        go_big_quiet_want
        refine quiet_pure (.bool true) (fun W hW => exec_pick _ _ _ true _ rfl rfl rfl) ?_
        go_big_quiet_on
        simp only [Act.put, List.setIfInBounds_toArray, List.set_cons_succ, List.set_cons_zero]
        go_big_quiet_step (fail)
        refine wpQuiet_nil ?_
        intro wq bq
        go_wp2
        go_meet
        exact ⟨by rw [EA.out, EB.out]; rfl, bq⟩
      · have EB : Hid (decide (yt < xe) = false) := decide_eq_false B
        clear B
        refine region_quiet_C (fun W => Below w2.heap.size w2 W) (by kernel_rfl) (by kernel_rfl) (later_drew _) ?_
        go_big_quiet_want
        refine quiet_pure (.pointer (some ⟨s2, 0, none⟩)) (fun W hW => exec_fieldO 80 _ 0 s2 0 0 rfl rfl (fun w => by kernel_rfl)) ?_
        go_big_quiet_on
        simp only [Act.put, List.setIfInBounds_toArray, List.set_cons_succ, List.set_cons_zero]
        go_big_quiet_want
        refine quiet_pure (.int .i64 xt) (fun W hW => exec_load1 3 one1 _ rfl s2 0 rfl (.int .i64 xt) ((X0.out W hW).1)) ?_
        go_big_quiet_on
        simp only [Act.put, List.setIfInBounds_toArray, List.set_cons_succ, List.set_cons_zero]
        go_big_quiet_want
        refine quiet_pure (.agg Y.toArray) (fun W hW => exec_loadA 80 4 aggPc sizPc _ rfl s3 0 rfl Y LY.out (CY.out W hW)) ?_
        go_big_quiet_on
        simp only [Act.put, List.setIfInBounds_toArray, List.set_cons_succ, List.set_cons_zero]
        go_big_quiet_want
        refine quiet_call 50 #[.agg Y.toArray] (.int .i64 ye) (fun _ => by simp [Act.eval, go_sem]) (fun W hW => EY.out w2 W (Below.refl _ _) hW) ?_
        go_big_quiet_on
        simp only [Act.put, List.setIfInBounds_toArray, List.set_cons_succ, List.set_cons_zero]
        go_big_quiet_want
        refine quiet_pure (.bool true) (fun W hW => exec_lss2 _ _ _ _ _ true rfl rfl rfl EA.out) ?_
        go_big_quiet_on
        simp only [Act.put, List.setIfInBounds_toArray, List.set_cons_succ, List.set_cons_zero]
        go_big_quiet_step (fail)
        go_big_quiet_want
        refine quiet_pure (.pointer (some ⟨s3, 0, none⟩)) (fun W hW => exec_fieldO 80 _ 0 s3 0 0 rfl rfl (fun w => by kernel_rfl)) ?_
        go_big_quiet_on
        simp only [Act.put, List.setIfInBounds_toArray, List.set_cons_succ, List.set_cons_zero]
        go_big_quiet_want
        refine quiet_pure (.int .i64 yt) (fun W hW => exec_load1 3 one1 _ rfl s3 0 rfl (.int .i64 yt) ((Y0.out W hW).1)) ?_
        go_big_quiet_on
        simp only [Act.put, List.setIfInBounds_toArray, List.set_cons_succ, List.set_cons_zero]
        go_big_quiet_want
        refine quiet_pure (.agg X.toArray) (fun W hW => exec_loadA 80 4 aggPc sizPc _ rfl s2 0 rfl X LX.out (CX.out W hW)) ?_
        go_big_quiet_on
        simp only [Act.put, List.setIfInBounds_toArray, List.set_cons_succ, List.set_cons_zero]
        go_big_quiet_want
        refine quiet_call 50 #[.agg X.toArray] (.int .i64 xe) (fun _ => by simp [Act.eval, go_sem]) (fun W hW => EX.out w2 W (Below.refl _ _) hW) ?_
        go_big_quiet_on
        simp only [Act.put, List.setIfInBounds_toArray, List.set_cons_succ, List.set_cons_zero]
        go_big_quiet_want
        refine quiet_pure (.bool false) (fun W hW => exec_lss2 _ _ _ _ _ false rfl rfl rfl EB.out) ?_
        go_big_quiet_on
        simp only [Act.put, List.setIfInBounds_toArray, List.set_cons_succ, List.set_cons_zero]
        go_big_quiet_want
        refine quiet_pure (.bool false) (fun W hW => exec_pick _ _ _ true _ rfl rfl rfl) ?_
        go_big_quiet_on
        simp only [Act.put, List.setIfInBounds_toArray, List.set_cons_succ, List.set_cons_zero]
        go_big_quiet_step (fail)
        refine wpQuiet_nil ?_
        intro wq bq
        go_wp2
        go_meet
        exact ⟨by rw [EA.out, EB.out]; rfl, bq⟩
    · have EA : Hid (decide (xt < ye) = false) := decide_eq_false A
      clear A
      refine region_quiet_C (fun W => Below w2.heap.size w2 W) (by kernel_rfl) (by kernel_rfl) (later_drew _) ?_
      go_big_quiet_want
      refine quiet_pure (.pointer (some ⟨s2, 0, none⟩)) (fun W hW => exec_fieldO 80 _ 0 s2 0 0 rfl rfl (fun w => by kernel_rfl)) ?_
      go_big_quiet_on
      simp only [Act.put, List.setIfInBounds_toArray, List.set_cons_succ, List.set_cons_zero]
      go_big_quiet_want
      refine quiet_pure (.int .i64 xt) (fun W hW => exec_load1 3 one1 _ rfl s2 0 rfl (.int .i64 xt) ((X0.out W hW).1)) ?_
      go_big_quiet_on
      simp only [Act.put, List.setIfInBounds_toArray, List.set_cons_succ, List.set_cons_zero]
      go_big_quiet_want
      refine quiet_pure (.agg Y.toArray) (fun W hW => exec_loadA 80 4 aggPc sizPc _ rfl s3 0 rfl Y LY.out (CY.out W hW)) ?_
      go_big_quiet_on
      simp only [Act.put, List.setIfInBounds_toArray, List.set_cons_succ, List.set_cons_zero]
      go_big_quiet_want
      refine quiet_call 50 #[.agg Y.toArray] (.int .i64 ye) (fun _ => by simp [Act.eval, go_sem]) (fun W hW => EY.out w2 W (Below.refl _ _) hW) ?_
      go_big_quiet_on
      simp only [Act.put, List.setIfInBounds_toArray, List.set_cons_succ, List.set_cons_zero]
      go_big_quiet_want
      refine quiet_pure (.bool false) (fun W hW => exec_lss2 _ _ _ _ _ false rfl rfl rfl EA.out) ?_
      go_big_quiet_on
      simp only [Act.put, List.setIfInBounds_toArray, List.set_cons_succ, List.set_cons_zero]
      go_big_quiet_step (fail)
      go_big_quiet_step (fail)
      go_big_quiet_step (fail)
      go_big_quiet_step (fail)
      go_big_quiet_step (fail)
      go_big_quiet_step (fail)
      go_big_quiet_want
      refine quiet_pure (.bool false) (fun W hW => exec_pick _ _ _ false _ rfl rfl rfl) ?_
      go_big_quiet_on
      simp only [Act.put, List.setIfInBounds_toArray, List.set_cons_succ, List.set_cons_zero]
      go_big_quiet_step (fail)
      refine wpQuiet_nil ?_
      intro wq bq
      go_wp2
      go_meet
      exact ⟨by rw [EA.out]; rfl, bq⟩
  case rest =>
    obtain ⟨rfl, BC⟩ := hcut
    obtain ⟨ab, hab⟩ : ∃ ab, ab = (decide (xt < ye) && decide (yt < xe)) := ⟨_, rfl⟩
    have HAB := hide hab.symm
    rw [← hab]
    clear hab
    have BD := hide (BW.out _ BC.out)
    cases ab with
    | true =>
      go_wp2
      go_ret
      first | exact ⟨by rw [HAB.out]; rfl, BD.out.1⟩ | exact ⟨by rw [HAB.out]; rfl, BD.out.2⟩
    | false =>
      have x2 := (X0.out wc BC.out).2
      have y2 := (Y0.out wc BC.out).2
      cases xl with
      | true =>
        cases yl with
        | true =>
          go_wp2
          go_ret
          first | exact ⟨by rw [HAB.out]; rfl, BD.out.1⟩ | exact ⟨by rw [HAB.out]; rfl, BD.out.2⟩
        | false =>
          by_cases C : xe < ye
          · have EC : Hid (decide (xe < ye) = true) := decide_eq_true C
            clear C
            go_upto_region 5 with fail
            clear x2 y2
            refine region_quiet_C (fun W => Below wc.heap.size wc W) (by kernel_rfl) (by kernel_rfl) (later_drew _) ?_
            go_big_quiet_want
            refine quiet_pure (.pointer (some ⟨s2, 2, none⟩)) (fun W hW => exec_fieldO 80 _ 2 s2 0 2 rfl rfl (fun w => by kernel_rfl)) ?_
            go_big_quiet_on
            simp only [Act.put, List.setIfInBounds_toArray, List.set_cons_succ, List.set_cons_zero]
            go_big_quiet_want
            refine quiet_pure (.bool true) (fun W hW => exec_load1 4 oneB _ rfl s2 2 rfl (.bool true) ((X0.out W (later BC.out hW)).2)) ?_
            go_big_quiet_on
            simp only [Act.put, List.setIfInBounds_toArray, List.set_cons_succ, List.set_cons_zero]
            go_big_quiet_step (fail)
            go_big_quiet_want
            refine quiet_pure (.agg Y.toArray) (fun W hW => exec_loadA 80 4 aggPc sizPc _ rfl s3 0 rfl Y LY.out (CY.out W (later BC.out hW))) ?_
            go_big_quiet_on
            simp only [Act.put, List.setIfInBounds_toArray, List.set_cons_succ, List.set_cons_zero]
            go_big_quiet_want
            refine quiet_call 50 #[.agg Y.toArray] (.int .i64 ye) (fun _ => by simp [Act.eval, go_sem]) (fun W hW => EY.out wc W BC.out hW) ?_
            go_big_quiet_on
            simp only [Act.put, List.setIfInBounds_toArray, List.set_cons_succ, List.set_cons_zero]
            go_big_quiet_want
            refine quiet_pure (.agg X.toArray) (fun W hW => exec_loadA 80 4 aggPc sizPc _ rfl s2 0 rfl X LX.out (CX.out W (later BC.out hW))) ?_
            go_big_quiet_on
            simp only [Act.put, List.setIfInBounds_toArray, List.set_cons_succ, List.set_cons_zero]
            go_big_quiet_want
            refine quiet_call 50 #[.agg X.toArray] (.int .i64 xe) (fun _ => by simp [Act.eval, go_sem]) (fun W hW => EX.out wc W BC.out hW) ?_
            go_big_quiet_on
            simp only [Act.put, List.setIfInBounds_toArray, List.set_cons_succ, List.set_cons_zero]
            go_big_quiet_want
            refine quiet_pure (.bool true) (fun W hW => exec_gtr2 _ _ _ _ _ true rfl rfl rfl EC.out) ?_
            go_big_quiet_on
            simp only [Act.put, List.setIfInBounds_toArray, List.set_cons_succ, List.set_cons_zero]
            go_big_quiet_want
            refine quiet_pure (.bool true) (fun W hW => exec_pick _ _ _ true _ rfl rfl rfl) ?_
            go_big_quiet_on
            simp only [Act.put, List.setIfInBounds_toArray, List.set_cons_succ, List.set_cons_zero]
            go_big_quiet_step (fail)
            go_big_quiet_step (fail)
            go_big_quiet_step (fail)
            go_big_quiet_step (fail)
            go_big_quiet_step (fail)
            go_big_quiet_step (fail)
            go_big_quiet_step (fail)
            go_big_quiet_step (fail)
            go_big_quiet_step (fail)
            go_big_quiet_step (fail)
            go_big_quiet_want
            refine quiet_pure (.bool true) (fun W hW => exec_pick _ _ _ true _ rfl rfl rfl) ?_
            go_big_quiet_on
            simp only [Act.put, List.setIfInBounds_toArray, List.set_cons_succ, List.set_cons_zero]
            go_big_quiet_step (fail)
            refine wpQuiet_nil ?_
            intro wq bq
            have BE := hide (BW.out _ (later BC.out bq))
            go_wp2
            go_ret
            first | exact ⟨by rw [HAB.out, EC.out]; rfl, BE.out.1⟩ | exact ⟨by rw [HAB.out, EC.out]; rfl, BE.out.2⟩
          · have EC : Hid (decide (xe < ye) = false) := decide_eq_false C
            clear C
            go_upto_region 5 with fail
            clear x2 y2
            refine region_quiet_C (fun W => Below wc.heap.size wc W) (by kernel_rfl) (by kernel_rfl) (later_drew _) ?_
            go_big_quiet_want
            refine quiet_pure (.pointer (some ⟨s2, 2, none⟩)) (fun W hW => exec_fieldO 80 _ 2 s2 0 2 rfl rfl (fun w => by kernel_rfl)) ?_
            go_big_quiet_on
            simp only [Act.put, List.setIfInBounds_toArray, List.set_cons_succ, List.set_cons_zero]
            go_big_quiet_want
            refine quiet_pure (.bool true) (fun W hW => exec_load1 4 oneB _ rfl s2 2 rfl (.bool true) ((X0.out W (later BC.out hW)).2)) ?_
            go_big_quiet_on
            simp only [Act.put, List.setIfInBounds_toArray, List.set_cons_succ, List.set_cons_zero]
            go_big_quiet_step (fail)
            go_big_quiet_want
            refine quiet_pure (.agg Y.toArray) (fun W hW => exec_loadA 80 4 aggPc sizPc _ rfl s3 0 rfl Y LY.out (CY.out W (later BC.out hW))) ?_
            go_big_quiet_on
            simp only [Act.put, List.setIfInBounds_toArray, List.set_cons_succ, List.set_cons_zero]
            go_big_quiet_want
            refine quiet_call 50 #[.agg Y.toArray] (.int .i64 ye) (fun _ => by simp [Act.eval, go_sem]) (fun W hW => EY.out wc W BC.out hW) ?_
            go_big_quiet_on
            simp only [Act.put, List.setIfInBounds_toArray, List.set_cons_succ, List.set_cons_zero]
            go_big_quiet_want
            refine quiet_pure (.agg X.toArray) (fun W hW => exec_loadA 80 4 aggPc sizPc _ rfl s2 0 rfl X LX.out (CX.out W (later BC.out hW))) ?_
            go_big_quiet_on
            simp only [Act.put, List.setIfInBounds_toArray, List.set_cons_succ, List.set_cons_zero]
            go_big_quiet_want
            refine quiet_call 50 #[.agg X.toArray] (.int .i64 xe) (fun _ => by simp [Act.eval, go_sem]) (fun W hW => EX.out wc W BC.out hW) ?_
            go_big_quiet_on
            simp only [Act.put, List.setIfInBounds_toArray, List.set_cons_succ, List.set_cons_zero]
            go_big_quiet_want
            refine quiet_pure (.bool false) (fun W hW => exec_gtr2 _ _ _ _ _ false rfl rfl rfl EC.out) ?_
            go_big_quiet_on
            simp only [Act.put, List.setIfInBounds_toArray, List.set_cons_succ, List.set_cons_zero]
            go_big_quiet_want
            refine quiet_pure (.bool false) (fun W hW => exec_pick _ _ _ true _ rfl rfl rfl) ?_
            go_big_quiet_on
            simp only [Act.put, List.setIfInBounds_toArray, List.set_cons_succ, List.set_cons_zero]
            go_big_quiet_step (fail)
            go_big_quiet_want
            refine quiet_pure (.pointer (some ⟨s3, 2, none⟩)) (fun W hW => exec_fieldO 80 _ 2 s3 0 2 rfl rfl (fun w => by kernel_rfl)) ?_
            go_big_quiet_on
            simp only [Act.put, List.setIfInBounds_toArray, List.set_cons_succ, List.set_cons_zero]
            go_big_quiet_want
            refine quiet_pure (.bool false) (fun W hW => exec_load1 4 oneB _ rfl s3 2 rfl (.bool false) ((Y0.out W (later BC.out hW)).2)) ?_
            go_big_quiet_on
            simp only [Act.put, List.setIfInBounds_toArray, List.set_cons_succ, List.set_cons_zero]
            go_big_quiet_step (fail)
            go_big_quiet_step (fail)
            go_big_quiet_step (fail)
            go_big_quiet_step (fail)
            go_big_quiet_step (fail)
            go_big_quiet_step (fail)
            go_big_quiet_want
            refine quiet_pure (.bool false) (fun W hW => exec_pick _ _ _ false _ rfl rfl rfl) ?_
            go_big_quiet_on
            simp only [Act.put, List.setIfInBounds_toArray, List.set_cons_succ, List.set_cons_zero]
            go_big_quiet_want
            refine quiet_pure (.bool false) (fun W hW => exec_pick _ _ _ false _ rfl rfl rfl) ?_
            go_big_quiet_on
            simp only [Act.put, List.setIfInBounds_toArray, List.set_cons_succ, List.set_cons_zero]
            go_big_quiet_step (fail)
            refine wpQuiet_nil ?_
            intro wq bq
            have BE := hide (BW.out _ (later BC.out bq))
            go_wp2
            go_ret
            first | exact ⟨by rw [HAB.out, EC.out]; rfl, BE.out.1⟩ | exact ⟨by rw [HAB.out, EC.out]; rfl, BE.out.2⟩
      | false =>
        cases yl with
        | true =>
          by_cases C : ye < xe
          · have EC : Hid (decide (ye < xe) = true) := decide_eq_true C
            clear C
            go_upto_region 5 with fail
            clear x2 y2
            refine region_quiet_C (fun W => Below wc.heap.size wc W) (by kernel_rfl) (by kernel_rfl) (later_drew _) ?_
            go_big_quiet_want
            refine quiet_pure (.pointer (some ⟨s2, 2, none⟩)) (fun W hW => exec_fieldO 80 _ 2 s2 0 2 rfl rfl (fun w => by kernel_rfl)) ?_
            go_big_quiet_on
            simp only [Act.put, List.setIfInBounds_toArray, List.set_cons_succ, List.set_cons_zero]
            go_big_quiet_want
            refine quiet_pure (.bool false) (fun W hW => exec_load1 4 oneB _ rfl s2 2 rfl (.bool false) ((X0.out W (later BC.out hW)).2)) ?_
            go_big_quiet_on
            simp only [Act.put, List.setIfInBounds_toArray, List.set_cons_succ, List.set_cons_zero]
            go_big_quiet_step (fail)
            go_big_quiet_step (fail)
            go_big_quiet_step (fail)
            go_big_quiet_step (fail)
            go_big_quiet_step (fail)
            go_big_quiet_step (fail)
            go_big_quiet_want
            refine quiet_pure (.bool false) (fun W hW => exec_pick _ _ _ false _ rfl rfl rfl) ?_
            go_big_quiet_on
            simp only [Act.put, List.setIfInBounds_toArray, List.set_cons_succ, List.set_cons_zero]
            go_big_quiet_step (fail)
            go_big_quiet_want
            refine quiet_pure (.pointer (some ⟨s3, 2, none⟩)) (fun W hW => exec_fieldO 80 _ 2 s3 0 2 rfl rfl (fun w => by kernel_rfl)) ?_
            go_big_quiet_on
            simp only [Act.put, List.setIfInBounds_toArray, List.set_cons_succ, List.set_cons_zero]
            go_big_quiet_want
            refine quiet_pure (.bool true) (fun W hW => exec_load1 4 oneB _ rfl s3 2 rfl (.bool true) ((Y0.out W (later BC.out hW)).2)) ?_
            go_big_quiet_on
            simp only [Act.put, List.setIfInBounds_toArray, List.set_cons_succ, List.set_cons_zero]
            go_big_quiet_step (fail)
            go_big_quiet_want
            refine quiet_pure (.agg X.toArray) (fun W hW => exec_loadA 80 4 aggPc sizPc _ rfl s2 0 rfl X LX.out (CX.out W (later BC.out hW))) ?_
            go_big_quiet_on
            simp only [Act.put, List.setIfInBounds_toArray, List.set_cons_succ, List.set_cons_zero]
            go_big_quiet_want
            refine quiet_call 50 #[.agg X.toArray] (.int .i64 xe) (fun _ => by simp [Act.eval, go_sem]) (fun W hW => EX.out wc W BC.out hW) ?_
            go_big_quiet_on
            simp only [Act.put, List.setIfInBounds_toArray, List.set_cons_succ, List.set_cons_zero]
            go_big_quiet_want
            refine quiet_pure (.agg Y.toArray) (fun W hW => exec_loadA 80 4 aggPc sizPc _ rfl s3 0 rfl Y LY.out (CY.out W (later BC.out hW))) ?_
            go_big_quiet_on
            simp only [Act.put, List.setIfInBounds_toArray, List.set_cons_succ, List.set_cons_zero]
            go_big_quiet_want
            refine quiet_call 50 #[.agg Y.toArray] (.int .i64 ye) (fun _ => by simp [Act.eval, go_sem]) (fun W hW => EY.out wc W BC.out hW) ?_
            go_big_quiet_on
            simp only [Act.put, List.setIfInBounds_toArray, List.set_cons_succ, List.set_cons_zero]
            go_big_quiet_want
            refine quiet_pure (.bool true) (fun W hW => exec_gtr2 _ _ _ _ _ true rfl rfl rfl EC.out) ?_
            go_big_quiet_on
            simp only [Act.put, List.setIfInBounds_toArray, List.set_cons_succ, List.set_cons_zero]
            go_big_quiet_want
            refine quiet_pure (.bool true) (fun W hW => exec_pick _ _ _ true _ rfl rfl rfl) ?_
            go_big_quiet_on
            simp only [Act.put, List.setIfInBounds_toArray, List.set_cons_succ, List.set_cons_zero]
            go_big_quiet_want
            refine quiet_pure (.bool true) (fun W hW => exec_pick _ _ _ false _ rfl rfl rfl) ?_
            go_big_quiet_on
            simp only [Act.put, List.setIfInBounds_toArray, List.set_cons_succ, List.set_cons_zero]
            go_big_quiet_step (fail)
            refine wpQuiet_nil ?_
            intro wq bq
            have BE := hide (BW.out _ (later BC.out bq))
            go_wp2
            go_ret
            first | exact ⟨by rw [HAB.out, EC.out]; rfl, BE.out.1⟩ | exact ⟨by rw [HAB.out, EC.out]; rfl, BE.out.2⟩
          · have EC : Hid (decide (ye < xe) = false) := decide_eq_false C
            clear C
            go_upto_region 5 with fail
            clear x2 y2
            refine region_quiet_C (fun W => Below wc.heap.size wc W) (by kernel_rfl) (by kernel_rfl) (later_drew _) ?_
            go_big_quiet_want
            refine quiet_pure (.pointer (some ⟨s2, 2, none⟩)) (fun W hW => exec_fieldO 80 _ 2 s2 0 2 rfl rfl (fun w => by kernel_rfl)) ?_
            go_big_quiet_on
            simp only [Act.put, List.setIfInBounds_toArray, List.set_cons_succ, List.set_cons_zero]
            go_big_quiet_want
            refine quiet_pure (.bool false) (fun W hW => exec_load1 4 oneB _ rfl s2 2 rfl (.bool false) ((X0.out W (later BC.out hW)).2)) ?_
            go_big_quiet_on
            simp only [Act.put, List.setIfInBounds_toArray, List.set_cons_succ, List.set_cons_zero]
            go_big_quiet_step (fail)
            go_big_quiet_step (fail)
            go_big_quiet_step (fail)
            go_big_quiet_step (fail)
            go_big_quiet_step (fail)
            go_big_quiet_step (fail)
            go_big_quiet_want
            refine quiet_pure (.bool false) (fun W hW => exec_pick _ _ _ false _ rfl rfl rfl) ?_
            go_big_quiet_on
            simp only [Act.put, List.setIfInBounds_toArray, List.set_cons_succ, List.set_cons_zero]
            go_big_quiet_step (fail)
            go_big_quiet_want
            refine quiet_pure (.pointer (some ⟨s3, 2, none⟩)) (fun W hW => exec_fieldO 80 _ 2 s3 0 2 rfl rfl (fun w => by kernel_rfl)) ?_
            go_big_quiet_on
            simp only [Act.put, List.setIfInBounds_toArray, List.set_cons_succ, List.set_cons_zero]
            go_big_quiet_want
            refine quiet_pure (.bool true) (fun W hW => exec_load1 4 oneB _ rfl s3 2 rfl (.bool true) ((Y0.out W (later BC.out hW)).2)) ?_
            go_big_quiet_on
            simp only [Act.put, List.setIfInBounds_toArray, List.set_cons_succ, List.set_cons_zero]
            go_big_quiet_step (fail)
            go_big_quiet_want
            refine quiet_pure (.agg X.toArray) (fun W hW => exec_loadA 80 4 aggPc sizPc _ rfl s2 0 rfl X LX.out (CX.out W (later BC.out hW))) ?_
            go_big_quiet_on
            simp only [Act.put, List.setIfInBounds_toArray, List.set_cons_succ, List.set_cons_zero]
            go_big_quiet_want
            refine quiet_call 50 #[.agg X.toArray] (.int .i64 xe) (fun _ => by simp [Act.eval, go_sem]) (fun W hW => EX.out wc W BC.out hW) ?_
            go_big_quiet_on
            simp only [Act.put, List.setIfInBounds_toArray, List.set_cons_succ, List.set_cons_zero]
            go_big_quiet_want
            refine quiet_pure (.agg Y.toArray) (fun W hW => exec_loadA 80 4 aggPc sizPc _ rfl s3 0 rfl Y LY.out (CY.out W (later BC.out hW))) ?_
            go_big_quiet_on
            simp only [Act.put, List.setIfInBounds_toArray, List.set_cons_succ, List.set_cons_zero]
            go_big_quiet_want
            refine quiet_call 50 #[.agg Y.toArray] (.int .i64 ye) (fun _ => by simp [Act.eval, go_sem]) (fun W hW => EY.out wc W BC.out hW) ?_
            go_big_quiet_on
            simp only [Act.put, List.setIfInBounds_toArray, List.set_cons_succ, List.set_cons_zero]
            go_big_quiet_want
            refine quiet_pure (.bool false) (fun W hW => exec_gtr2 _ _ _ _ _ false rfl rfl rfl EC.out) ?_
            go_big_quiet_on
            simp only [Act.put, List.setIfInBounds_toArray, List.set_cons_succ, List.set_cons_zero]
            go_big_quiet_want
            refine quiet_pure (.bool false) (fun W hW => exec_pick _ _ _ true _ rfl rfl rfl) ?_
            go_big_quiet_on
            simp only [Act.put, List.setIfInBounds_toArray, List.set_cons_succ, List.set_cons_zero]
            go_big_quiet_want
            refine quiet_pure (.bool false) (fun W hW => exec_pick _ _ _ false _ rfl rfl rfl) ?_
            go_big_quiet_on
            simp only [Act.put, List.setIfInBounds_toArray, List.set_cons_succ, List.set_cons_zero]
            go_big_quiet_step (fail)
            refine wpQuiet_nil ?_
            intro wq bq
            have BE := hide (BW.out _ (later BC.out bq))
            go_wp2
            go_ret
            first | exact ⟨by rw [HAB.out, EC.out]; rfl, BE.out.1⟩ | exact ⟨by rw [HAB.out, EC.out]; rfl, BE.out.2⟩
        | false =>
          go_upto_region 5 with fail
          clear x2 y2
          refine region_quiet_C (fun W => Below wc.heap.size wc W) (by kernel_rfl) (by kernel_rfl) (later_drew _) ?_
          go_big_quiet_want
          refine quiet_pure (.pointer (some ⟨s2, 2, none⟩)) (fun W hW => exec_fieldO 80 _ 2 s2 0 2 rfl rfl (fun w => by kernel_rfl)) ?_
          go_big_quiet_on
          simp only [Act.put, List.setIfInBounds_toArray, List.set_cons_succ, List.set_cons_zero]
          go_big_quiet_want
          refine quiet_pure (.bool false) (fun W hW => exec_load1 4 oneB _ rfl s2 2 rfl (.bool false) ((X0.out W (later BC.out hW)).2)) ?_
          go_big_quiet_on
          simp only [Act.put, List.setIfInBounds_toArray, List.set_cons_succ, List.set_cons_zero]
          go_big_quiet_step (fail)
          go_big_quiet_step (fail)
          go_big_quiet_step (fail)
          go_big_quiet_step (fail)
          go_big_quiet_step (fail)
          go_big_quiet_step (fail)
          go_big_quiet_want
          refine quiet_pure (.bool false) (fun W hW => exec_pick _ _ _ false _ rfl rfl rfl) ?_
          go_big_quiet_on
          simp only [Act.put, List.setIfInBounds_toArray, List.set_cons_succ, List.set_cons_zero]
          go_big_quiet_step (fail)
          go_big_quiet_want
          refine quiet_pure (.pointer (some ⟨s3, 2, none⟩)) (fun W hW => exec_fieldO 80 _ 2 s3 0 2 rfl rfl (fun w => by kernel_rfl)) ?_
          go_big_quiet_on
          simp only [Act.put, List.setIfInBounds_toArray, List.set_cons_succ, List.set_cons_zero]
          go_big_quiet_want
          refine quiet_pure (.bool false) (fun W hW => exec_load1 4 oneB _ rfl s3 2 rfl (.bool false) ((Y0.out W (later BC.out hW)).2)) ?_
          go_big_quiet_on
          simp only [Act.put, List.setIfInBounds_toArray, List.set_cons_succ, List.set_cons_zero]
          go_big_quiet_step (fail)
          go_big_quiet_step (fail)
          go_big_quiet_step (fail)
          go_big_quiet_step (fail)
          go_big_quiet_step (fail)
          go_big_quiet_step (fail)
          go_big_quiet_want
          refine quiet_pure (.bool false) (fun W hW => exec_pick _ _ _ false _ rfl rfl rfl) ?_
          go_big_quiet_on
          simp only [Act.put, List.setIfInBounds_toArray, List.set_cons_succ, List.set_cons_zero]
          go_big_quiet_want
          refine quiet_pure (.bool false) (fun W hW => exec_pick _ _ _ false _ rfl rfl rfl) ?_
          go_big_quiet_on
          simp only [Act.put, List.setIfInBounds_toArray, List.set_cons_succ, List.set_cons_zero]
          go_big_quiet_step (fail)
          refine wpQuiet_nil ?_
          intro wq bq
          have BE := hide (BW.out _ (later BC.out bq))
          go_wp2
          go_ret
          first | exact ⟨by rw [HAB.out]; rfl, BE.out.1⟩ | exact ⟨by rw [HAB.out]; rfl, BE.out.2⟩
end Go.Proofs.Ytgempelfamjabaa
