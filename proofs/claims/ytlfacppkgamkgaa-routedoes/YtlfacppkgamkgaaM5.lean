
/-
  Package route: keyOf, beginning.
-/
import Derived.Test.YtlfacppkgamkgaaM4
namespace Go.Proofs.Ytlfacppkgamkgaa
open Go.RowKit Go.Shelf

def B8 (n : Int) : Prop := 0 ≤ n ∧ n ≤ 255
def I4.Ok (x : I4) : Prop := B8 x.a ∧ B8 x.b ∧ B8 x.c ∧ B8 x.d
theorem sizU (w : World) : (Go.sizeOf 5).run Try.prog w = .ok 1 w := by kernel_rfl
theorem aggK (w : World) : (isAgg 54).run Try.prog w = .ok true w := by kernel_rfl
theorem sizK (w : World) : (Go.sizeOf 54).run Try.prog w = .ok 5 w := by kernel_rfl
theorem aggR (w : World) : (isAgg 57).run Try.prog w = .ok true w := by kernel_rfl
theorem sizR (w : World) : (Go.sizeOf 57).run Try.prog w = .ok 11 w := by kernel_rfl
theorem aggW (w : World) : (isAgg 33).run Try.prog w = .ok true w := by kernel_rfl
theorem sizW (w : World) : (Go.sizeOf 33).run Try.prog w = .ok 10 w := by kernel_rfl
set_option maxRecDepth 100000 in
set_option maxHeartbeats 1000000 in
theorem keyOf_any (n : I4) (k : Int) (hn : n.Ok) (w : World) : Calls Try.prog 17 #[n.val, .int .i64 k] w fun e w' => e = .returned (.agg (keyc n k).toArray) ∧ Below w.heap.size w w' := by
  obtain ⟨a, b, c, d⟩ := n
  obtain ⟨⟨a0, a1⟩, ⟨b0, b1⟩, ⟨c0, c1⟩, ⟨d0, d1⟩⟩ := hn
  simp only at a0 a1 b0 b1 c0 c1 d0 d1
  simp only [I4.val, keyc]
  have wa : IntKind.i64.wrap a = a := by rw [IntKind.wrap_i64]; omega
  have wb : IntKind.i64.wrap b = b := by rw [IntKind.wrap_i64]; omega
  have wc : IntKind.i64.wrap c = c := by rw [IntKind.wrap_i64]; omega
  have wd : IntKind.i64.wrap d = d := by rw [IntKind.wrap_i64]; omega
  have B2 : Hid (Below w.heap.size w ((w.alloc (.cells #[.int .u8 a, .int .u8 b, .int .u8 c, .int .u8 d] 31)).alloc (.cells #[.int .i64 a, .int .i64 b, .int .i64 c, .int .i64 d, .int .i64 k] 54))) := ((Below.refl _ _).alloc (Nat.le_refl _) _).alloc (by simp) _
  go_enter Try.func17, Try.ntmps17
  go_wp2
  refine bodyPost_ret (v := .agg #[.int .i64 a, .int .i64 b, .int .i64 c, .int .i64 d, .int .i64 k]) ?_ rfl ⟨rfl, B2.out⟩
  have hc := CellsAt.new (w.alloc (.cells #[.int .u8 a, .int .u8 b, .int .u8 c, .int .u8 d] 31)) [.int .i64 a, .int .i64 b, .int .i64 c, .int .i64 d, .int .i64 k] 54
  rw [World.size_alloc] at hc
  exact results_A rfl _ _ (w.heap.size + 1) _ rfl (run_loadVarA 54 5 aggK sizK _ 0 _ rfl hc)

section
variable {o : Oper} {w : World} {ev : Operand → Value}
theorem exec_ixA4 (x y : Operand) (g i : Nat) (ho : o.op = .indexAddr 31 x y) (hx : ev x = .pointer (some ⟨g, 0, none⟩)) (hy : ev y = .int .i64 (i : Int)) (hi : i < 4) : (execOp ev o).run Try.prog w = .ok (.value (.pointer (some ⟨g, i, none⟩))) w := by
  unfold execOp
  rcases i with _ | _ | _ | _ | i
  all_goals first | (exfalso; omega) | simp [ho, hx, hy, go_sem]
theorem exec_sub8 (y : Operand) (n : Nat) (ho : o.op = .binOp .sub 3 (.const (.int .i64 8)) y 3) (hc : ∀ v, ev (.const v) = v) (hy : ev y = .int .i64 (n : Int)) (hn : n ≤ 8) : (execOp ev o).run Try.prog w = .ok (.value (.int .i64 ((8 - n : Nat) : Int))) w := by
  unfold execOp
  simp [ho, hc, hy, go_sem]
  rw [IntKind.wrap_i64]
  omega
theorem exec_shl8 (y : Operand) (z : Nat) (ho : o.op = .binOp .shl 5 (.const (.int .u8 255)) y 3) (hc : ∀ v, ev (.const v) = v) (hy : ev y = .int .i64 (z : Int)) (hz : z ≤ 8) : (execOp ev o).run Try.prog w = .ok (.value (.int .u8 ((255 * 2 ^ z) % 256))) w := by
  unfold execOp
  have h9 : z = 0 ∨ z = 1 ∨ z = 2 ∨ z = 3 ∨ z = 4 ∨ z = 5 ∨ z = 6 ∨ z = 7 ∨ z = 8 := by omega
  rcases h9 with rfl | rfl | rfl | rfl | rfl | rfl | rfl | rfl | rfl <;> simp [ho, hc, hy, go_sem] <;> rfl
theorem exec_and8 (x y : Operand) (a m : Int) (ho : o.op = .binOp .and 5 x y 5) (hx : ev x = .int .u8 a) (hy : ev y = .int .u8 m) : (execOp ev o).run Try.prog w = .ok (.value (.int .u8 (bits .and .u8 a m))) w := by
  unfold execOp
  simp [ho, hx, hy, go_sem]
end
/-- the octets, the first i of them cut -/
def oc (x : I4) (k i j : Nat) : Int := match j with
  | 0 => if 0 < i then mk x.a (sh k 0) else x.a
  | 1 => if 1 < i then mk x.b (sh k 1) else x.b
  | 2 => if 2 < i then mk x.c (sh k 2) else x.c
  | _ => if 3 < i then mk x.d (sh k 3) else x.d
theorem oc_step (x : I4) (k i j : Nat) (hi : i < 4) (hj : j < 4) : oc x k (i + 1) j = if j = i then mk (oc x k i i) (sh k i) else oc x k i j := by
  rcases i with _ | _ | _ | _ | i
  all_goals first | (exfalso; omega) | skip
  all_goals rcases j with _ | _ | _ | _ | j
  all_goals first | (exfalso; omega) | rfl
theorem oc_bd {x : I4} (h : x.Ok) (k i j : Nat) : B8 (oc x k i j) := by
  obtain ⟨h1, h2, h3, h4⟩ := h
  unfold oc
  split <;> split <;> first | assumption | exact mk_bd _ (by first | exact h1.1 | exact h2.1 | exact h3.1 | exact h4.1) (by first | exact h1.2 | exact h2.2 | exact h3.2 | exact h4.2)
set_option maxRecDepth 100000 in
set_option maxHeartbeats 2000000 in
theorem beginning_any (x : I4) (k : Nat) (hx : x.Ok) (hk : k ≤ 32) (w : World) : Calls Try.prog 20 #[x.val, .int .i64 (k : Int)] w fun e w' => e = .returned (beg x k).val ∧ Below w.heap.size w w' := by
  obtain ⟨s, hs⟩ : ∃ s, s = w.heap.size := ⟨_, rfl⟩
  obtain ⟨w1, hw1⟩ : ∃ w1, w1 = (w.alloc (.cells x.vals.toArray 31)).alloc (.cells zI.vals.toArray 31) := ⟨_, rfl⟩
  have b1 : Hid (Below w.heap.size w w1) := by rw [hw1]; exact ((Below.refl _ w).alloc (Nat.le_refl _) _).alloc (by simp) _
  have c1 : Hid (∀ j, j < 4 → w1.cell? ⟨s, j, none⟩ = some (.int .u8 (oc x k 0 j))) := fun j hj => by
    have h := (CellsAt.new w x.vals 31).but (by simp) ((But.refl (fun _ => False) _).alloc (.cells zI.vals.toArray 31)) id
    have h2 := h j (.int .u8 (oc x k 0 j)) (by rcases j with _ | _ | _ | _ | j <;> first | rfl | (exfalso; omega))
    rw [hw1, hs]
    simpa using h2
  have c2 : Hid (CellsAt w1 (s + 1) 0 zI.vals) := by
    have h := CellsAt.new (w.alloc (.cells x.vals.toArray 31)) zI.vals 31
    rw [World.size_alloc, ← hs] at h
    unfold Hid; rw [hw1]; exact h
  have f1 : Hid (∀ j, w1.frozen? ⟨s, j, none⟩ = false) := fun j => by
    rw [hw1, hs]
    exact ((But.refl (fun _ => False) (w.alloc (.cells x.vals.toArray 31))).alloc (.cells zI.vals.toArray 31)).frozen (p := ⟨w.heap.size, j, none⟩) (by simp) id |>.trans (frozen_new w _ _ _)
  have f2 : Hid (∀ j, w1.frozen? ⟨s + 1, j, none⟩ = false) := fun j => by
    have h := frozen_new (w.alloc (.cells x.vals.toArray 31)) zI.vals.toArray 31 j
    rw [World.size_alloc, ← hs] at h
    rw [hw1]; exact h
  have z1 : Hid (w1.heap.size = s + 2) := by unfold Hid; rw [hw1, hs]; simp
  have kz : (k : Int) ≤ 32 := by omega
  have HX := hide hx
  have hw1' := hw1.symm
  have hs' := hs.symm
  have HS := hide hs
  simp only [I4.vals, zI] at hw1'
  simp only [I4.val]
  clear hw1 hs
  go_enter Try.func20, Try.ntmps20
  go_wp2
  clear hw1' hs'
  go_loopw [7] (fun v wr => ∃ m : Nat, v = .int .i64 (m : Int) ∧ m ≤ 4 ∧ Hid (∀ j, j < 4 → wr.cell? ⟨s, j, none⟩ = some (.int .u8 (oc x k m j))) ∧ Hid (∀ j, wr.frozen? ⟨s, j, none⟩ = false) ∧ Hid (But (Only s) w1 wr)) (fun v _ => 4 - (intOf v).toNat)
  case atStart => exact ⟨0, rfl, by omega, c1.out, f1.out, But.refl _ _⟩
  case round =>
    obtain ⟨m, rfl, hi, CI, FI, BI⟩ := hrel
    by_cases hmlt : m < 4
    · obtain ⟨z, hz⟩ : ∃ z, z = sh k m := ⟨_, rfl⟩
      have z8 : z ≤ 8 := by rw [hz]; unfold sh; omega
      obtain ⟨lf, hlf⟩ : ∃ lf : Nat, lf = min (k - 8 * m) 8 := ⟨_, rfl⟩
      have hzl : z = 8 - lf := by rw [hz, hlf]; rfl
      have hiz : (m : Int) < 4 := by omega
      go_upto_region 5 with fail
      have e1 : (if 8 < if (k : Int) - 8 * (m : Int) < 0 then 0 else (k : Int) - 8 * (m : Int) then 8 else if (k : Int) - 8 * (m : Int) < 0 then 0 else (k : Int) - 8 * (m : Int)) = (lf : Int) := by
        rw [hlf]
        split <;> split <;> omega
      rw [e1]
      have l8 : lf ≤ 8 := by omega
      obtain ⟨y, hy⟩ : ∃ y, y = oc x k m m := ⟨_, rfl⟩
      have cy := CI.out m hmlt
      rw [← hy] at cy
      have yb := oc_bd HX.out k m m
      rw [← hy] at yb
      have sl : s < wr.heap.size := World.block_lt_of_cell? wr _ cy
      have CY : ∀ W, Below wr.heap.size wr.drew W → W.cell? ⟨s, m, none⟩ = some (.int .u8 y) := fun W hb => (hb.cell (p := ⟨s, m, none⟩) sl).trans cy
      have FY : ∀ W, Below wr.heap.size wr.drew W → W.frozen? ⟨s, m, none⟩ = false := fun W hb => (hb.frozen (p := ⟨s, m, none⟩) sl).trans (FI.out m)
      have am := and_mk y z yb.1 yb.2 z8
      have wz : ((8 - lf : Nat) : Int) = (z : Int) := by rw [hzl]
      clear e1 hi hlf
      refine region_grow_store (w := wr) (fun i v W => match i with | 0 => v = .int .i64 (m : Int) | 1 => v = .pointer (some ⟨s, m, none⟩) | 2 => v = .int .u8 y | 3 => v = .int .i64 (lf : Int) | 4 => v = .int .i64 ((8 - lf : Nat) : Int) | 5 => v = .int .u8 ((255 * 2 ^ z) % 256) | 6 => v = .int .u8 (mk y z) | 7 => v = .pointer (some ⟨s, m, none⟩) | _ => True) (by kernel_rfl) (by kernel_rfl) (by kernel_rfl) 8 rfl _ rfl rfl (no_guard (by kernel_rfl)) (fun i v W W' h hb => match i, h with | 0, h => h | 1, h => h | 2, h => h | 3, h => h | 4, h => h | 5, h => h | 6, h => h | 7, h => h | _ + 8, h => h) ?_ ?_
      · intro listed a W hM hn i o ho hlt hr
        have B := hM.bel
        match i, ho, hlt, hr with
        | 0, ho, _, hr =>
          have u5 : a.eval (.tmp 5) = .int .i64 (m : Int) := hM.keep (t := 5) (by kernel_rfl)
          exact Step.of rfl (.inl ⟨.int .i64 (m : Int), W, exec_move _ _ rfl u5, Below.refl _ _, rfl⟩) ho
        | 1, ho, _, hr =>
          have u2 : a.eval (.tmp 2) = .pointer (some ⟨s, 0, none⟩) := hM.keep (t := 2) (by kernel_rfl)
          have u16 := hM.use hr rfl (j := 0) (by kernel_rfl) rfl rfl
          have u16 : a.eval (.tmp 16) = .int .i64 (m : Int) := u16
          exact Step.of rfl (.inl ⟨.pointer (some ⟨s, m, none⟩), W, exec_ixA4 _ _ s m rfl u2 u16 hmlt, Below.refl _ _, rfl⟩) ho
        | 2, ho, _, hr =>
          have u17 := hM.use hr rfl (j := 1) (by kernel_rfl) rfl rfl
          have u17 : a.eval (.tmp 17) = .pointer (some ⟨s, m, none⟩) := u17
          exact Step.of rfl (.inl ⟨.int .u8 y, W, exec_load1 5 oneU _ rfl s m u17 (.int .u8 y) (CY W B), Below.refl _ _, rfl⟩) ho
        | 3, ho, _, hr =>
          have u6 : a.eval (.tmp 6) = .int .i64 (lf : Int) := hM.keep (t := 6) (by kernel_rfl)
          exact Step.of rfl (.inl ⟨.int .i64 (lf : Int), W, exec_move _ _ rfl u6, Below.refl _ _, rfl⟩) ho
        | 4, ho, _, hr =>
          have u19 := hM.use hr rfl (j := 3) (by kernel_rfl) rfl rfl
          have u19 : a.eval (.tmp 19) = .int .i64 (lf : Int) := u19
          exact Step.of rfl (.inl ⟨.int .i64 ((8 - lf : Nat) : Int), W, exec_sub8 _ lf rfl (fun _ => rfl) u19 l8, Below.refl _ _, rfl⟩) ho
        | 5, ho, _, hr =>
          have u20 := hM.use hr rfl (j := 4) (by kernel_rfl) rfl rfl
          have u20 : a.eval (.tmp 20) = .int .i64 ((8 - lf : Nat) : Int) := u20
          exact Step.of rfl (.inl ⟨.int .u8 ((255 * 2 ^ z) % 256), W, exec_shl8 _ z rfl (fun _ => rfl) (by rw [← wz]; exact u20) z8, Below.refl _ _, rfl⟩) ho
        | 6, ho, _, hr =>
          have u18 := hM.use hr rfl (j := 2) (by kernel_rfl) rfl rfl
          have u18 : a.eval (.tmp 18) = .int .u8 y := u18
          have u21 := hM.use hr rfl (j := 5) (by kernel_rfl) rfl rfl
          have u21 : a.eval (.tmp 21) = .int .u8 ((255 * 2 ^ z) % 256) := u21
          exact Step.of rfl (.inl ⟨.int .u8 (mk y z), W, (by rw [← am]; exact exec_and8 _ _ y _ rfl u18 u21), Below.refl _ _, rfl⟩) ho
        | 7, ho, _, hr =>
          have u2 : a.eval (.tmp 2) = .pointer (some ⟨s, 0, none⟩) := hM.keep (t := 2) (by kernel_rfl)
          have u16 := hM.use hr rfl (j := 0) (by kernel_rfl) rfl rfl
          have u16 : a.eval (.tmp 16) = .int .i64 (m : Int) := u16
          exact Step.of rfl (.inl ⟨.pointer (some ⟨s, m, none⟩), W, exec_ixA4 _ _ s m rfl u2 u16 hmlt, Below.refl _ _, rfl⟩) ho
        | n + 8, _, hlt, _ => exact absurd hlt (by omega)
      intro listed a W hM hl
      have B := hM.bel
      have p16 : a.tmps.getD 16 undef = .int .i64 (m : Int) := hM.got 0 _ _ rfl (hl 0 (by decide)) rfl
      have p17 : a.tmps.getD 17 undef = .pointer (some ⟨s, m, none⟩) := hM.got 1 _ _ rfl (hl 1 (by decide)) rfl
      have p18 : a.tmps.getD 18 undef = .int .u8 y := hM.got 2 _ _ rfl (hl 2 (by decide)) rfl
      have p19 : a.tmps.getD 19 undef = .int .i64 (lf : Int) := hM.got 3 _ _ rfl (hl 3 (by decide)) rfl
      have p20 : a.tmps.getD 20 undef = .int .i64 ((8 - lf : Nat) : Int) := hM.got 4 _ _ rfl (hl 4 (by decide)) rfl
      have p21 : a.tmps.getD 21 undef = .int .u8 ((255 * 2 ^ z) % 256) := hM.got 5 _ _ rfl (hl 5 (by decide)) rfl
      have p22 : a.tmps.getD 22 undef = .int .u8 (mk y z) := hM.got 6 _ _ rfl (hl 6 (by decide)) rfl
      have p23 : a.tmps.getD 23 undef = .pointer (some ⟨s, m, none⟩) := hM.got 7 _ _ rfl (hl 7 (by decide)) rfl
      refine ⟨W.setCell ⟨s, m, none⟩ (.int .u8 (mk y z)), exec_store1 5 sizU (.tmp 23) (.tmp 22) rfl s m p23 _ _ p22 (CY W B) (FY W B) rfl, ?_⟩
      rw [hM.lit [16, 17, 18, 19, 20, 21, 22, 23] (by kernel_rfl)]
      clear hM hl
      simp only [fill, List.foldl_cons, List.foldl_nil, Act.put, List.setIfInBounds_toArray, List.set_cons_zero, List.set_cons_succ]
      clear p16
      generalize a.tmps.getD 16 undef = x16 at *
      clear p17
      generalize a.tmps.getD 17 undef = x17 at *
      clear p18
      generalize a.tmps.getD 18 undef = x18 at *
      clear p19
      generalize a.tmps.getD 19 undef = x19 at *
      clear p20
      generalize a.tmps.getD 20 undef = x20 at *
      clear p21
      generalize a.tmps.getD 21 undef = x21 at *
      clear p22
      generalize a.tmps.getD 22 undef = x22 at *
      clear p23
      generalize a.tmps.getD 23 undef = x23 at *
      have BW : But (Only s) w1 W := BI.out.trans (But.of_below (((Below.refl _ wr).drew).trans B))
      obtain ⟨we, hwe⟩ : ∃ we, we = W.setCell ⟨s, m, none⟩ (.int .u8 (mk y z)) := ⟨_, rfl⟩
      have BE : Hid (But (Only s) w1 we) := by rw [hwe]; exact BW.cellb (b := s) rfl m _
      have FE : Hid (∀ j, we.frozen? ⟨s, j, none⟩ = false) := fun j => by
        rw [hwe, World.frozen?_setCell]
        exact (B.frozen (p := ⟨s, j, none⟩) sl).trans (FI.out j)
      have CE : Hid (∀ j, j < 4 → we.cell? ⟨s, j, none⟩ = some (.int .u8 (oc x k (m + 1) j))) := fun j hj => by
        rw [oc_step x k m j hmlt hj, hwe]
        by_cases e : j = m
        · subst e
          rw [if_pos rfl, ← hy, ← hz]
          exact World.cell?_setCell_same _ _ _ (CY W B)
        · rw [if_neg e, setCell_out (show j ≠ m from e)]
          exact (B.cell (p := ⟨s, j, none⟩) sl).trans (CI.out j hj)
      rw [← hwe]
      clear BW hwe B CY FY CI FI BI cy am wz hy hz hzl yb
      go_wp2
      go_roundw
      case rel => exact ⟨m + 1, by go_num, by omega, CE.out, FE.out, BE.out⟩
      case measure => simp [intOf]; omega
    · obtain rfl : m = 4 := by omega
      have XE : oc x k 4 0 = (beg x k).a ∧ oc x k 4 1 = (beg x k).b ∧ oc x k 4 2 = (beg x k).c ∧ oc x k 4 3 = (beg x k).d := ⟨rfl, rfl, rfl, rfl⟩
      have CB : Hid (CellsAt wr s 0 (beg x k).vals) := fun j v hv => by
        rcases j with _ | _ | _ | _ | j
        · have := CI.out 0 (by omega); cases hv; rw [XE.1] at this; exact this
        · have := CI.out 1 (by omega); cases hv; rw [XE.2.1] at this; exact this
        · have := CI.out 2 (by omega); cases hv; rw [XE.2.2.1] at this; exact this
        · have := CI.out 3 (by omega); cases hv; rw [XE.2.2.2] at this; exact this
        · cases hv
      have C2 : Hid (CellsAt wr (s + 1) 0 zI.vals) := c2.out.but (by rw [z1.out]; omega) BI.out (fun e => by have e : s + 1 = s := e; omega)
      have F2 : Hid (∀ j, wr.frozen? ⟨s + 1, j, none⟩ = false) := fun j => (BI.out.frozen (p := ⟨s + 1, j, none⟩) (by rw [z1.out]; show s + 1 < s + 2; omega) (fun e => by have e : s + 1 = s := e; omega)).trans (f2.out j)
      obtain ⟨V, hV⟩ : ∃ V, V = (beg x k).vals := ⟨_, rfl⟩
      have LV : Hid (V.length = 4) := by rw [hV]; exact (rfl : (beg x k).vals.length = 4)
      have OV : Hid (∀ u ∈ V, u.oneCell' = true) := by
        unfold Hid
        rw [hV]
        intro u hu
        simp only [I4.vals, List.mem_cons, List.not_mem_nil, or_false] at hu
        rcases hu with rfl | rfl | rfl | rfl <;> rfl
      have BR : Hid (Below w.heap.size w wr) := b1.out.trans (BI.out.below b1.out.size (fun g hg e => by have e : g = s := e; have := HS.out; omega))
      have SR : Hid (s + 1 < wr.heap.size) := C2.out.lt (by decide)
      rw [← hV] at CB
      have HV := hide hV
      clear XE CI FI BI hV
      go_wp2_with (first | refine wpList_loadA rfl 31 4 aggI sizI _ rfl s 0 rfl V LV.out CB.out ?_ | refine wpList_storeA rfl 31 4 sizI _ _ rfl (s + 1) 0 rfl V zI.vals rfl LV.out rfl C2.out F2.out OV.out (fun hc => ?_))
      refine bodyPost_ret (v := (beg x k).val) ?_ rfl ⟨rfl, BR.out.trans ((But.cells (s + 1) V 0 wr).below BR.out.size (fun g hg e => by have e : g = s + 1 := e; have := HS.out; omega))⟩
      have e : (beg x k).val = .agg V.toArray := by rw [HV.out]; rfl
      rw [e]
      exact results_A rfl _ _ (s + 1) _ rfl (run_loadVarA 31 4 aggI sizI (s + 1) 0 _ LV.out hc)
end Go.Proofs.Ytlfacppkgamkgaa
