
/-
  insertionSortCmpFunc, pdqsortCmpFunc (few rows), SortFunc.
-/
import Derived.Test.YtlfacppkgamkgaaM12
namespace Go.Proofs.Ytlfacppkgamkgaa
open Go.RowKit Go.Shelf

theorem H_of_any {md : Region.Mode} {ops : Array Oper} {Q : Exit → Act → World → Prop} : ∀ (fuel : Nat) (listed : Array Bool) (a : Act) (w : World), wpAny Try.prog md ops Q fuel listed a w → wpAnyH Try.prog md ops Q (fun _ => True) fuel listed a w
  | 0, _, _, _, h => h
  | fuel + 1, _, _, _, h => ⟨h.1, fun i hi => wpOp_mono (fun a' w' h' => ⟨trivial, H_of_any fuel _ a' w' h'⟩) (h.2 i hi)⟩
theorem wpAny_of_H {md : Region.Mode} {ops : Array Oper} {Q : Exit → Act → World → Prop} {S : World → Prop} : ∀ (fuel : Nat) (listed : Array Bool) (a : Act) (w : World), wpAnyH Try.prog md ops Q S fuel listed a w → wpAny Try.prog md ops Q fuel listed a w
  | 0, _, _, _, h => h
  | fuel + 1, _, _, _, h => ⟨h.1, fun i hi => wpOp_mono (fun a' w' h' => wpAny_of_H fuel _ a' w' h'.2) (h.2 i hi)⟩
theorem J_of_any {md : Region.Mode} {ops : Array Oper} {Q : Exit → Act → World → Prop} {S : World → Prop} {D : Nat → Bool} : ∀ (fuel : Nat) (listed : Array Bool) (a : Act) (w : World), (∀ i, i < listed.size → D i = true → listed.getD i false = true) → wpAny Try.prog md ops Q fuel listed a w → wpAnyJ D md ops Q S fuel listed a w
  | 0, _, _, _, _, h => h
  | fuel + 1, listed, _, _, hd, h => ⟨h.1, fun i hi => wpOp_mono (fun a' w' h' => ⟨fun e => (by
      have h0 := (mem_ready.1 hi).1
      by_cases hs : i < listed.size
      · have h1 := hd i hs e
        simp [Array.getD, hs] at h0 h1
        rw [h0] at h1
        cases h1
      · simp [Array.getD, hs] at h0), J_of_any fuel _ a' w' (fun j hj he => (by
      rw [Array.size_setIfInBounds] at hj
      have h1 := hd j hj he
      by_cases ej : i = j
      · subst ej; simp [Array.getD, hj]
      · rw [getD_set_ne false ej]; exact h1)) h'⟩) (h.2 i hi)⟩
section
variable {o : Oper} {w : World} {ev : Operand → Value}
theorem exec_ixR (x y : Operand) (g n c : Nat) (k : Nat) (ho : o.op = .indexAddr 62 x y) (hx : ev x = .slice (some ⟨g, 0, none⟩) n c) (hy : ev y = .int .i64 (k : Int)) (hk : k < n) : (execOp ev o).run Try.prog w = .ok (.value (.pointer (some ⟨g, k * 11, none⟩))) w := by
  have hki : (k : Int) < n := by omega
  unfold execOp
  simp [ho, hx, hy, go_sem, hki]
theorem exec_pred (x : Operand) (k : Nat) (ho : o.op = .binOp .sub 3 x (.const (.int .i64 1)) 3) (hc : ∀ v, ev (.const v) = v) (hx : ev x = .int .i64 ((k : Int) + 1)) (hk : k ≤ 1000000) : (execOp ev o).run Try.prog w = .ok (.value (.int .i64 (k : Int))) w := by
  unfold execOp
  simp [ho, hx, hc, go_sem]
  rw [IntKind.wrap_i64]
  omega
end
set_option maxRecDepth 100000 in
set_option maxHeartbeats 4000000 in
theorem insertion_any {w : World} {g cap : Nat} {X : List Rw} (a0 : Option Addr) (n : Nat) (hn : X.length = n) (h12 : n ≤ 12) (ha : 0 < n → a0 = some ⟨g, 0, none⟩) (hR : RowR w g X) :
    Calls Try.prog 33 #[.slice a0 n cap, .int .i64 0, .int .i64 (n : Int), .func (.func 15) #[] #[]] w fun e w' => e = .returned (.tuple #[]) ∧ ∃ Y, RowR w' g Y ∧ Y.Perm X ∧ Y.Pairwise (fun r s => r.pl ≤ s.pl) ∧ But (Only g) w w' := by
  have HR := hide hR
  have HA := hide ha
  have HN := hide hn
  have zn : (n : Int) ≤ 12 := by omega
  clear hR ha hn
  go_enter Try.func33, Try.ntmps33
  go_wp2
  go_loopw [8] (fun v wr => ∃ (i : Nat) (X1 : List Rw), v = .int .i64 (i : Int) ∧ 1 ≤ i ∧ i ≤ n + 1 ∧ Hid (i ≤ n ∨ n = 0) ∧ Hid (X1.length = n) ∧ Hid (RowR wr g X1) ∧ Hid (X1.Perm X) ∧ Hid ((X1.take i).Pairwise (fun r s => r.pl ≤ s.pl)) ∧ Hid (But (Only g) w wr)) (fun v _ => n + 1 - (intOf v).toNat)
  case atStart => exact ⟨1, X, rfl, by omega, by omega, (by show _ ∨ _; omega), HN.out, HR.out, List.Perm.refl _, (by
    show (X.take 1).Pairwise _
    rcases X with _ | ⟨x, X⟩
    · exact .nil
    · exact List.pairwise_singleton _ _), But.refl _ _⟩
  case round =>
    obtain ⟨i, X1, rfl, hi1, hi2, hi3, L1, R1, P1, S1, B1⟩ := hrel
    clear HR
    by_cases hlt : i < n
    · have zi : (i : Int) < (n : Int) := by omega
      have ea := HA.out (by omega)
      subst ea
      have IN : Hid (Ins X1 i i (X1.take i) (X1[i]'(by rw [L1.out]; exact hlt)) [] (X1.drop (i + 1))) := by
        refine ⟨?_, ?_, ?_, by rw [List.append_nil]; exact S1.out, fun s hs => by cases hs⟩
        · rw [List.nil_append, ← List.drop_eq_getElem_cons, List.take_append_drop]
        · have := L1.out; simp; omega
        · have := L1.out; simp; omega
      go_wp2
      go_loopw [9] (fun v wq => ∃ (j : Nat) (X2 P : List Rw) (x : Rw) (Q R : List Rw), v = .int .i64 (j : Int) ∧ j ≤ i ∧ Hid (Ins X2 i j P x Q R) ∧ Hid (X2.length = n) ∧ Hid (RowR wq g X2) ∧ Hid (X2.Perm X) ∧ Hid (But (Only g) w wq)) (fun v _ => (intOf v).toNat)
      case atStart => exact ⟨i, X1, _, _, _, _, rfl, Nat.le_refl _, IN.out, L1.out, R1.out, P1.out, B1.out⟩
      case round =>
        obtain ⟨j, X2, P, x, Q, R, rfl, hji, I2, L2, R2, P2, B2⟩ := hrel
        clear IN R1 P1 S1 B1
        have gl : g < wr.heap.size := R2.out.lt (by rw [L2.out]; omega)
        have DONE : Hid ((∀ s ∈ P, s.pl ≤ x.pl) → ∀ W, Below wr.heap.size wr W → ∃ (i' : Nat) (X1 : List Rw), Value.int .i64 ((i : Int) + 1) = .int .i64 (i' : Int) ∧ 1 ≤ i' ∧ i' ≤ n + 1 ∧ Hid (i' ≤ n ∨ n = 0) ∧ Hid (X1.length = n) ∧ Hid (RowR W g X1) ∧ Hid (X1.Perm X) ∧ Hid ((X1.take i').Pairwise (fun r s => r.pl ≤ s.pl)) ∧ Hid (But (Only g) w W)) := fun hl W hb =>
          ⟨i + 1, X2, by rw [show ((i + 1 : Nat) : Int) = (i : Int) + 1 by omega], by omega, by omega, .inl (by omega), L2.out, R2.out.later hb gl, P2.out, I2.out.done hl, B2.out.trans (But.of_below hb)⟩
        rcases j with _ | k
        · have eP : P = [] := List.eq_nil_of_length_eq_zero I2.out.lp
          go_upto_region 4 with fail
          refine region_quiet_C (fun W => Below wr.heap.size wr W) (by kernel_rfl) (by kernel_rfl) (later_drew _) ?_
          go_big_quiet_step (fail)
          go_big_quiet_step (fail)
          go_big_quiet_want
          refine quiet_pure (.bool false) (fun W hW => exec_gti _ _ _ _ _ _ rfl rfl rfl (by decide)) ?_
          go_big_quiet_on
          simp only [Act.put, List.setIfInBounds_toArray, List.set_cons_succ, List.set_cons_zero]
          go_big_quiet_step (fail)
          go_big_quiet_step (fail)
          go_big_quiet_step (fail)
          go_big_quiet_step (fail)
          go_big_quiet_step (fail)
          go_big_quiet_step (fail)
          go_big_quiet_step (fail)
          go_big_quiet_step (fail)
          go_big_quiet_step (fail)
          go_big_quiet_step (fail)
          go_big_quiet_step (fail)
          go_big_quiet_step (fail)
          go_big_quiet_step (fail)
          go_big_quiet_want
          refine quiet_pure (.bool false) (fun W hW => exec_pick _ _ _ false _ rfl rfl rfl) ?_
          go_big_quiet_on
          simp only [Act.put, List.setIfInBounds_toArray, List.set_cons_succ, List.set_cons_zero]
          refine wpQuiet_nil ?_
          intro wq bq
          have BQ := hide bq
          clear bq
          go_wp2
          go_roundw
          case rel => exact DONE.out (fun s hs => by rw [eP] at hs; cases hs) _ BQ.out
          case measure => simp [intOf]; omega
        · obtain ⟨P', y, eP⟩ : ∃ P' y, P = P' ++ [y] := by
            have h0 : P ≠ [] := fun e => by have := I2.out.lp; rw [e] at this; cases this
            exact ⟨P.dropLast, P.getLast h0, (List.dropLast_concat_getLast h0).symm⟩
          subst eP
          have lp' : P'.length = k := by have := I2.out.lp; simp at this; omega
          have ex : Hid (X2[k + 1]? = some x) := by
            unfold Hid
            rw [I2.out.eq, List.getElem?_append_right (by simp; omega)]
            simp [lp']
          have ey : Hid (X2[k]? = some y) := by
            unfold Hid
            rw [I2.out.eq, List.append_assoc, List.getElem?_append_right (by omega), lp', Nat.sub_self]; rfl
          have CX : ∀ W, Below wr.heap.size wr W → CellsAt W g ((k + 1) * 11) x.cells := fun W hb => (R2.out.at_ _ _ ex.out).later gl hb
          have CY : ∀ W, Below wr.heap.size wr W → CellsAt W g (k * 11) y.cells := fun W hb => (R2.out.at_ _ _ ey.out).later gl hb
          have kn : k + 1 < n := by omega
          have ek : ((k + 1 : Nat) : Int) = (k : Int) + 1 := by omega
          obtain ⟨lt0, hlt0⟩ : ∃ lt0, lt0 = decide (cm x.pl y.pl < 0) := ⟨_, rfl⟩
          go_upto_region 4 with fail
          refine region_quiet_C (fun W => Below wr.heap.size wr W) (by kernel_rfl) (by kernel_rfl) (later_drew _) ?_
          go_big_quiet_step (fail)
          go_big_quiet_step (fail)
          go_big_quiet_want
          refine quiet_pure (.bool true) (fun W hW => exec_gti _ _ _ _ _ _ rfl rfl rfl (decide_eq_true (by omega))) ?_
          go_big_quiet_on
          simp only [Act.put, List.setIfInBounds_toArray, List.set_cons_succ, List.set_cons_zero]
          go_big_quiet_step (fail)
          go_big_quiet_step (fail)
          go_big_quiet_step (fail)
          go_big_quiet_step (fail)
          go_big_quiet_want
          refine quiet_pure (.pointer (some ⟨g, (k + 1) * 11, none⟩)) (fun W hW => exec_ixR _ _ g n cap (k + 1) rfl rfl (by rw [ek]; rfl) kn) ?_
          go_big_quiet_on
          simp only [Act.put, List.setIfInBounds_toArray, List.set_cons_succ, List.set_cons_zero]
          go_big_quiet_want
          refine quiet_pure (.agg (x.cells).toArray) (fun W hW => exec_loadA 57 11 aggR sizR _ rfl g ((k + 1) * 11) rfl (x.cells) rfl (CX W hW)) ?_
          go_big_quiet_on
          simp only [Act.put, List.setIfInBounds_toArray, List.set_cons_succ, List.set_cons_zero]
          go_big_quiet_step (fail)
          go_big_quiet_step (fail)
          go_big_quiet_want
          refine quiet_pure (.int .i64 (k : Int)) (fun W hW => exec_pred _ k rfl (fun _ => rfl) rfl (by omega)) ?_
          go_big_quiet_on
          simp only [Act.put, List.setIfInBounds_toArray, List.set_cons_succ, List.set_cons_zero]
          go_big_quiet_want
          refine quiet_pure (.pointer (some ⟨g, k * 11, none⟩)) (fun W hW => exec_ixR _ _ g n cap k rfl rfl rfl (by omega)) ?_
          go_big_quiet_on
          simp only [Act.put, List.setIfInBounds_toArray, List.set_cons_succ, List.set_cons_zero]
          go_big_quiet_want
          refine quiet_pure (.agg (y.cells).toArray) (fun W hW => exec_loadA 57 11 aggR sizR _ rfl g (k * 11) rfl (y.cells) rfl (CY W hW)) ?_
          go_big_quiet_on
          simp only [Act.put, List.setIfInBounds_toArray, List.set_cons_succ, List.set_cons_zero]
          go_big_quiet_want
          refine quiet_call 15 #[.agg x.cells.toArray, .agg y.cells.toArray] (.int .i64 (cm x.pl y.pl)) (fun _ => by simp [Act.eval, go_sem]) (fun W hW => (byPlace_any x y W).mono fun e w' h => ⟨h.1, later hW h.2⟩) ?_
          go_big_quiet_on
          simp only [Act.put, List.setIfInBounds_toArray, List.set_cons_succ, List.set_cons_zero]
          go_big_quiet_want
          refine quiet_pure (.bool lt0) (fun W hW => exec_lti _ _ _ _ _ _ rfl rfl rfl hlt0.symm) ?_
          go_big_quiet_on
          simp only [Act.put, List.setIfInBounds_toArray, List.set_cons_succ, List.set_cons_zero]
          go_big_quiet_want
          refine quiet_pure (.bool lt0) (fun W hW => exec_pick _ _ _ true _ rfl rfl rfl) ?_
          go_big_quiet_on
          simp only [Act.put, List.setIfInBounds_toArray, List.set_cons_succ, List.set_cons_zero]
          refine wpQuiet_nil ?_
          intro wq bq
          have BQ := hide bq
          have R3 := hide (R2.out.later bq gl)
          have g3 : g < wq.heap.size := Nat.lt_of_lt_of_le gl bq.size
          clear bq CX CY
          by_cases hc : x.pl < y.pl
          · have e1 : lt0 = true := by rw [hlt0]; exact decide_eq_true (cm_neg.2 hc)
            subst e1
            go_upto_region 6 with fail
            obtain ⟨u1, hu1⟩ : ∃ u1, u1 = wq.drew.setCells g ((k + 1) * 11) y.cells := ⟨_, rfl⟩
            obtain ⟨u2, hu2⟩ : ∃ u2, u2 = u1.setCells g (k * 11) x.cells := ⟨_, rfl⟩
            have R3d : RowR wq.drew g X2 := R3.out.later (later_drew _) g3
            have Ru1 : RowR u1 g (X2.set (k + 1) y) := by rw [hu1]; exact R3d.set (by rw [L2.out]; exact kn) y
            have Ru2 : RowR u2 g ((X2.set (k + 1) y).set k x) := by rw [hu2]; exact Ru1.set (by rw [List.length_set, L2.out]; omega) x
            have Bu : But (Only g) wq.drew u2 := by rw [hu2, hu1]; exact (But.cells g y.cells _ wq.drew).trans (But.cells g x.cells _ _)
            have Sd : CellsAt wq.drew g ((k + 1) * 11) x.cells ∧ CellsAt wq.drew g (k * 11) y.cells := ⟨R3d.at_ _ _ ex.out, R3d.at_ _ _ ey.out⟩
            have yk : CellsAt u1 g (k * 11) y.cells := Ru1.at_ k y (by rw [List.getElem?_set_ne (by omega)]; exact ey.out)
            refine wp_region_held (S := fun _ => True) (by kernel_rfl) ?_
            refine takeD (i := 0) (v := .slice (some ⟨g, 0, none⟩) n cap) 37 rfl rfl (by kernel_rfl) (by kernel_rfl) (by kernel_rfl) (fun _ _ _ h => h) (.inl ⟨by rfl, fun W hW => exec_move _ _ rfl rfl⟩) (trivial) ?_
            try simp only [Act.put, List.setIfInBounds_toArray, List.set_cons_zero, List.set_cons_succ]
            refine takeD (i := 1) (v := .int .i64 ((k : Int) + 1)) 38 rfl rfl (by kernel_rfl) (by kernel_rfl) (by kernel_rfl) (fun _ _ _ h => h) (.inl ⟨by rfl, fun W hW => exec_move _ _ rfl rfl⟩) (trivial) ?_
            try simp only [Act.put, List.setIfInBounds_toArray, List.set_cons_zero, List.set_cons_succ]
            refine takeD (i := 2) (v := .slice (some ⟨g, 0, none⟩) n cap) 39 rfl rfl (by kernel_rfl) (by kernel_rfl) (by kernel_rfl) (fun _ _ _ h => h) (.inl ⟨by rfl, fun W hW => exec_move _ _ rfl rfl⟩) (trivial) ?_
            try simp only [Act.put, List.setIfInBounds_toArray, List.set_cons_zero, List.set_cons_succ]
            refine takeD (i := 3) (v := .int .i64 ((k : Int) + 1)) 40 rfl rfl (by kernel_rfl) (by kernel_rfl) (by kernel_rfl) (fun _ _ _ h => h) (.inl ⟨by rfl, fun W hW => exec_move _ _ rfl rfl⟩) (trivial) ?_
            try simp only [Act.put, List.setIfInBounds_toArray, List.set_cons_zero, List.set_cons_succ]
            refine takeD (i := 4) (v := .int .i64 (k : Int)) 41 rfl rfl (by kernel_rfl) (by kernel_rfl) (by kernel_rfl) (fun _ _ _ h => h) (.inl ⟨by rfl, fun W hW => exec_pred _ k rfl (fun _ => rfl) rfl (by omega)⟩) (trivial) ?_
            try simp only [Act.put, List.setIfInBounds_toArray, List.set_cons_zero, List.set_cons_succ]
            refine takeD (i := 5) (v := .slice (some ⟨g, 0, none⟩) n cap) 42 rfl rfl (by kernel_rfl) (by kernel_rfl) (by kernel_rfl) (fun _ _ _ h => h) (.inl ⟨by rfl, fun W hW => exec_move _ _ rfl rfl⟩) (trivial) ?_
            try simp only [Act.put, List.setIfInBounds_toArray, List.set_cons_zero, List.set_cons_succ]
            refine takeD (i := 6) (v := .int .i64 ((k : Int) + 1)) 43 rfl rfl (by kernel_rfl) (by kernel_rfl) (by kernel_rfl) (fun _ _ _ h => h) (.inl ⟨by rfl, fun W hW => exec_move _ _ rfl rfl⟩) (trivial) ?_
            try simp only [Act.put, List.setIfInBounds_toArray, List.set_cons_zero, List.set_cons_succ]
            refine takeD (i := 7) (v := .int .i64 (k : Int)) 44 rfl rfl (by kernel_rfl) (by kernel_rfl) (by kernel_rfl) (fun _ _ _ h => h) (.inl ⟨by rfl, fun W hW => exec_pred _ k rfl (fun _ => rfl) rfl (by omega)⟩) (trivial) ?_
            try simp only [Act.put, List.setIfInBounds_toArray, List.set_cons_zero, List.set_cons_succ]
            refine takeD (i := 8) (v := .pointer (some ⟨g, k * 11, none⟩)) 45 rfl rfl (by kernel_rfl) (by kernel_rfl) (by kernel_rfl) (fun _ _ _ h => h) (.inl ⟨by rfl, fun W hW => exec_ixR _ _ g n cap k rfl rfl rfl (by omega)⟩) (trivial) ?_
            try simp only [Act.put, List.setIfInBounds_toArray, List.set_cons_zero, List.set_cons_succ]
            refine takeD (i := 10) (v := .slice (some ⟨g, 0, none⟩) n cap) 47 rfl rfl (by kernel_rfl) (by kernel_rfl) (by kernel_rfl) (fun _ _ _ h => h) (.inl ⟨by rfl, fun W hW => exec_move _ _ rfl rfl⟩) (trivial) ?_
            try simp only [Act.put, List.setIfInBounds_toArray, List.set_cons_zero, List.set_cons_succ]
            refine takeD (i := 11) (v := .int .i64 ((k : Int) + 1)) 48 rfl rfl (by kernel_rfl) (by kernel_rfl) (by kernel_rfl) (fun _ _ _ h => h) (.inl ⟨by rfl, fun W hW => exec_move _ _ rfl rfl⟩) (trivial) ?_
            try simp only [Act.put, List.setIfInBounds_toArray, List.set_cons_zero, List.set_cons_succ]
            refine takeD (i := 12) (v := .pointer (some ⟨g, (k + 1) * 11, none⟩)) 49 rfl rfl (by kernel_rfl) (by kernel_rfl) (by kernel_rfl) (fun _ _ _ h => h) (.inl ⟨by rfl, fun W hW => exec_ixR _ _ g n cap (k + 1) rfl rfl (by rw [ek]; rfl) kn⟩) (trivial) ?_
            try simp only [Act.put, List.setIfInBounds_toArray, List.set_cons_zero, List.set_cons_succ]
            refine H_of_any _ _ _ _ (wpAny_of_J (D := fun i => decide (i < 14)) (S := fun W => CellsAt W g ((k + 1) * 11) x.cells ∧ CellsAt W g (k * 11) y.cells) _ _ _ _ ?_)
            refine takeJ (i := 9) (v := .agg (y.cells).toArray) 46 rfl rfl (by kernel_rfl) (by kernel_rfl) (by kernel_rfl) (by kernel_rfl) (fun _ _ _ h => h) (.inl ⟨by rfl, fun W hW => exec_loadA 57 11 aggR sizR _ rfl g (k * 11) rfl (y.cells) rfl (hW.2)⟩) (Sd) ?_
            try simp only [Act.put, List.setIfInBounds_toArray, List.set_cons_zero, List.set_cons_succ]
            refine takeJ (i := 13) (v := .agg (x.cells).toArray) 50 rfl rfl (by kernel_rfl) (by kernel_rfl) (by kernel_rfl) (by kernel_rfl) (fun _ _ _ h => h) (.inl ⟨by rfl, fun W hW => exec_loadA 57 11 aggR sizR _ rfl g ((k + 1) * 11) rfl (x.cells) rfl (hW.1)⟩) (Sd) ?_
            try simp only [Act.put, List.setIfInBounds_toArray, List.set_cons_zero, List.set_cons_succ]
            refine J_of_any _ _ _ _ (by decide +kernel) (wpAny_of_H _ _ _ _ (S := fun _ => True) ?_)
            refine takeD (i := 14) (v := .pointer (some ⟨g, (k + 1) * 11, none⟩)) 51 rfl rfl (by kernel_rfl) (by kernel_rfl) (by kernel_rfl) (fun _ _ _ h => h) (.inl ⟨by rfl, fun W hW => exec_ixR _ _ g n cap (k + 1) rfl rfl (by rw [ek]; rfl) kn⟩) (trivial) ?_
            try simp only [Act.put, List.setIfInBounds_toArray, List.set_cons_zero, List.set_cons_succ]
            refine storeD (w' := u1) 15 (by kernel_rfl) rfl rfl (by rfl) (by rw [hu1]; exact exec_storeA 57 11 sizR _ _ rfl g ((k + 1) * 11) rfl _ x.cells rfl rfl rfl Sd.1 R3d.fz (row_one _)) (trivial) ?_
            try simp only [Act.put, List.setIfInBounds_toArray, List.set_cons_zero, List.set_cons_succ]
            refine takeD (i := 16) (v := .pointer (some ⟨g, k * 11, none⟩)) 52 rfl rfl (by kernel_rfl) (by kernel_rfl) (by kernel_rfl) (fun _ _ _ h => h) (.inl ⟨by rfl, fun W hW => exec_ixR _ _ g n cap k rfl rfl rfl (by omega)⟩) (trivial) ?_
            try simp only [Act.put, List.setIfInBounds_toArray, List.set_cons_zero, List.set_cons_succ]
            refine storeD (w' := u2) 17 (by kernel_rfl) rfl rfl (by rfl) (by rw [hu2]; exact exec_storeA 57 11 sizR _ _ rfl g (k * 11) rfl _ y.cells rfl rfl rfl yk Ru1.fz (row_one _)) (trivial) ?_
            try simp only [Act.put, List.setIfInBounds_toArray, List.set_cons_zero, List.set_cons_succ]
            refine wpAnyH_done (by kernel_rfl) ?_ _
            have I3 := hide (I2.out.step hc)
            have P3 := hide ((swap_perm ex.out ey.out).trans P2.out)
            have R4 := hide Ru2
            have B4 : Hid (But (Only g) w u2) := ((B2.out.trans (But.of_below BQ.out)).drew).trans Bu
            have L3 : Hid (((X2.set (k + 1) y).set k x).length = n) := by unfold Hid; rw [List.length_set, List.length_set]; exact L2.out
            clear hu1 hu2 R3d Ru1 Ru2 Bu Sd yk hlt0
            go_wp2
            go_roundw
            case rel => exact ⟨k, _, P', x, y :: Q, R, by go_num, by omega, I3.out, L3.out, R4.out, P3.out, B4.out⟩
            case measure => simp [intOf]
          · have e1 : lt0 = false := by rw [hlt0]; exact decide_eq_false (fun e => hc (cm_neg.1 e))
            subst e1
            have HL : Hid (∀ s ∈ P' ++ [y], s.pl ≤ x.pl) := last_le ((List.pairwise_append.1 I2.out.srt).1) (by omega)
            clear hlt0
            go_wp2
            go_roundw
            case rel => exact DONE.out HL.out _ BQ.out
            case measure => simp [intOf]; omega
    · have e0 : Hid (X1.take i = X1) := by unfold Hid; rw [List.take_of_length_le]; have := L1.out; rcases hi3.out with h | h <;> omega
      go_wp2
      go_end0
      exact ⟨rfl, X1, R1.out, P1.out, by rw [← e0.out]; exact S1.out, B1.out⟩
end Go.Proofs.Ytlfacppkgamkgaa
