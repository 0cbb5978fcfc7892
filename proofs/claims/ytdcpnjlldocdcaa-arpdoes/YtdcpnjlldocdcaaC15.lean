
/-
  The law's own: two lists of requests are alike.
-/
import Derived.Test.YtdcpnjlldocdcaaC14
namespace Go.Proofs.Ytdcpnjlldocdcaa
open Go.RowKit Go.Shelf

theorem same_ar (w : World) (a : Ar) : (Op.equalIn 10000 27 a.val a.val).run Try.prog w = .ok true w := by
  obtain ⟨t, ⟨a, b, c, d, e, k⟩, ⟨i0, i1, i2, i3⟩, ⟨a1, b1, c1, d1, e1, k1⟩, ⟨j0, j1, j2, j3⟩⟩ := a
  have EM := eq_mac
  have EI := eq_ip
  have m1 : eqM ⟨a, b, c, d, e, k⟩ ⟨a, b, c, d, e, k⟩ = true := eqM_self _
  have m2 : eqM ⟨a1, b1, c1, d1, e1, k1⟩ ⟨a1, b1, c1, d1, e1, k1⟩ = true := eqM_self _
  have m3 : eqI ⟨i0, i1, i2, i3⟩ ⟨i0, i1, i2, i3⟩ = true := eqI_self _
  have m4 : eqI ⟨j0, j1, j2, j3⟩ ⟨j0, j1, j2, j3⟩ = true := eqI_self _
  simp [Ar.val, Ar.vals, M6.vals, I4.vals, go_sem, EM, EI, m1, m2, m3, m4]
theorem same_arE (w : World) (a : Ar) : (binOp .eql 27 (.agg a.vals.toArray) (.agg a.vals.toArray)).run Try.prog w = .ok (.bool true) w := by
  have := run_eql_struct (P := Try.prog) w 27 a.vals.toArray a.vals.toArray
  have e := same_ar w a
  unfold Ar.val at e
  rw [this, e]
  rfl
theorem same_arG (w : World) (op : BinOp) (x y : Operand) (a b : Ar) : (eqGuard op 27 x y (.agg a.vals.toArray) (.agg b.vals.toArray)).run Try.prog w = .ok () w := run_eqGuard_agg w op _ x y _ _ (by kernel_rfl)
theorem exec_eqAr {o : Oper} {w : World} {ev : Operand → Value} (x y : Operand) (t : TypeId) (a : Ar) (ho : o.op = .binOp .eql 27 x y t) (hx : ev x = .agg a.vals.toArray) (hy : ev y = .agg a.vals.toArray) : (execOp ev o).run Try.prog w = .ok (.value (.bool true)) w := by
  unfold execOp
  simp only [ho, hx, hy]
  simp [Sem.run_bind, Result.andThen, same_arG, same_arE]
theorem exec_zA {o : Oper} {w : World} {ev : Operand → Value} (ho : o.op = .build 27 #[]) : (execOp ev o).run Try.prog w = .ok (.value (.agg (Ar.vals ⟨false, zM, zI, zM, zI⟩).toArray)) w := by
  unfold execOp
  simp only [ho]
  kernel_rfl
set_option maxRecDepth 100000 in
set_option maxHeartbeats 4000000 in
theorem arps_any {w : World} {aa ba : Option Addr} {n ca bc : Nat} {B : Nat → Ar} {O1 O2 : Nat → Prop} (ha : RowF 21 O1 w (.slice aa n ca) n (fun q => (B q).vals)) (hb : RowF 21 O2 w (.slice ba n bc) n (fun q => (B q).vals)) (hd : ∀ g, O1 g → ¬ O2 g) (hl : n ≤ 1000) :
    Calls Try.prog 29 #[.slice aa n ca, .slice ba n bc] w fun e w' => e = .returned (.bool true) ∧ But O1 w w' := by
  have HA := hide ha
  have HB := hide hb
  have HD := hide hd
  have zm : (n : Int) ≤ 1000 := by omega
  clear ha hb hd
  go_enter Try.func29, Try.ntmps29
  go_wp2
  go_loopw [5, 6] (fun v5 v6 wr => ∃ i : Nat, v5 = .bool true ∧ v6 = .int .i64 (i : Int) ∧ i ≤ n ∧ Hid (But O1 w wr ∧ ∀ g, aa = some ⟨g, 0, none⟩ → O1 g → 0 < n → (∀ j, i ≤ j → j < n → CellsAt wr g (j * 21) (B j).vals) ∧ ∀ j, wr.frozen? ⟨g, j, none⟩ = false)) (fun _ v6 _ => n - (intOf v6).toNat)
  case atStart =>
    refine ⟨0, rfl, rfl, Nat.zero_le _, But.refl _ _, fun g e _ hp => ?_⟩
    obtain ⟨g', e', _, _, hf, hc⟩ := HA.out.at hp
    rw [e] at e'
    cases e'
    exact ⟨fun j _ hj => hc j hj, hf⟩
  case round =>
    obtain ⟨i, rfl, rfl, hi, hq⟩ := hrel
    by_cases hlt : i < n
    · have zi : (i : Int) < (n : Int) := by omega
      have hp : 0 < n := by omega
      obtain ⟨g, rfl, hg, og, _, _⟩ := HA.out.at hp
      obtain ⟨bw, hcw⟩ := hq.out
      obtain ⟨hc, hf⟩ := hcw g rfl og hp
      have hb1 := HB.out.but bw (fun b e1 e2 => HD.out b e2 e1)
      obtain ⟨bg, rfl, hbl, hbo, _, hcs⟩ := hb1.at hp
      obtain ⟨wd, hwd⟩ : ∃ wd, wd = wr.drew := ⟨_, rfl⟩
      have cb : CellsAt wd bg (i * 21) (B i).vals := by rw [hwd]; exact hcs i hlt
      have cg : CellsAt wd g (i * 21) (B i).vals := by rw [hwd]; exact hc i (Nat.le_refl _) hlt
      have fg : ∀ j, wd.frozen? ⟨g, j, none⟩ = false := by rw [hwd]; exact hf
      obtain ⟨z, hz⟩ : ∃ z : Ar, z = ⟨false, zM, zI, zM, zI⟩ := ⟨_, rfl⟩
      obtain ⟨wz, hwz⟩ : ∃ wz, wz = wd.setCells g (i * 21) z.vals := ⟨_, rfl⟩
      have zl : z.vals.length = 21 := by rw [hz]; rfl
      have Q3 : Hid (But O1 w wz ∧ ∀ g', some (⟨g, 0, none⟩ : Addr) = some ⟨g', 0, none⟩ → O1 g' → 0 < n → (∀ j, i + 1 ≤ j → j < n → CellsAt wz g' (j * 21) (B j).vals) ∧ ∀ j, wz.frozen? ⟨g', j, none⟩ = false) := by
        refine ⟨?_, fun g' e _ _ => ?_⟩
        · rw [hwz, hwd]
          exact (bw.drew).trans ((But.cells g z.vals (i * 21) wr.drew).mono (fun j e => by have e : j = g := e; rw [e]; exact og))
        · cases e
          refine ⟨fun j hj hjn => ?_, fun j => by rw [hwz, World.frozen?_setCells]; exact fg j⟩
          intro k v hv
          have hk := (List.getElem?_eq_some_iff.1 hv).1
          have hk : k < 21 := hk
          rw [hwz, setCells_out (by right; rw [zl]; omega), hwd]
          exact hc j (by omega) hjn k v hv
      have CG := hide cg
      have FG := hide fg
      have S0 : CellsAt wd g (i * 21) (B i).vals ∧ CellsAt wd bg (i * 21) (B i).vals := ⟨cg, cb⟩
      have HZ := hide hz
      clear hb1 hcs hq hc hf hcw bw cb cg fg zl hz
      go_upto_region 7 with fail
      refine region_out (fun W' => CellsAt W' g (i * 21) (B i).vals ∧ CellsAt W' bg (i * 21) (B i).vals) (by kernel_rfl) ?_
      rw [← hwd]
      refine takeD (i := 0) (v := .bool true) 18 rfl rfl (by kernel_rfl) (by kernel_rfl) (by kernel_rfl) (fun _ _ _ h => h) (.inl ⟨by rfl, fun W hW => exec_move _ _ rfl rfl⟩) (S0) ?_
      try simp only [Act.put, List.setIfInBounds_toArray, List.set_cons_zero, List.set_cons_succ]
      refine takeD (i := 1) (v := .bool true) 19 rfl rfl (by kernel_rfl) (by kernel_rfl) (by kernel_rfl) (fun _ _ _ h => h) (.inl ⟨by rfl, fun W hW => exec_move _ _ rfl rfl⟩) (S0) ?_
      try simp only [Act.put, List.setIfInBounds_toArray, List.set_cons_zero, List.set_cons_succ]
      refine takeD (i := 2) (v := .slice (some ⟨g, 0, none⟩) n ca) 20 rfl rfl (by kernel_rfl) (by kernel_rfl) (by kernel_rfl) (fun _ _ _ h => h) (.inl ⟨by rfl, fun W hW => exec_move _ _ rfl rfl⟩) (S0) ?_
      try simp only [Act.put, List.setIfInBounds_toArray, List.set_cons_zero, List.set_cons_succ]
      refine takeD (i := 3) (v := .int .i64 (i : Int)) 21 rfl rfl (by kernel_rfl) (by kernel_rfl) (by kernel_rfl) (fun _ _ _ h => h) (.inl ⟨by rfl, fun W hW => exec_move _ _ rfl rfl⟩) (S0) ?_
      try simp only [Act.put, List.setIfInBounds_toArray, List.set_cons_zero, List.set_cons_succ]
      refine takeD (i := 4) (v := .pointer (some ⟨g, i * 21, none⟩)) 22 rfl rfl (by kernel_rfl) (by kernel_rfl) (by kernel_rfl) (fun _ _ _ h => h) (.inl ⟨by rfl, fun W hW => exec_ixA _ _ g n ca i rfl rfl rfl hlt⟩) (S0) ?_
      try simp only [Act.put, List.setIfInBounds_toArray, List.set_cons_zero, List.set_cons_succ]
      refine takeD (i := 5) (v := .agg ((B i).vals).toArray) 23 rfl rfl (by kernel_rfl) (by kernel_rfl) (by kernel_rfl) (fun _ _ _ h => h) (.inl ⟨by rfl, fun W hW => exec_loadA 27 21 aggA sizA _ rfl g (i * 21) rfl ((B i).vals) rfl (hW.1)⟩) (S0) ?_
      try simp only [Act.put, List.setIfInBounds_toArray, List.set_cons_zero, List.set_cons_succ]
      refine takeD (i := 6) (v := .slice (some ⟨bg, 0, none⟩) n bc) 24 rfl rfl (by kernel_rfl) (by kernel_rfl) (by kernel_rfl) (fun _ _ _ h => h) (.inl ⟨by rfl, fun W hW => exec_move _ _ rfl rfl⟩) (S0) ?_
      try simp only [Act.put, List.setIfInBounds_toArray, List.set_cons_zero, List.set_cons_succ]
      refine takeD (i := 7) (v := .int .i64 (i : Int)) 25 rfl rfl (by kernel_rfl) (by kernel_rfl) (by kernel_rfl) (fun _ _ _ h => h) (.inl ⟨by rfl, fun W hW => exec_move _ _ rfl rfl⟩) (S0) ?_
      try simp only [Act.put, List.setIfInBounds_toArray, List.set_cons_zero, List.set_cons_succ]
      refine takeD (i := 8) (v := .pointer (some ⟨bg, i * 21, none⟩)) 26 rfl rfl (by kernel_rfl) (by kernel_rfl) (by kernel_rfl) (fun _ _ _ h => h) (.inl ⟨by rfl, fun W hW => exec_ixA _ _ bg n bc i rfl rfl rfl hlt⟩) (S0) ?_
      try simp only [Act.put, List.setIfInBounds_toArray, List.set_cons_zero, List.set_cons_succ]
      refine takeD (i := 9) (v := .agg ((B i).vals).toArray) 27 rfl rfl (by kernel_rfl) (by kernel_rfl) (by kernel_rfl) (fun _ _ _ h => h) (.inl ⟨by rfl, fun W hW => exec_loadA 27 21 aggA sizA _ rfl bg (i * 21) rfl ((B i).vals) rfl (hW.2)⟩) (S0) ?_
      try simp only [Act.put, List.setIfInBounds_toArray, List.set_cons_zero, List.set_cons_succ]
      refine takeD (i := 10) (v := .bool true) 28 rfl rfl (by kernel_rfl) (by kernel_rfl) (by kernel_rfl) (fun _ _ _ h => h) (.inl ⟨by rfl, fun W hW => exec_eqAr _ _ _ (B i) rfl rfl rfl⟩) (S0) ?_
      try simp only [Act.put, List.setIfInBounds_toArray, List.set_cons_zero, List.set_cons_succ]
      refine takeD (i := 11) (v := .bool true) 29 rfl rfl (by kernel_rfl) (by kernel_rfl) (by kernel_rfl) (fun _ _ _ h => h) (.inl ⟨by rfl, fun W hW => exec_pick _ _ _ true _ rfl rfl rfl⟩) (S0) ?_
      try simp only [Act.put, List.setIfInBounds_toArray, List.set_cons_zero, List.set_cons_succ]
      refine takeD (i := 12) (v := .bool true) 5 rfl rfl (by kernel_rfl) (by kernel_rfl) (by kernel_rfl) (fun _ _ _ h => h) (.inl ⟨by rfl, fun W hW => exec_assign _ _ rfl rfl⟩) (S0) ?_
      try simp only [Act.put, List.setIfInBounds_toArray, List.set_cons_zero, List.set_cons_succ]
      refine wpAnyH_done (by kernel_rfl) ?_ _
      have hwz' := hwz.symm
      clear S0 hwd hwz
      go_wp2_with (first | (refine wpList_val rfl (exec_zA rfl) ?_; rw [← HZ.out]) | (refine wpList_storeA rfl 27 21 sizA _ _ rfl g (i * 21) rfl z.vals (B i).vals rfl (by rw [HZ.out]; rfl) rfl CG.out FG.out (ar_one _) ?_; intro _; rw [hwz']))
      go_roundw
      case rel => exact ⟨i + 1, rfl, by go_num, hlt, Q3.out⟩
      case measure => simp [intOf]; omega
    · obtain rfl : i = n := by omega
      have zi : ¬ (i : Int) < (i : Int) := by omega
      have F := hide hq.out.1
      clear hq
      go_wp2
      go_ret
      exact ⟨rfl, F.out⟩
end Go.Proofs.Ytdcpnjlldocdcaa
