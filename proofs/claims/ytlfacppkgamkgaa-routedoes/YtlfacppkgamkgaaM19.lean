
/-
  Package route: All.
-/
import Derived.Test.YtlfacppkgamkgaaM18
namespace Go.Proofs.Ytlfacppkgamkgaa
open Go.RowKit Go.Shelf

def zWy : Wy := ⟨zI, 0, zI, false⟩
def wyc (ws : List Wy) (q : Nat) : List Value := ((ws[q]?).getD zWy).cells
theorem wyc_len (ws : List Wy) (q : Nat) : (wyc ws q).length = 10 := rfl
theorem wy_one (x : Wy) : ∀ u ∈ x.cells, u.oneCell' = true := by
  intro u hu
  simp only [Wy.cells, I4.vals, List.cons_append, List.nil_append, List.mem_cons, List.not_mem_nil, or_false] at hu
  rcases hu with rfl | rfl | rfl | rfl | rfl | rfl | rfl | rfl | rfl | rfl <;> rfl
theorem info_way : (Try.prog.info? 33).map (fun i => (i.zero, i.size, i.bytes)) = some (some (.agg zWy.cells.toArray), 10, 24) := by kernel_rfl
theorem oneFn (w : World) : (isAgg 49).run Try.prog w = .ok false w := by kernel_rfl
theorem exec_bsW {o : Oper} {w : World} {ev : Operand → Value} (x : Operand) (y : Wy) (ho : o.op = .buildSlice 27 1 #[(0, x)]) (hx : ev x = .agg y.cells.toArray) : (execOp ev o).run Try.prog w = .ok (.value (.slice (some ⟨w.heap.size, 0, none⟩) 1 1)) (w.alloc (.cells y.cells.toArray 33)) := by
  obtain ⟨⟨a1, a2, a3, a4⟩, k5, ⟨g1, g2, g3, g4⟩, v6⟩ := y
  unfold execOp
  simp [ho, hx, go_sem, Wy.cells, I4.vals]
theorem exec_lenR {o : Oper} {w : World} {ev : Operand → Value} (x : Operand) (a : Option Addr) (n c : Nat) (ho : o.op = .call { callee := .builtin .len, args := #[x], argTypes := #[62] }) (hx : ev x = .slice a n c) : (execOp ev o).run Try.prog w = .ok (.value (.int .i64 (n : Int))) w := by
  unfold execOp
  simp [ho, hx, go_sem]
set_option maxRecDepth 100000 in
set_option maxHeartbeats 4000000 in
theorem All_any {w : World} {rt b : Nat} {ws : List Wy} {N : Int} (hr : Rt w rt b ws N) :
    Calls Try.prog 14 #[.pointer (some ⟨rt, 0, none⟩)] w fun e w' => ∃ v, e = .returned v ∧ RowF 10 (fun h => w.heap.size ≤ h) w' v ws.length (wyc ws) ∧ Below w.heap.size w w' := by
  obtain ⟨L, ck, bh, h1, h2, h3, h4, h5⟩ := hr
  have H1 := hide h1
  have H2 := hide h2
  have H3 := hide h3
  clear h1 h2 h3
  go_enter Try.func14, Try.ntmps14
  go_upto_region 2 with fail
  have Sd : RtAt w.drew rt b L ck bh := H1.out.later (later_drew _)
  refine wp_region_held (S := fun W => RtAt W rt b L ck bh) (by kernel_rfl) ?_
  refine takeD (i := 0) (v := .pointer (some ⟨rt, 0, none⟩)) 6 rfl rfl (by kernel_rfl) (by kernel_rfl) (by kernel_rfl) (fun _ _ _ h => h) (.inl ⟨by rfl, fun W hW => exec_move _ _ rfl rfl⟩) (Sd) ?_
  try simp only [Act.put, List.setIfInBounds_toArray, List.set_cons_zero, List.set_cons_succ]
  refine takeD (i := 1) (v := .pointer (some ⟨rt, 0, none⟩)) 7 rfl rfl (by kernel_rfl) (by kernel_rfl) (by kernel_rfl) (fun _ _ _ h => h) (.inl ⟨by rfl, fun W hW => exec_nil _ _ rfl rfl⟩) (Sd) ?_
  try simp only [Act.put, List.setIfInBounds_toArray, List.set_cons_zero, List.set_cons_succ]
  refine takeD (i := 2) (v := .pointer (some ⟨rt, 0, none⟩)) 8 rfl rfl (by kernel_rfl) (by kernel_rfl) (by kernel_rfl) (fun _ _ _ h => h) (.inl ⟨by rfl, fun W hW => exec_fieldO 51 _ 0 rt 0 0 rfl rfl (fun w => by kernel_rfl)⟩) (Sd) ?_
  try simp only [Act.put, List.setIfInBounds_toArray, List.set_cons_zero, List.set_cons_succ]
  refine takeD (i := 3) (v := .map (some b)) 9 rfl rfl (by kernel_rfl) (by kernel_rfl) (by kernel_rfl) (fun _ _ _ h => h) (.inl ⟨by rfl, fun W hW => exec_load1 48 oneMp _ rfl rt 0 rfl (.map (some b)) (hW.c0)⟩) (Sd) ?_
  try simp only [Act.put, List.setIfInBounds_toArray, List.set_cons_zero, List.set_cons_succ]
  refine takeD (i := 5) (v := .pointer (some ⟨rt, 0, none⟩)) 11 rfl rfl (by kernel_rfl) (by kernel_rfl) (by kernel_rfl) (fun _ _ _ h => h) (.inl ⟨by rfl, fun W hW => exec_move _ _ rfl rfl⟩) (Sd) ?_
  try simp only [Act.put, List.setIfInBounds_toArray, List.set_cons_zero, List.set_cons_succ]
  refine takeD (i := 6) (v := .pointer (some ⟨rt, 0, none⟩)) 12 rfl rfl (by kernel_rfl) (by kernel_rfl) (by kernel_rfl) (fun _ _ _ h => h) (.inl ⟨by rfl, fun W hW => exec_nil _ _ rfl rfl⟩) (Sd) ?_
  try simp only [Act.put, List.setIfInBounds_toArray, List.set_cons_zero, List.set_cons_succ]
  refine takeD (i := 7) (v := .pointer (some ⟨rt, 1, none⟩)) 13 rfl rfl (by kernel_rfl) (by kernel_rfl) (by kernel_rfl) (fun _ _ _ h => h) (.inl ⟨by rfl, fun W hW => exec_fieldO 51 _ 1 rt 0 1 rfl rfl (fun w => by kernel_rfl)⟩) (Sd) ?_
  try simp only [Act.put, List.setIfInBounds_toArray, List.set_cons_zero, List.set_cons_succ]
  refine takeD (i := 8) (v := .func (.func 15) #[] #[]) 14 rfl rfl (by kernel_rfl) (by kernel_rfl) (by kernel_rfl) (fun _ _ _ h => h) (.inl ⟨by rfl, fun W hW => exec_load1 49 oneFn _ rfl rt 1 rfl (.func (.func 15) #[] #[]) (hW.c1)⟩) (Sd) ?_
  try simp only [Act.put, List.setIfInBounds_toArray, List.set_cons_zero, List.set_cons_succ]
  refine takeD (i := 11) (v := .int .i64 0) 17 rfl rfl (by kernel_rfl) (by kernel_rfl) (by kernel_rfl) (fun _ _ _ h => h) (.inl ⟨by rfl, fun W hW => exec_move _ _ rfl rfl⟩) (Sd) ?_
  try simp only [Act.put, List.setIfInBounds_toArray, List.set_cons_zero, List.set_cons_succ]
  refine callD 4 10 (by kernel_rfl) rfl rfl rfl 23 #[.map (some b)] (exec_callF _ _ _ _ rfl (map1 rfl) (enters_of Try.func23 (by kernel_rfl) rfl)) (fun v w2 => v = .func (.func 28) #[] #[.pointer (some ⟨w.drew.heap.size, 0, none⟩)] ∧ w2 = w.drew.alloc (.cells #[.map (some b)] 48)) ((Values_any b w.drew).mono fun e w2 h => ⟨_, h.1, rfl, h.2⟩) ?_
  rintro v w2 ⟨rfl, hw2⟩
  obtain ⟨Bc, hBc⟩ : ∃ Bc, Bc = w.drew.heap.size := ⟨_, rfl⟩
  have b2 : Below w.heap.size w w2 := by rw [hw2]; exact (Below.refl _ w).drew.alloc (Nat.le_refl _) _
  have S2 : RtAt w2 rt b L ck bh := H1.out.later b2
  have c2 : w2.cell? ⟨Bc, 0, none⟩ = some (.map (some b)) := by
    have h := CellsAt.new w.drew [.map (some b)] 48
    rw [hw2, hBc]; exact h 0 _ rfl
  rw [← hBc]
  refine ⟨S2, ?_⟩
  try simp only [Act.put, List.setIfInBounds_toArray, List.set_cons_zero, List.set_cons_succ]
  refine callD 9 15 (by kernel_rfl) rfl rfl rfl 22 #[.func (.func 28) #[] #[.pointer (some ⟨Bc, 0, none⟩)], .func (.func 15) #[] #[]] (exec_callF _ _ _ _ rfl (map2 rfl rfl) (enters_of Try.func22 (by kernel_rfl) rfl)) (fun v w3 => ∃ a0 cap g, v = .slice a0 L.length cap ∧ (0 < L.length → a0 = some ⟨g, 0, none⟩) ∧ RowR w3 g L ∧ Below w2.heap.size w2 w3) ((SortedFunc_any Bc b ck L bh H2.out c2 S2.map).mono fun e w3 h => by obtain ⟨a0, cap, g, h1, h2⟩ := h; exact ⟨_, h1, a0, cap, g, rfl, h2⟩) ?_
  rintro v w3 ⟨a0, cap, g, rfl, ha, rR, b3⟩
  have b23 := later b2 b3
  have S3 : RtAt w3 rt b L ck bh := H1.out.later b23
  refine ⟨S3, ?_⟩
  try simp only [Act.put, List.setIfInBounds_toArray, List.set_cons_zero, List.set_cons_succ]
  refine takeD (i := 10) (v := .int .i64 (L.length : Int)) 16 rfl rfl (by kernel_rfl) (by kernel_rfl) (by kernel_rfl) (fun _ _ _ h => h) (.inl ⟨by rfl, fun W _ => exec_lenR _ a0 L.length cap rfl rfl⟩) S3 ?_
  try simp only [Act.put, List.setIfInBounds_toArray, List.set_cons_zero, List.set_cons_succ]
  refine wpAnyH_done (by kernel_rfl) ?_ _
  have LN : Hid (L.length = ws.length) := by unfold Hid; rw [← H3.out, List.length_map]
  have l8 : ws.length ≤ 8 := by rw [← LN.out]; exact H2.out.len
  obtain ⟨n, hn⟩ : ∃ n, n = ws.length := ⟨_, rfl⟩
  rw [LN.out, ← hn] at ha ⊢
  have HA := hide ha
  have RR := hide rR
  have B3 := hide b23
  have HN := hide hn
  have n8 : (n : Int) ≤ 8 := by omega
  have n8' : n ≤ 8 := by omega
  clear Sd S2 S3 c2 b2 b3 b23 hw2 hBc ha rR hn l8
  go_wp2
  go_loopw [3, 17] (fun vo vi wr => ∃ k : Nat, vi = .int .i64 (k : Int) ∧ k ≤ n ∧ Hid (RowF 10 (fun h => w3.heap.size ≤ h) wr vo k (wyc ws)) ∧ Hid (Below w3.heap.size w3 wr)) (fun _ vi _ => n - (intOf vi).toNat)
  case atStart => exact ⟨0, rfl, by omega, RowF.nil _ _ _ _, Below.refl _ _⟩
  case round =>
    obtain ⟨k, rfl, hk, hRF, hBl⟩ := hrel
    obtain ⟨oa, oc, rfl⟩ := hRF.out.shape
    by_cases hkl : k < n
    · have ea := HA.out (by omega)
      subst ea
      have kz : (k : Int) < (n : Int) := by omega
      obtain ⟨r, hr⟩ : ∃ r, L[k]? = some r := ⟨_, List.getElem?_eq_getElem (by rw [LN.out, ← HN.out]; exact hkl)⟩
      have hwr : ws[k]? = some r.w := by rw [← H3.out, List.getElem?_map, hr]; rfl
      have g3 : g < w3.heap.size := (RR.out.at_ k r hr).lt (Nat.succ_pos _)
      have cR := (RR.out.at_ k r hr).later g3 hBl.out
      have R10 : Hid (r.cells.length = 11) := (rfl : r.cells.length = 11)
      obtain ⟨wA, wB, hwA, hwB, cA, fA, cB, bB, lB⟩ := newV wr 57 zRw.cells r.cells rfl
      obtain ⟨p, hp⟩ : ∃ p, p = wr.heap.size := ⟨_, rfl⟩
      rw [← hp] at hwB cA fA cB lB
      go_upto_region 4 with fail
      refine wp_region_list ?_
      refine listVP (w' := wr) 19 (.pointer (some ⟨g, k * 11, none⟩)) rfl rfl rfl (exec_ixR _ _ g n cap k rfl rfl rfl hkl) ?_
      try simp only [Act.put, List.setIfInBounds_toArray, List.set_cons_zero, List.set_cons_succ]
      refine listVP (w' := wr) 20 (.agg (r.cells).toArray) rfl rfl rfl (exec_loadA 57 11 aggR sizR _ rfl g (k * 11) rfl (r.cells) rfl (cR)) ?_
      try simp only [Act.put, List.setIfInBounds_toArray, List.set_cons_zero, List.set_cons_succ]
      refine listVP (w' := wA) 5 (.pointer (some ⟨p, 0, none⟩)) rfl rfl rfl (by rw [hwA, hp]; exact exec_allocR rfl) ?_
      try simp only [Act.put, List.setIfInBounds_toArray, List.set_cons_zero, List.set_cons_succ]
      refine listSP (w' := wB) rfl rfl rfl (by rw [hwB]; exact exec_storeA 57 11 sizR _ _ rfl p 0 rfl r.cells zRw.cells rfl rfl rfl cA fA (row_one _)) ?_
      have cW : CellsAt wB p 0 r.w.cells := (CellsAt.append.1 cB).1
      obtain ⟨p2, hp2⟩ : ∃ p2, p2 = wB.heap.size := ⟨_, rfl⟩
      obtain ⟨wE, hwE⟩ : ∃ z, z = wB.alloc (.cells r.w.cells.toArray 33) := ⟨_, rfl⟩
      have bE : Below wr.heap.size wr wE := later bB (by rw [hwE]; exact (Below.refl _ _).alloc (Nat.le_refl _) _)
      have cE : CellsAt wE p2 0 r.w.cells := by rw [hwE, hp2]; exact CellsAt.new wB _ 33
      obtain ⟨i0, hi, hz0, hz1, hz2⟩ := info_parts info_way
      obtain ⟨a', c', wF, hrun, rF, hbF⟩ := (hRF.out.later bE).push 27 33 i0 _ Try.underlying27 hi hz0 hz1 (by omega) rfl (fun j hj => wyc_len ws j) (fun j hj => wy_one _) r.w.cells rfl (wy_one _) p2 cE (by omega)
      have BF : Hid (Below w3.heap.size w3 wF) := (hBl.out.trans (bE.mono hBl.out.size)).trans (hbF.below (Nat.le_trans hBl.out.size bE.size) (fun q hq e => by omega))
      have RF : Hid (RowF 10 (fun h => w3.heap.size ≤ h) wF (.slice a' (k + 1) c') (k + 1) (wyc ws)) := by
        refine (rF.own (fun h hh e => ?_)).cong (fun j hj => ?_)
        · rcases e with e | e
          · exact e
          · have := bE.size; have := hBl.out.size; omega
        · by_cases e : j < k
          · rw [if_pos e]
          · have ej : j = k := by omega
            subst ej
            rw [if_neg e]
            unfold wyc
            rw [hwr]
            rfl
      go_upto_region 5 with fail
      refine wp_region_list ?_
      refine listVP (w' := wB) 21 (.slice oa k oc) rfl rfl rfl (exec_move _ _ rfl rfl) ?_
      try simp only [Act.put, List.setIfInBounds_toArray, List.set_cons_zero, List.set_cons_succ]
      refine listVP (w' := wB) 22 (.pointer (some ⟨p, 0, none⟩)) rfl rfl rfl (exec_fieldO 57 _ 0 p 0 0 rfl rfl (fun w => by kernel_rfl)) ?_
      try simp only [Act.put, List.setIfInBounds_toArray, List.set_cons_zero, List.set_cons_succ]
      refine listVP (w' := wB) 23 (.agg (r.w.cells).toArray) rfl rfl rfl (exec_loadA 33 10 aggW sizW _ rfl p 0 rfl (r.w.cells) rfl (cW)) ?_
      try simp only [Act.put, List.setIfInBounds_toArray, List.set_cons_zero, List.set_cons_succ]
      refine listVP (w' := wE) 24 (.slice (some ⟨p2, 0, none⟩) 1 1) rfl rfl rfl (by rw [hwE, hp2]; exact exec_bsW _ r.w rfl rfl) ?_
      try simp only [Act.put, List.setIfInBounds_toArray, List.set_cons_zero, List.set_cons_succ]
      refine listVP (w' := wF) 25 (.slice a' (k + 1) c') rfl rfl rfl (exec_app _ _ 27 27 rfl (.slice oa k oc) (.slice (some ⟨p2, 0, none⟩) 1 1) rfl rfl 27 rfl hrun) ?_
      try simp only [Act.put, List.setIfInBounds_toArray, List.set_cons_zero, List.set_cons_succ]
      refine listVP (w' := wF) 3 (.slice a' (k + 1) c') rfl rfl rfl (exec_assign _ _ rfl rfl) ?_
      try simp only [Act.put, List.setIfInBounds_toArray, List.set_cons_zero, List.set_cons_succ]
      clear hrun rF hbF hwE cE bE cW cB bB hwA hwB cA fA cR hr hwr hRF hBl
      go_wp2
      go_roundw
      case rel => exact ⟨k + 1, by go_num, by omega, RF.out, BF.out⟩
      case measure => simp [intOf]; omega
    · have ek : k = n := by omega
      subst ek
      go_wp2
      go_ret
      refine ⟨_, rfl, ?_, B3.out.trans (hBl.out.mono B3.out.size)⟩
      rw [← HN.out]
      exact hRF.out.own (fun h _ e => by have := B3.out.size; omega)
end Go.Proofs.Ytlfacppkgamkgaa
