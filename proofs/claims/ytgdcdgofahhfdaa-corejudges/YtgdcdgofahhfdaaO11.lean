
/-
  Package core: the chapter's examples.
-/
import Derived.Test.YtgdcdgofahhfdaaO10
namespace Go.Proofs.Ytgdcdgofahhfdaa
open Go.RowKit Go.Shelf

def zCtL : List Value := zCt.cells
def zVdL : List Value := zVd.cells
theorem newCt (w : World) (X : List Value) (hX : X.length = 11) : ∃ w0 w1, w0 = w.alloc (.cells zCtL.toArray 24) ∧ w1 = w0.setCells w.heap.size 0 X ∧ CellsAt w0 w.heap.size 0 zCtL ∧ (∀ y, w0.frozen? ⟨w.heap.size, y, none⟩ = false) ∧ CellsAt w1 w.heap.size 0 X ∧ Below w.heap.size w w1 ∧ w.heap.size < w1.heap.size ∧ ∀ y, w1.frozen? ⟨w.heap.size, y, none⟩ = false := by
  refine ⟨_, _, rfl, rfl, CellsAt.new w _ _, fun y => frozen_new w _ _ _, (CellsAt.new w _ _).stored (by rw [hX]; rfl), (Below.refl _ w).alloc (Nat.le_refl _) _ |>.trans ((But.cells w.heap.size X 0 _).below (by simp) (fun g hg e => by have e : g = w.heap.size := e; omega)), ?_, fun y => by rw [World.frozen?_setCells]; exact frozen_new w _ _ _⟩
  have h := (But.cells w.heap.size X 0 (w.alloc (.cells zCtL.toArray 24))).size
  rw [World.size_alloc] at h
  omega
theorem newVd (w : World) (X : List Value) (hX : X.length = 18) : ∃ w0 w1, w0 = w.alloc (.cells zVdL.toArray 32) ∧ w1 = w0.setCells w.heap.size 0 X ∧ CellsAt w0 w.heap.size 0 zVdL ∧ (∀ y, w0.frozen? ⟨w.heap.size, y, none⟩ = false) ∧ CellsAt w1 w.heap.size 0 X ∧ Below w.heap.size w w1 ∧ w.heap.size < w1.heap.size ∧ ∀ y, w1.frozen? ⟨w.heap.size, y, none⟩ = false := by
  refine ⟨_, _, rfl, rfl, CellsAt.new w _ _, fun y => frozen_new w _ _ _, (CellsAt.new w _ _).stored (by rw [hX]; rfl), (Below.refl _ w).alloc (Nat.le_refl _) _ |>.trans ((But.cells w.heap.size X 0 _).below (by simp) (fun g hg e => by have e : g = w.heap.size := e; omega)), ?_, fun y => by rw [World.frozen?_setCells]; exact frozen_new w _ _ _⟩
  have h := (But.cells w.heap.size X 0 (w.alloc (.cells zVdL.toArray 32))).size
  rw [World.size_alloc] at h
  omega
theorem newSg (w : World) (X : List Value) (hX : X.length = 10) : ∃ w0 w1, w0 = w.alloc (.cells (zSg0.cells (.slice none 0 0) (.slice none 0 0)).toArray 28) ∧ w1 = w0.setCells w.heap.size 0 X ∧ CellsAt w0 w.heap.size 0 (zSg0.cells (.slice none 0 0) (.slice none 0 0)) ∧ (∀ y, w0.frozen? ⟨w.heap.size, y, none⟩ = false) ∧ CellsAt w1 w.heap.size 0 X ∧ Below w.heap.size w w1 ∧ w.heap.size < w1.heap.size ∧ ∀ y, w1.frozen? ⟨w.heap.size, y, none⟩ = false := by
  refine ⟨_, _, rfl, rfl, CellsAt.new w _ _, fun y => frozen_new w _ _ _, (CellsAt.new w _ _).stored (by rw [hX]; rfl), (Below.refl _ w).alloc (Nat.le_refl _) _ |>.trans ((But.cells w.heap.size X 0 _).below (by simp) (fun g hg e => by have e : g = w.heap.size := e; omega)), ?_, fun y => by rw [World.frozen?_setCells]; exact frozen_new w _ _ _⟩
  have h := (But.cells w.heap.size X 0 (w.alloc (.cells (zSg0.cells (.slice none 0 0) (.slice none 0 0)).toArray 28))).size
  rw [World.size_alloc] at h
  omega
theorem sg_one1 (s : Sg) (gv dv : Value) (hg : gv.oneCell' = true) (hd : dv.oneCell' = true) : ∀ u ∈ s.cells gv dv, u.oneCell' = true := by
  intro u h
  simp only [Sg.cells, List.mem_cons, List.not_mem_nil, or_false] at h
  rcases h with rfl | rfl | rfl | rfl | rfl | rfl | rfl | rfl | rfl | rfl
  all_goals first | rfl | exact hg | exact hd
/-- a block whose cells are X -/
def Box (W : World) (b : Nat) (X : List Value) : Prop := CellsAt W b 0 X ∧ (∀ y, W.frozen? ⟨b, y, none⟩ = false) ∧ b < W.heap.size
section
variable {W W' : World} {b : Nat} {X : List Value}
theorem Box.later (h : Box W b X) (hB : Below W.heap.size W W') : Box W' b X :=
  ⟨h.1.later h.2.2 hB, fun y => (hB.frozen (p := ⟨b, y, none⟩) h.2.2).trans (h.2.1 y), Nat.lt_of_lt_of_le h.2.2 hB.size⟩
theorem Box.but {K : Nat → Prop} (h : Box W b X) (hB : But K W W') (hk : ¬ K b) : Box W' b X :=
  ⟨h.1.but h.2.2 hB hk, fun y => (hB.frozen (p := ⟨b, y, none⟩) h.2.2 hk).trans (h.2.1 y), Nat.lt_of_lt_of_le h.2.2 hB.size⟩
theorem Box.all (h : Box W b X) {Y : List Value} (hl : Y.length = X.length) : Box (W.setCells b 0 Y) b Y :=
  ⟨h.1.stored hl, fun y => by rw [World.frozen?_setCells]; exact h.2.1 y, Nat.lt_of_lt_of_le h.2.2 (But.cells b Y 0 W).size⟩
theorem Box.one (h : Box W b X) {k : Nat} (hk : k < X.length) (u : Value) : Box (W.setCell ⟨b, k, none⟩ u) b (X.set k u) :=
  ⟨h.1.one hk u, fun y => by rw [World.frozen?_setCell]; exact h.2.1 y, Nat.lt_of_lt_of_le h.2.2 ((But.refl (Only b) W).cellb (b := b) rfl k u).size⟩
end
def exA : Ct := ⟨1, 0, 0, 1, false, 0, 0, 0, 0, 0, 0⟩
def exB : Ct := ⟨3, 0, 1, 1, false, 7, 9, 1, 9, 10, 10⟩
def exO : Ct := ⟨3, 0, 1, 1, false, 7, 9, 1, 9, 10, 20⟩
def exS1 : Sg := ⟨0, 0, 9, 1, 18, 7, 0, false, [], []⟩
def exS2 : Sg := ⟨0, 0, 0, 5, 16, 0, 0, false, [], []⟩
def exS3 : Sg := ⟨0, 0, 8, 1, 16, 0, 0, false, [], [97, 98, 99, 100]⟩
def exS4 : Sg := ⟨0, 0, 12, 0, 4, 0, 0, false, [], []⟩
def exS5 : Sg := ⟨0, 0, 10, 0, 4, 0, 0, false, [], []⟩
def exV1 : Vd := ⟨exB, 1, 0, true, false, 0, 0, false⟩
def exV2 : Vd := ⟨exA, 2, 0, false, false, 0, 0, false⟩
def exV3 : Vd := ⟨{ exO with wnd := 7 }, 0, 0, false, false, 2, 2, false⟩
def exV4 : Vd := ⟨exO, 1, 0, false, false, 0, 0, false⟩
def exV5 : Vd := ⟨exO, 0, 216, false, false, 0, 0, false⟩
theorem ex_a : begC 1 (fst32 0) = exA := by decide
theorem ex_v1 : judge exA exS1 = exV1 := by decide +kernel
theorem ex_v2 : judge exA exS2 = exV2 := by decide +kernel
theorem ex_v3 : judge exO exS3 = exV3 := by decide +kernel
theorem ex_v4 : judge exO exS4 = exV4 := by decide +kernel
theorem ex_v5 : judge exO exS5 = exV5 := by decide +kernel
set_option maxRecDepth 100000 in
set_option maxHeartbeats 16000000 in
theorem cAwake_any (w : World) : Calls Try.prog 9 #[] w fun e w' => e = .returned (.bool true) ∧ Below w.heap.size w w' := by
  have AC := Active_any 0 w
  rw [ex_a] at AC
  have HAC := hide AC
  clear AC
  go_enter Try.func9, Try.ntmps9
  go_wp2_with fail
  refine HAC.out.mono ?_
  rintro _ wv1 ⟨rfl, bz⟩
  have BB : Hid (Below w.heap.size w wv1) := bz
  clear bz
  clear HAC
  obtain ⟨Xc, hXc⟩ : ∃ X, X = exA.cells := ⟨_, rfl⟩
  have LXc : Hid (Xc.length = 11) := by rw [hXc]; exact rfl
  have OXc : Hid (∀ u ∈ Xc, u.oneCell' = true) := by rw [hXc]; exact ct_one _
  try rw [← hXc]
  obtain ⟨uv3, wv2, huc, hwc, cuc, fuc, ccc, bzc, lzc, ffc⟩ := newCt wv1 Xc LXc.out
  obtain ⟨bc, hbc⟩ : ∃ b, b = wv1.heap.size := ⟨_, rfl⟩
  rw [← hbc] at hwc cuc fuc ccc lzc ffc
  have EXc := hide hXc
  have ZBc : Hid (w.heap.size ≤ bc) := by have h := BB.out.size; unfold Hid; omega
  replace BB := hide (later BB.out bzc)
  have Uc : Hid (Box wv2 bc Xc) := ⟨ccc, ffc, lzc⟩
  have CUc := hide cuc
  have FUc := hide fuc
  have huc' := huc.symm
  simp only [zCtL, zCt, Ct.cells] at huc'
  have hwc' := hwc.symm
  have hbc' := hbc.symm
  clear hXc huc hwc cuc fuc ccc bzc lzc hbc ffc
  go_upto_region 2 with (refine wpList_storeA rfl 24 11 sizCt _ _ rfl bc 0 rfl Xc zCtL rfl LXc.out rfl CUc.out FUc.out OXc.out ?_; intro _; rw [hwc'])
  clear huc' hwc' hbc' CUc FUc OXc
  have JD := Judge_any (gv := .slice none 0 0) (da := none) (dc := 0) (s := exS1) (exA) rfl (by decide) wv2
  rw [ex_v1] at JD
  rw [← EXc.out] at JD
  have HJD := hide JD
  clear JD
  go_wp2_with (refine wpList_loadA rfl 24 11 aggCt sizCt _ rfl bc 0 rfl Xc LXc.out Uc.out.1 ?_)
  refine HJD.out.mono ?_
  rintro _ wv4 ⟨rfl, bz⟩
  replace Uc := hide (Uc.out.later bz)
  replace BB := hide (later BB.out bz)
  clear bz
  clear HJD
  obtain ⟨Xv, hXv⟩ : ∃ X, X = exV1.cells := ⟨_, rfl⟩
  have LXv : Hid (Xv.length = 18) := by rw [hXv]; exact rfl
  have OXv : Hid (∀ u ∈ Xv, u.oneCell' = true) := by rw [hXv]; exact vd_one _
  try rw [← hXv]
  obtain ⟨uv6, wv5, huv, hwv, cuv, fuv, ccv, bzv, lzv, ffv⟩ := newVd wv4 Xv LXv.out
  obtain ⟨bv, hbv⟩ : ∃ b, b = wv4.heap.size := ⟨_, rfl⟩
  rw [← hbv] at hwv cuv fuv ccv lzv ffv
  have EXv := hide hXv
  have D_c_v : Hid (bc < bv) := by have h := Uc.out.2.2; unfold Hid; omega
  have ZBv : Hid (w.heap.size ≤ bv) := by have h := BB.out.size; unfold Hid; omega
  replace Uc := hide (Uc.out.later bzv)
  replace BB := hide (later BB.out bzv)
  have Uv : Hid (Box wv5 bv Xv) := ⟨ccv, ffv, lzv⟩
  have CUv := hide cuv
  have FUv := hide fuv
  have huv' := huv.symm
  simp only [zVdL, zVd, zCt, Vd.cells] at huv'
  have hwv' := hwv.symm
  have hbv' := hbv.symm
  clear hXv huv hwv cuv fuv ccv bzv lzv hbv ffv
  go_upto_region 3 with (refine wpList_storeA rfl 32 18 sizVd _ _ rfl bv 0 rfl Xv zVdL rfl LXv.out rfl CUv.out FUv.out OXv.out ?_; intro _; rw [hwv'])
  clear huv' hwv' hbv' CUv FUv OXv
  have JD := Judge_any (gv := .slice none 0 0) (da := none) (dc := 0) (s := exS2) (exA) rfl (by decide) wv5
  rw [ex_v2] at JD
  rw [← EXc.out] at JD
  have HJD := hide JD
  clear JD
  go_wp2_with (refine wpList_loadA rfl 24 11 aggCt sizCt _ rfl bc 0 rfl Xc LXc.out Uc.out.1 ?_)
  refine HJD.out.mono ?_
  rintro _ wv7 ⟨rfl, bz⟩
  replace Uc := hide (Uc.out.later bz)
  replace Uv := hide (Uv.out.later bz)
  replace BB := hide (later BB.out bz)
  clear bz
  clear HJD
  obtain ⟨Xy2, hXy2⟩ : ∃ X, X = exV2.cells := ⟨_, rfl⟩
  have LXy2 : Hid (Xy2.length = 18) := by rw [hXy2]; exact rfl
  have OXy2 : Hid (∀ u ∈ Xy2, u.oneCell' = true) := by rw [hXy2]; exact vd_one _
  try rw [← hXy2]
  obtain ⟨uv9, wv8, huy2, hwy2, cuy2, fuy2, ccy2, bzy2, lzy2, ffy2⟩ := newVd wv7 Xy2 LXy2.out
  obtain ⟨by2, hby2⟩ : ∃ b, b = wv7.heap.size := ⟨_, rfl⟩
  rw [← hby2] at hwy2 cuy2 fuy2 ccy2 lzy2 ffy2
  have EXy2 := hide hXy2
  have D_c_y2 : Hid (bc < by2) := by have h := Uc.out.2.2; unfold Hid; omega
  have D_v_y2 : Hid (bv < by2) := by have h := Uv.out.2.2; unfold Hid; omega
  have ZBy2 : Hid (w.heap.size ≤ by2) := by have h := BB.out.size; unfold Hid; omega
  replace Uc := hide (Uc.out.later bzy2)
  replace Uv := hide (Uv.out.later bzy2)
  replace BB := hide (later BB.out bzy2)
  have Uy2 : Hid (Box wv8 by2 Xy2) := ⟨ccy2, ffy2, lzy2⟩
  have CUy2 := hide cuy2
  have FUy2 := hide fuy2
  have huy2' := huy2.symm
  simp only [zVdL, zVd, zCt, Vd.cells] at huy2'
  have hwy2' := hwy2.symm
  have hby2' := hby2.symm
  clear hXy2 huy2 hwy2 cuy2 fuy2 ccy2 bzy2 lzy2 hby2 ffy2
  go_upto_region 4 with (refine wpList_storeA rfl 32 18 sizVd _ _ rfl by2 0 rfl Xy2 zVdL rfl LXy2.out rfl CUy2.out FUy2.out OXy2.out ?_; intro _; rw [hwy2'])
  clear huy2' hwy2' hby2' CUy2 FUy2 OXy2
  obtain ⟨Nv, hNv⟩ : ∃ X, X = (exB).cells := ⟨_, rfl⟩
  have LNv : Hid (Nv.length = 11) := by rw [hNv]; exact rfl
  have UNv : Hid (CellsAt wv8 bv 0 Nv) := by have h := Uv.out.1; rw [EXv.out, Vd.parts] at h; rw [hNv]; exact (CellsAt.append.1 h).1
  have ENv := hide hNv
  clear hNv
  obtain ⟨Xq, hXq⟩ : ∃ X, X = exB.cells := ⟨_, rfl⟩
  have LXq : Hid (Xq.length = 11) := by rw [hXq]; exact rfl
  have OXq : Hid (∀ u ∈ Xq, u.oneCell' = true) := by rw [hXq]; exact ct_one _
  try rw [← hXq]
  obtain ⟨uv11, wv10, huq, hwq, cuq, fuq, ccq, bzq, lzq, ffq⟩ := newCt wv8 Xq LXq.out
  obtain ⟨bq, hbq⟩ : ∃ b, b = wv8.heap.size := ⟨_, rfl⟩
  rw [← hbq] at hwq cuq fuq ccq lzq ffq
  have EXq := hide hXq
  have D_c_q : Hid (bc < bq) := by have h := Uc.out.2.2; unfold Hid; omega
  have D_v_q : Hid (bv < bq) := by have h := Uv.out.2.2; unfold Hid; omega
  have D_y2_q : Hid (by2 < bq) := by have h := Uy2.out.2.2; unfold Hid; omega
  have ZBq : Hid (w.heap.size ≤ bq) := by have h := BB.out.size; unfold Hid; omega
  replace Uc := hide (Uc.out.later bzq)
  replace Uv := hide (Uv.out.later bzq)
  replace Uy2 := hide (Uy2.out.later bzq)
  replace BB := hide (later BB.out bzq)
  have Uq : Hid (Box wv10 bq Xq) := ⟨ccq, ffq, lzq⟩
  have CUq := hide cuq
  have FUq := hide fuq
  have huq' := huq.symm
  simp only [zCtL, zCt, Ct.cells] at huq'
  have hwq' := hwq.symm
  have hbq' := hbq.symm
  clear hXq huq hwq cuq fuq ccq bzq lzq hbq ffq
  have ENq : Hid (Xq = Nv) := by unfold Hid; rw [EXq.out, ENv.out]
  replace LNv := LNv
  rw [← ENq.out] at UNv LNv
  go_upto_region 5 with (first | refine wpList_loadA rfl 24 11 aggCt sizCt _ rfl bv 0 rfl Xq LXq.out UNv.out ?_ | (refine wpList_storeA rfl 24 11 sizCt _ _ rfl bq 0 rfl Xq zCtL rfl LXq.out rfl CUq.out FUq.out OXq.out ?_; intro _; rw [hwq']))
  clear huq' hwq' hbq' CUq FUq OXq
  clear UNv LNv ENq ENv
  obtain ⟨vo, so⟩ : ∃ v, wv10.cell? ⟨bq, 10, none⟩ = some v := by have h := Uq.out.1 10 _ (List.getElem?_eq_getElem (by rw [LXq.out]; decide)); rw [Nat.zero_add] at h; exact ⟨_, h⟩
  have fo := Uq.out.2.1 10
  obtain ⟨wv12, hwo⟩ : ∃ w1, w1 = wv10.setCell ⟨bq, 10, none⟩ (.int .u32 20) := ⟨_, rfl⟩
  have bo : But (Only bq) wv10 wv12 := by rw [hwo]; exact (But.refl (Only bq) wv10).setOf (b := bq) rfl 10 _
  obtain ⟨Y13, hY⟩ : ∃ X, X = exO.cells := ⟨_, rfl⟩
  have LY : Hid (Y13.length = 11) := by rw [hY]; exact rfl
  have U1 : Hid (Box wv12 bq Y13) := by rw [hwo, hY]; have h := Uq.out.one (k := 10) (by rw [LXq.out]; decide) (.int .u32 20); rw [EXq.out] at h; exact h
  replace Uc := hide (Uc.out.but bo (fun e => by have e : bc = bq := e; have := D_c_q.out; omega))
  replace Uv := hide (Uv.out.but bo (fun e => by have e : bv = bq := e; have := D_v_q.out; omega))
  replace Uy2 := hide (Uy2.out.but bo (fun e => by have e : by2 = bq := e; have := D_y2_q.out; omega))
  replace BB : Hid (Below w.heap.size w wv12) := BB.out.trans (bo.below BB.out.size (fun g hg e => by have e : g = bq := e; have := ZBq.out; omega))
  have EY := hide hY
  have hwo' := hwo.symm
  clear hwo bo hY Uq LXq EXq
  go_upto_region 6 with fail
  clear hwo' so fo
  try clear vo
  try clear Xq
  obtain ⟨Xq, hXX⟩ : ∃ X, X = Y13 := ⟨_, rfl⟩
  rw [← hXX] at U1 LY EY
  have Uq := U1
  have LXq := LY
  have EXq := EY
  clear U1 LY EY hXX Y13
  have CLq := hide Uq.out.1
  obtain ⟨wq, hwq⟩ : ∃ w1, w1 = wv12.alloc (.cells #[.int .u8 97, .int .u8 98, .int .u8 99, .int .u8 100] 5 (4, 5)) := ⟨_, rfl⟩
  obtain ⟨g, hg⟩ : ∃ g, g = wv12.heap.size := ⟨_, rfl⟩
  have bz : Below wv12.heap.size wv12 wq := by rw [hwq]; exact later_alloc _ _
  have cv : (convert 26 26 (.slice (some ⟨g, 0, none⟩) 4 4)).run Try.prog (wv12.alloc (.cells #[.int .u8 97, .int .u8 98, .int .u8 99, .int .u8 100] 5)) = .ok (.slice (some ⟨g, 0, none⟩) 4 4) wq := by rw [hg, hwq]; exact conv_same _ _ _ _
  replace Uc := hide (Uc.out.later bz)
  replace Uv := hide (Uv.out.later bz)
  replace Uy2 := hide (Uy2.out.later bz)
  replace Uq := hide (Uq.out.later bz)
  replace BB := hide (later BB.out bz)
  have hg' := hg.symm
  clear hwq hg bz
  have JD := Judge_any (gv := .slice none 0 0) (da := (some ⟨g, 0, none⟩)) (dc := 4) (s := exS3) (exO) rfl (by decide) wq
  rw [ex_v3] at JD
  rw [← EXq.out] at JD
  have HJD := hide JD
  clear JD
  go_wp2_with (refine wpList_loadA rfl 24 11 aggCt sizCt _ rfl bq 0 rfl Xq LXq.out CLq.out ?_)
  clear cv hg'
  refine HJD.out.mono ?_
  rintro _ wv14 ⟨rfl, bz⟩
  replace Uc := hide (Uc.out.later bz)
  replace Uv := hide (Uv.out.later bz)
  replace Uy2 := hide (Uy2.out.later bz)
  replace Uq := hide (Uq.out.later bz)
  replace BB := hide (later BB.out bz)
  clear bz
  clear HJD CLq
  obtain ⟨Xx, hXx⟩ : ∃ X, X = exV3.cells := ⟨_, rfl⟩
  have LXx : Hid (Xx.length = 18) := by rw [hXx]; exact rfl
  have OXx : Hid (∀ u ∈ Xx, u.oneCell' = true) := by rw [hXx]; exact vd_one _
  try rw [← hXx]
  obtain ⟨uv16, wv15, hux, hwx, cux, fux, ccx, bzx, lzx, ffx⟩ := newVd wv14 Xx LXx.out
  obtain ⟨bx, hbx⟩ : ∃ b, b = wv14.heap.size := ⟨_, rfl⟩
  rw [← hbx] at hwx cux fux ccx lzx ffx
  have EXx := hide hXx
  have D_c_x : Hid (bc < bx) := by have h := Uc.out.2.2; unfold Hid; omega
  have D_v_x : Hid (bv < bx) := by have h := Uv.out.2.2; unfold Hid; omega
  have D_y2_x : Hid (by2 < bx) := by have h := Uy2.out.2.2; unfold Hid; omega
  have D_q_x : Hid (bq < bx) := by have h := Uq.out.2.2; unfold Hid; omega
  have ZBx : Hid (w.heap.size ≤ bx) := by have h := BB.out.size; unfold Hid; omega
  replace Uc := hide (Uc.out.later bzx)
  replace Uv := hide (Uv.out.later bzx)
  replace Uy2 := hide (Uy2.out.later bzx)
  replace Uq := hide (Uq.out.later bzx)
  replace BB := hide (later BB.out bzx)
  have Ux : Hid (Box wv15 bx Xx) := ⟨ccx, ffx, lzx⟩
  have CUx := hide cux
  have FUx := hide fux
  have hux' := hux.symm
  simp only [zVdL, zVd, zCt, Vd.cells] at hux'
  have hwx' := hwx.symm
  have hbx' := hbx.symm
  clear hXx hux hwx cux fux ccx bzx lzx hbx ffx
  go_upto_region 7 with (refine wpList_storeA rfl 32 18 sizVd _ _ rfl bx 0 rfl Xx zVdL rfl LXx.out rfl CUx.out FUx.out OXx.out ?_; intro _; rw [hwx'])
  clear hux' hwx' hbx' CUx FUx OXx
  have JD := Judge_any (gv := .slice none 0 0) (da := none) (dc := 0) (s := exS4) (exO) rfl (by decide) wv15
  rw [ex_v4] at JD
  rw [← EXq.out] at JD
  have HJD := hide JD
  clear JD
  go_wp2_with (refine wpList_loadA rfl 24 11 aggCt sizCt _ rfl bq 0 rfl Xq LXq.out Uq.out.1 ?_)
  refine HJD.out.mono ?_
  rintro _ wv17 ⟨rfl, bz⟩
  replace Uc := hide (Uc.out.later bz)
  replace Uv := hide (Uv.out.later bz)
  replace Uy2 := hide (Uy2.out.later bz)
  replace Uq := hide (Uq.out.later bz)
  replace Ux := hide (Ux.out.later bz)
  replace BB := hide (later BB.out bz)
  clear bz
  clear HJD
  obtain ⟨Xt, hXt⟩ : ∃ X, X = exV4.cells := ⟨_, rfl⟩
  have LXt : Hid (Xt.length = 18) := by rw [hXt]; exact rfl
  have OXt : Hid (∀ u ∈ Xt, u.oneCell' = true) := by rw [hXt]; exact vd_one _
  try rw [← hXt]
  obtain ⟨uv19, wv18, hut, hwt, cut, fut, cct, bzt, lzt, fft⟩ := newVd wv17 Xt LXt.out
  obtain ⟨bt, hbt⟩ : ∃ b, b = wv17.heap.size := ⟨_, rfl⟩
  rw [← hbt] at hwt cut fut cct lzt fft
  have EXt := hide hXt
  have D_c_t : Hid (bc < bt) := by have h := Uc.out.2.2; unfold Hid; omega
  have D_v_t : Hid (bv < bt) := by have h := Uv.out.2.2; unfold Hid; omega
  have D_y2_t : Hid (by2 < bt) := by have h := Uy2.out.2.2; unfold Hid; omega
  have D_q_t : Hid (bq < bt) := by have h := Uq.out.2.2; unfold Hid; omega
  have D_x_t : Hid (bx < bt) := by have h := Ux.out.2.2; unfold Hid; omega
  have ZBt : Hid (w.heap.size ≤ bt) := by have h := BB.out.size; unfold Hid; omega
  replace Uc := hide (Uc.out.later bzt)
  replace Uv := hide (Uv.out.later bzt)
  replace Uy2 := hide (Uy2.out.later bzt)
  replace Uq := hide (Uq.out.later bzt)
  replace Ux := hide (Ux.out.later bzt)
  replace BB := hide (later BB.out bzt)
  have Ut : Hid (Box wv18 bt Xt) := ⟨cct, fft, lzt⟩
  have CUt := hide cut
  have FUt := hide fut
  have hut' := hut.symm
  simp only [zVdL, zVd, zCt, Vd.cells] at hut'
  have hwt' := hwt.symm
  have hbt' := hbt.symm
  clear hXt hut hwt cut fut cct bzt lzt hbt fft
  go_upto_region 8 with (refine wpList_storeA rfl 32 18 sizVd _ _ rfl bt 0 rfl Xt zVdL rfl LXt.out rfl CUt.out FUt.out OXt.out ?_; intro _; rw [hwt'])
  clear hut' hwt' hbt' CUt FUt OXt
  have JD := Judge_any (gv := .slice none 0 0) (da := none) (dc := 0) (s := exS5) (exO) rfl (by decide) wv18
  rw [ex_v5] at JD
  rw [← EXq.out] at JD
  have HJD := hide JD
  clear JD
  go_wp2_with (refine wpList_loadA rfl 24 11 aggCt sizCt _ rfl bq 0 rfl Xq LXq.out Uq.out.1 ?_)
  refine HJD.out.mono ?_
  rintro _ wv20 ⟨rfl, bz⟩
  replace Uc := hide (Uc.out.later bz)
  replace Uv := hide (Uv.out.later bz)
  replace Uy2 := hide (Uy2.out.later bz)
  replace Uq := hide (Uq.out.later bz)
  replace Ux := hide (Ux.out.later bz)
  replace Ut := hide (Ut.out.later bz)
  replace BB := hide (later BB.out bz)
  clear bz
  clear HJD
  obtain ⟨Xz, hXz⟩ : ∃ X, X = exV5.cells := ⟨_, rfl⟩
  have LXz : Hid (Xz.length = 18) := by rw [hXz]; exact rfl
  have OXz : Hid (∀ u ∈ Xz, u.oneCell' = true) := by rw [hXz]; exact vd_one _
  try rw [← hXz]
  obtain ⟨uv22, wv21, huz, hwz, cuz, fuz, ccz, bzz, lzz, ffz⟩ := newVd wv20 Xz LXz.out
  obtain ⟨bz, hbz⟩ : ∃ b, b = wv20.heap.size := ⟨_, rfl⟩
  rw [← hbz] at hwz cuz fuz ccz lzz ffz
  have EXz := hide hXz
  have D_c_z : Hid (bc < bz) := by have h := Uc.out.2.2; unfold Hid; omega
  have D_v_z : Hid (bv < bz) := by have h := Uv.out.2.2; unfold Hid; omega
  have D_y2_z : Hid (by2 < bz) := by have h := Uy2.out.2.2; unfold Hid; omega
  have D_q_z : Hid (bq < bz) := by have h := Uq.out.2.2; unfold Hid; omega
  have D_x_z : Hid (bx < bz) := by have h := Ux.out.2.2; unfold Hid; omega
  have D_t_z : Hid (bt < bz) := by have h := Ut.out.2.2; unfold Hid; omega
  have ZBz : Hid (w.heap.size ≤ bz) := by have h := BB.out.size; unfold Hid; omega
  replace Uc := hide (Uc.out.later bzz)
  replace Uv := hide (Uv.out.later bzz)
  replace Uy2 := hide (Uy2.out.later bzz)
  replace Uq := hide (Uq.out.later bzz)
  replace Ux := hide (Ux.out.later bzz)
  replace Ut := hide (Ut.out.later bzz)
  replace BB := hide (later BB.out bzz)
  have Uz : Hid (Box wv21 bz Xz) := ⟨ccz, ffz, lzz⟩
  have CUz := hide cuz
  have FUz := hide fuz
  have huz' := huz.symm
  simp only [zVdL, zVd, zCt, Vd.cells] at huz'
  have hwz' := hwz.symm
  have hbz' := hbz.symm
  clear hXz huz hwz cuz fuz ccz bzz lzz hbz ffz
  go_upto_region 9 with (refine wpList_storeA rfl 32 18 sizVd _ _ rfl bz 0 rfl Xz zVdL rfl LXz.out rfl CUz.out FUz.out OXz.out ?_; intro _; rw [hwz'])
  clear huz' hwz' hbz' CUz FUz OXz
  have k1 : wv21.cell? ⟨bc, 3, none⟩ = some (.int .u32 1) := by have h := Uc.out.1 3 (.int .u32 1) (by rw [EXc.out]; rfl); rw [Nat.zero_add] at h; exact h
  have k2 : wv21.cell? ⟨bv, 0, none⟩ = some (.int .i64 3) := by have h := Uv.out.1 0 (.int .i64 3) (by rw [EXv.out]; rfl); rw [Nat.zero_add] at h; exact h
  have k3 : wv21.cell? ⟨bv, 9, none⟩ = some (.int .u32 10) := by have h := Uv.out.1 9 (.int .u32 10) (by rw [EXv.out]; rfl); rw [Nat.zero_add] at h; exact h
  have k4 : wv21.cell? ⟨bv, 11, none⟩ = some (.int .i64 1) := by have h := Uv.out.1 11 (.int .i64 1) (by rw [EXv.out]; rfl); rw [Nat.zero_add] at h; exact h
  have k5 : wv21.cell? ⟨bv, 13, none⟩ = some (.bool true) := by have h := Uv.out.1 13 (.bool true) (by rw [EXv.out]; rfl); rw [Nat.zero_add] at h; exact h
  have k6 : wv21.cell? ⟨by2, 11, none⟩ = some (.int .i64 2) := by have h := Uy2.out.1 11 (.int .i64 2) (by rw [EXy2.out]; rfl); rw [Nat.zero_add] at h; exact h
  have k7 : wv21.cell? ⟨bx, 15, none⟩ = some (.int .i64 2) := by have h := Ux.out.1 15 (.int .i64 2) (by rw [EXx.out]; rfl); rw [Nat.zero_add] at h; exact h
  have k8 : wv21.cell? ⟨bx, 16, none⟩ = some (.int .i64 2) := by have h := Ux.out.1 16 (.int .i64 2) (by rw [EXx.out]; rfl); rw [Nat.zero_add] at h; exact h
  have k9 : wv21.cell? ⟨bt, 11, none⟩ = some (.int .i64 1) := by have h := Ut.out.1 11 (.int .i64 1) (by rw [EXt.out]; rfl); rw [Nat.zero_add] at h; exact h
  have k10 : wv21.cell? ⟨bz, 12, none⟩ = some (.int .i64 216) := by have h := Uz.out.1 12 (.int .i64 216) (by rw [EXz.out]; rfl); rw [Nat.zero_add] at h; exact h
  go_wp2
  go_ret
  exact ⟨rfl, BB.out⟩
end Go.Proofs.Ytgdcdgofahhfdaa
