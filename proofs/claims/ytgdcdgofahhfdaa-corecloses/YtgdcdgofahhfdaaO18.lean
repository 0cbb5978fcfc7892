
/-
  CoreCloses: two that are open.
-/
import Derived.Test.YtgdcdgofahhfdaaO17
namespace Go.Proofs.Ytgdcdgofahhfdaa
open Go.RowKit Go.Shelf

theorem results_CC {fn : Func} {p q a : Tmp} {T : TypeId} (h : fn.results = #[.cell p T, .cell q T, .tmp a]) (tmps : Array Value) (w : World) (s r : Nat) (v u va : Value) (hp : tmps.getD p undef = .pointer (some ⟨s, 0, none⟩)) (hq : tmps.getD q undef = .pointer (some ⟨r, 0, none⟩)) (ha : tmps.getD a undef = va) (hL : (loadVar T ⟨s, 0, none⟩).run Try.prog w = .ok v w) (hM : (loadVar T ⟨r, 0, none⟩).run Try.prog w = .ok u w) : (results fn tmps).run Try.prog w = .ok (.tuple #[v, u, va]) w := by
  have hp' : (asAddr (tmps.getD p undef)).run Try.prog w = .ok ⟨s, 0, none⟩ w := by rw [hp]; rfl
  have hp2 : (asAddr (tmps[p]?.getD undef)).run Try.prog w = .ok ⟨s, 0, none⟩ w := by simpa using hp'
  have hq' : (asAddr (tmps.getD q undef)).run Try.prog w = .ok ⟨r, 0, none⟩ w := by rw [hq]; rfl
  have hq2 : (asAddr (tmps[q]?.getD undef)).run Try.prog w = .ok ⟨r, 0, none⟩ w := by simpa using hq'
  have ha' : tmps[a]?.getD undef = va := by simpa using ha
  simp only [results, h]
  simp [Sem.run_bind, Result.andThen, hp2, hq2, hL, hM, ha']
set_option maxRecDepth 100000 in
set_option maxHeartbeats 16000000 in
theorem opened_any (a b : Int) (w : World) : Calls Try.prog 23 #[.int .i64 a, .int .i64 b] w fun e w' => e = .returned (.tuple #[.agg (cO (fst32 a) (fst32 b) (fst32 b)).cells.toArray, .agg (cO (fst32 b) (fst32 a) ((fst32 a + 1) % 4294967296)).cells.toArray, .bool true]) ∧ Below w.heap.size w w' := by
  obtain ⟨w1, bra, hs1, hw1, cc1, ff1, b1, l1⟩ := boxC w zCt
  obtain ⟨w2, brb, hs2, hw2, cc2, ff2, b2, l2⟩ := boxC w1 zCt
  obtain ⟨f, hf⟩ : ∃ f, f = fst32 a := ⟨_, rfl⟩
  obtain ⟨g, hg⟩ : ∃ g, g = fst32 b := ⟨_, rfl⟩
  rw [← hf, ← hg]
  have HF := hide hf
  have HG := hide hg
  have BB := hide (later b1 b2)
  have ZBra : Hid (w.heap.size ≤ bra) := by unfold Hid; omega
  have ZBrb : Hid (w.heap.size ≤ brb) := by have := b1.size; unfold Hid; omega
  have D_ra_rb : Hid (bra < brb) := by unfold Hid; omega
  obtain ⟨Xra, hXra⟩ : ∃ X, X = zCt.cells := ⟨_, rfl⟩
  have LXra : Hid (Xra.length = 11) := by rw [hXra]; exact rfl
  have Ura : Hid (Box w2 bra Xra) := by rw [hXra]; exact Box.later (W := w1) ⟨cc1, ff1, l1⟩ b2
  have EXra := hide hXra
  clear hXra
  obtain ⟨Xrb, hXrb⟩ : ∃ X, X = zCt.cells := ⟨_, rfl⟩
  have LXrb : Hid (Xrb.length = 11) := by rw [hXrb]; exact rfl
  have Urb : Hid (Box w2 brb Xrb) := by rw [hXrb]; exact ⟨cc2, ff2, l2⟩
  have EXrb := hide hXrb
  clear hXrb
  have hs1' := hs1.symm
  have hw1' := hw1.symm
  have hs2' := hs2.symm
  have hw2' := hw2.symm
  simp only [zCt] at hw1' hw2'
  clear hs1 hw1 cc1 ff1 b1 l1 hs2 hw2 cc2 ff2 b2 l2 hf hg
  go_enter Try.func23, Try.ntmps23
  go_upto_region 1 with fail
  clear hs1' hw1' hs2' hw2'
  have CN := Active_any a w2
  rw [← HF.out] at CN
  have HCN := hide CN
  clear CN
  go_wp2_with fail
  refine HCN.out.mono ?_
  rintro _ wv1 ⟨rfl, bz⟩
  replace Ura := hide (Ura.out.later bz)
  replace Urb := hide (Urb.out.later bz)
  replace BB := hide (later BB.out bz)
  clear bz
  clear HCN
  obtain ⟨Xx, hXx⟩ : ∃ X, X = (begC 1 f).cells := ⟨_, rfl⟩
  have LXx : Hid (Xx.length = 11) := by rw [hXx]; exact rfl
  have OXx : Hid (∀ u ∈ Xx, u.oneCell' = true) := by rw [hXx]; exact ct_one _
  try rw [← hXx]
  obtain ⟨uv3, wv2, hux, hwx, cux, fux, ccx, bzx, lzx, ffx⟩ := newCt wv1 Xx LXx.out
  obtain ⟨bx, hbx⟩ : ∃ b, b = wv1.heap.size := ⟨_, rfl⟩
  rw [← hbx] at hwx cux fux ccx lzx ffx
  have EXx := hide hXx
  have D_ra_x : Hid (bra < bx) := by have h := Ura.out.2.2; unfold Hid; omega
  have D_rb_x : Hid (brb < bx) := by have h := Urb.out.2.2; unfold Hid; omega
  have ZBx : Hid (w.heap.size ≤ bx) := by have h := BB.out.size; unfold Hid; omega
  replace Ura := hide (Ura.out.later bzx)
  replace Urb := hide (Urb.out.later bzx)
  replace BB := hide (later BB.out bzx)
  have Ux : Hid (Box wv2 bx Xx) := ⟨ccx, ffx, lzx⟩
  have CUx := hide cux
  have FUx := hide fux
  have hux' := hux.symm
  simp only [zCtL, zCt, Ct.cells] at hux'
  have hwx' := hwx.symm
  have hbx' := hbx.symm
  clear hXx hux hwx cux fux ccx bzx lzx hbx ffx
  go_upto_region 2 with (refine wpList_storeA rfl 24 11 sizCt _ _ rfl bx 0 rfl Xx zCtL rfl LXx.out rfl CUx.out FUx.out OXx.out ?_; intro hcs; clear hcs; rw [hwx'])
  clear hux' hwx' hbx' CUx FUx OXx
  have k1 : wv2.cell? ⟨bx, 1, none⟩ = some (.int .u32 f) := by have h := Ux.out.1 1 (.int .u32 f) (by rw [EXx.out]; rfl); rw [Nat.zero_add] at h; exact h
  have CN := Passive_any (mS1 f 9) (.slice none 0 0) (.slice none 0 0) b wv2
  rw [(m1 f b 9).1, (m1 f b 9).2, ← HG.out] at CN
  have HCN := hide CN
  clear CN
  go_wp2_with fail
  clear k1
  refine HCN.out.mono ?_
  rintro _ wv4 ⟨rfl, bz⟩
  replace Ura := hide (Ura.out.later bz)
  replace Urb := hide (Urb.out.later bz)
  replace Ux := hide (Ux.out.later bz)
  replace BB := hide (later BB.out bz)
  clear bz
  clear HCN
  obtain ⟨Xyy, hXyy⟩ : ∃ X, X = (mY0 f g 9).cells := ⟨_, rfl⟩
  have LXyy : Hid (Xyy.length = 11) := by rw [hXyy]; exact rfl
  have OXyy : Hid (∀ u ∈ Xyy, u.oneCell' = true) := by rw [hXyy]; exact ct_one _
  try rw [← hXyy]
  obtain ⟨uv6, wv5, huyy, hwyy, cuyy, fuyy, ccyy, bzyy, lzyy, ffyy⟩ := newCt wv4 Xyy LXyy.out
  obtain ⟨byy, hbyy⟩ : ∃ b, b = wv4.heap.size := ⟨_, rfl⟩
  rw [← hbyy] at hwyy cuyy fuyy ccyy lzyy ffyy
  have EXyy := hide hXyy
  have D_ra_yy : Hid (bra < byy) := by have h := Ura.out.2.2; unfold Hid; omega
  have D_rb_yy : Hid (brb < byy) := by have h := Urb.out.2.2; unfold Hid; omega
  have D_x_yy : Hid (bx < byy) := by have h := Ux.out.2.2; unfold Hid; omega
  have ZByy : Hid (w.heap.size ≤ byy) := by have h := BB.out.size; unfold Hid; omega
  replace Ura := hide (Ura.out.later bzyy)
  replace Urb := hide (Urb.out.later bzyy)
  replace Ux := hide (Ux.out.later bzyy)
  replace BB := hide (later BB.out bzyy)
  have Uyy : Hid (Box wv5 byy Xyy) := ⟨ccyy, ffyy, lzyy⟩
  have CUyy := hide cuyy
  have FUyy := hide fuyy
  have huyy' := huyy.symm
  simp only [zCtL, zCt, Ct.cells] at huyy'
  have hwyy' := hwyy.symm
  have hbyy' := hbyy.symm
  clear hXyy huyy hwyy cuyy fuyy ccyy bzyy lzyy hbyy ffyy
  go_upto_region 3 with (refine wpList_storeA rfl 24 11 sizCt _ _ rfl byy 0 rfl Xyy zCtL rfl LXyy.out rfl CUyy.out FUyy.out OXyy.out ?_; intro hcs; clear hcs; rw [hwyy'])
  clear huyy' hwyy' hbyy' CUyy FUyy OXyy
  have k1 : wv5.cell? ⟨byy, 1, none⟩ = some (.int .u32 g) := by have h := Uyy.out.1 1 (.int .u32 g) (by rw [EXyy.out]; rfl); rw [Nat.zero_add] at h; exact h
  have k2 : wv5.cell? ⟨byy, 9, none⟩ = some (.int .u32 ((f + 1) % 4294967296)) := by have h := Uyy.out.1 9 (.int .u32 ((f + 1) % 4294967296)) (by rw [EXyy.out]; rfl); rw [Nat.zero_add] at h; exact h
  have JD := Judge_any (gv := .slice none 0 0) (da := none) (dc := 0) (s := mSA g ((f + 1) % 4294967296) 9) (begC 1 f) rfl (Nat.zero_le _) wv5
  rw [m2] at JD
  rw [← EXx.out] at JD
  have HJD := hide JD
  clear JD
  go_wp2_with (refine wpList_loadA rfl 24 11 aggCt sizCt _ rfl bx 0 rfl Xx LXx.out Ux.out.1 ?_)
  clear k1 k2
  refine HJD.out.mono ?_
  rintro _ wv7 ⟨rfl, bz⟩
  replace Ura := hide (Ura.out.later bz)
  replace Urb := hide (Urb.out.later bz)
  replace Ux := hide (Ux.out.later bz)
  replace Uyy := hide (Uyy.out.later bz)
  replace BB := hide (later BB.out bz)
  clear bz
  clear HJD
  obtain ⟨Xv, hXv⟩ : ∃ X, X = (vOf (mO f g 9 g) 1 true).cells := ⟨_, rfl⟩
  have LXv : Hid (Xv.length = 18) := by rw [hXv]; exact rfl
  have OXv : Hid (∀ u ∈ Xv, u.oneCell' = true) := by rw [hXv]; exact vd_one _
  try rw [← hXv]
  obtain ⟨uv9, wv8, huv, hwv, cuv, fuv, ccv, bzv, lzv, ffv⟩ := newVd wv7 Xv LXv.out
  obtain ⟨bv, hbv⟩ : ∃ b, b = wv7.heap.size := ⟨_, rfl⟩
  rw [← hbv] at hwv cuv fuv ccv lzv ffv
  have EXv := hide hXv
  have D_ra_v : Hid (bra < bv) := by have h := Ura.out.2.2; unfold Hid; omega
  have D_rb_v : Hid (brb < bv) := by have h := Urb.out.2.2; unfold Hid; omega
  have D_x_v : Hid (bx < bv) := by have h := Ux.out.2.2; unfold Hid; omega
  have D_yy_v : Hid (byy < bv) := by have h := Uyy.out.2.2; unfold Hid; omega
  have ZBv : Hid (w.heap.size ≤ bv) := by have h := BB.out.size; unfold Hid; omega
  replace Ura := hide (Ura.out.later bzv)
  replace Urb := hide (Urb.out.later bzv)
  replace Ux := hide (Ux.out.later bzv)
  replace Uyy := hide (Uyy.out.later bzv)
  replace BB := hide (later BB.out bzv)
  have Uv : Hid (Box wv8 bv Xv) := ⟨ccv, ffv, lzv⟩
  have CUv := hide cuv
  have FUv := hide fuv
  have huv' := huv.symm
  simp only [zVdL, zVd, zCt, Vd.cells] at huv'
  have hwv' := hwv.symm
  have hbv' := hbv.symm
  clear hXv huv hwv cuv fuv ccv bzv lzv hbv ffv
  go_upto_region 4 with (refine wpList_storeA rfl 32 18 sizVd _ _ rfl bv 0 rfl Xv zVdL rfl LXv.out rfl CUv.out FUv.out OXv.out ?_; intro hcs; clear hcs; rw [hwv'])
  clear huv' hwv' hbv' CUv FUv OXv
  have UNo := hide Uv.out.1
  obtain ⟨Y11, hY⟩ : ∃ X, X = (mO f g 9 g).cells := ⟨_, rfl⟩
  have LY : Hid (Y11.length = 11) := by rw [hY]; exact rfl
  have OY : Hid (∀ u ∈ Y11, u.oneCell' = true) := by rw [hY]; exact ct_one _
  obtain ⟨wv10, hwo⟩ : ∃ w1, w1 = wv8.setCells bx 0 Y11 := ⟨_, rfl⟩
  have bo : But (Only bx) wv8 wv10 := by rw [hwo]; exact But.cells bx Y11 0 wv8
  have CO := hide Ux.out.1
  have FO := hide Ux.out.2.1
  have LO := LXx
  have U1 : Hid (Box wv10 bx Y11) := by rw [hwo]; exact Ux.out.all (by rw [LY.out, LXx.out])
  replace Ura := hide (Ura.out.but bo (fun e => by have e : bra = bx := e; have := D_ra_x.out; omega))
  replace Urb := hide (Urb.out.but bo (fun e => by have e : brb = bx := e; have := D_rb_x.out; omega))
  replace Uyy := hide (Uyy.out.but bo (fun e => by have e : byy = bx := e; have := D_x_yy.out; omega))
  replace Uv := hide (Uv.out.but bo (fun e => by have e : bv = bx := e; have := D_x_v.out; omega))
  replace BB : Hid (Below w.heap.size w wv10) := BB.out.trans (bo.below BB.out.size (fun g hg e => by have e : g = bx := e; have := ZBx.out; omega))
  have EY := hide hY
  have hwo' := hwo.symm
  clear hwo bo hY Ux LXx EXx
  have UN : Hid (CellsAt wv8 bv 0 Y11) := by have h := UNo.out; rw [EXv.out, Vd.parts] at h; rw [EY.out]; exact (CellsAt.append.1 h).1
  go_upto_region 5 with (first | refine wpList_loadA rfl 24 11 aggCt sizCt _ rfl bv 0 rfl Y11 LY.out UN.out ?_ | (refine wpList_storeA rfl 24 11 sizCt _ _ rfl bx 0 rfl Y11 Xx rfl LY.out LO.out CO.out FO.out OY.out ?_; intro hcs; clear hcs; rw [hwo']))
  clear UN UNo
  clear hwo' CO FO LO OY
  try clear Xx
  obtain ⟨Xx, hXX⟩ : ∃ X, X = Y11 := ⟨_, rfl⟩
  subst hXX
  have Ux := U1
  have LXx := LY
  have EXx := EY
  clear U1 LY EY
  have k1 : wv10.cell? ⟨byy, 9, none⟩ = some (.int .u32 ((f + 1) % 4294967296)) := by have h := Uyy.out.1 9 (.int .u32 ((f + 1) % 4294967296)) (by rw [EXyy.out]; rfl); rw [Nat.zero_add] at h; exact h
  obtain ⟨vo, so⟩ : ∃ v, wv10.cell? ⟨byy, 10, none⟩ = some v := by have h := Uyy.out.1 10 _ (List.getElem?_eq_getElem (by rw [LXyy.out]; decide)); rw [Nat.zero_add] at h; exact ⟨_, h⟩
  have fo := Uyy.out.2.1 10
  obtain ⟨wv13, hwo⟩ : ∃ w1, w1 = wv10.setCell ⟨byy, 10, none⟩ (.int .u32 ((f + 1 + 100) % 4294967296)) := ⟨_, rfl⟩
  have bo : But (Only byy) wv10 wv13 := by rw [hwo]; exact (But.refl (Only byy) wv10).setOf (b := byy) rfl 10 _
  obtain ⟨Y14, hY⟩ : ∃ X, X = (cY f g).cells := ⟨_, rfl⟩
  have LY : Hid (Y14.length = 11) := by rw [hY]; exact rfl
  have U1 : Hid (Box wv13 byy Y14) := by rw [hwo, hY]; have h := Uyy.out.one (k := 10) (by rw [LXyy.out]; decide) (.int .u32 ((f + 1 + 100) % 4294967296)); rw [EXyy.out] at h; have e : ((mY0 f g 9).cells).set 10 (.int .u32 ((f + 1 + 100) % 4294967296)) = (cY f g).cells := (by rw [show (f + 1 + 100) % 4294967296 = ((f + 1) % 4294967296 + 100) % 4294967296 by omega]; rfl); rw [e] at h; exact h
  replace Ura := hide (Ura.out.but bo (fun e => by have e : bra = byy := e; have := D_ra_yy.out; omega))
  replace Urb := hide (Urb.out.but bo (fun e => by have e : brb = byy := e; have := D_rb_yy.out; omega))
  replace Ux := hide (Ux.out.but bo (fun e => by have e : bx = byy := e; have := D_x_yy.out; omega))
  replace Uv := hide (Uv.out.but bo (fun e => by have e : bv = byy := e; have := D_yy_v.out; omega))
  replace BB : Hid (Below w.heap.size w wv13) := BB.out.trans (bo.below BB.out.size (fun g hg e => by have e : g = byy := e; have := ZByy.out; omega))
  have EY := hide hY
  have hwo' := hwo.symm
  clear hwo bo hY Uyy LXyy EXyy
  go_upto_region 6 with fail
  clear hwo' so fo
  try clear vo
  try clear Xyy
  obtain ⟨Xyy, hXX⟩ : ∃ X, X = Y14 := ⟨_, rfl⟩
  subst hXX
  have Uyy := U1
  have LXyy := LY
  have EXyy := EY
  clear U1 LY EY
  clear k1
  have k1 : wv13.cell? ⟨bx, 3, none⟩ = some (.int .u32 ((f + 1) % 4294967296)) := by have h := Ux.out.1 3 (.int .u32 ((f + 1) % 4294967296)) (by rw [EXx.out]; rfl); rw [Nat.zero_add] at h; exact h
  have k2 : wv13.cell? ⟨bx, 9, none⟩ = some (.int .u32 ((g + 1) % 4294967296)) := by have h := Ux.out.1 9 (.int .u32 ((g + 1) % 4294967296)) (by rw [EXx.out]; rfl); rw [Nat.zero_add] at h; exact h
  have JD := Judge_any (gv := .slice none 0 0) (da := none) (dc := 0) (s := mA ((f + 1) % 4294967296) ((g + 1) % 4294967296) 9) (cY f g) rfl (Nat.zero_le _) wv13
  rw [c1] at JD
  rw [← EXyy.out] at JD
  have HJD := hide JD
  clear JD
  go_wp2_with (refine wpList_loadA rfl 24 11 aggCt sizCt _ rfl byy 0 rfl Xyy LXyy.out Uyy.out.1 ?_)
  clear k1 k2
  refine HJD.out.mono ?_
  rintro _ wv15 ⟨rfl, bz⟩
  replace Ura := hide (Ura.out.later bz)
  replace Urb := hide (Urb.out.later bz)
  replace Ux := hide (Ux.out.later bz)
  replace Uyy := hide (Uyy.out.later bz)
  replace Uv := hide (Uv.out.later bz)
  replace BB := hide (later BB.out bz)
  clear bz
  clear HJD
  obtain ⟨Xu, hXu⟩ : ∃ X, X = (vOf (cO g f ((f + 1) % 4294967296)) 0 true).cells := ⟨_, rfl⟩
  have LXu : Hid (Xu.length = 18) := by rw [hXu]; exact rfl
  have OXu : Hid (∀ u ∈ Xu, u.oneCell' = true) := by rw [hXu]; exact vd_one _
  try rw [← hXu]
  obtain ⟨uv17, wv16, huu, hwu, cuu, fuu, ccu, bzu, lzu, ffu⟩ := newVd wv15 Xu LXu.out
  obtain ⟨bu, hbu⟩ : ∃ b, b = wv15.heap.size := ⟨_, rfl⟩
  rw [← hbu] at hwu cuu fuu ccu lzu ffu
  have EXu := hide hXu
  have D_ra_u : Hid (bra < bu) := by have h := Ura.out.2.2; unfold Hid; omega
  have D_rb_u : Hid (brb < bu) := by have h := Urb.out.2.2; unfold Hid; omega
  have D_x_u : Hid (bx < bu) := by have h := Ux.out.2.2; unfold Hid; omega
  have D_yy_u : Hid (byy < bu) := by have h := Uyy.out.2.2; unfold Hid; omega
  have D_v_u : Hid (bv < bu) := by have h := Uv.out.2.2; unfold Hid; omega
  have ZBu : Hid (w.heap.size ≤ bu) := by have h := BB.out.size; unfold Hid; omega
  replace Ura := hide (Ura.out.later bzu)
  replace Urb := hide (Urb.out.later bzu)
  replace Ux := hide (Ux.out.later bzu)
  replace Uyy := hide (Uyy.out.later bzu)
  replace Uv := hide (Uv.out.later bzu)
  replace BB := hide (later BB.out bzu)
  have Uu : Hid (Box wv16 bu Xu) := ⟨ccu, ffu, lzu⟩
  have CUu := hide cuu
  have FUu := hide fuu
  have huu' := huu.symm
  simp only [zVdL, zVd, zCt, Vd.cells] at huu'
  have hwu' := hwu.symm
  have hbu' := hbu.symm
  clear hXu huu hwu cuu fuu ccu bzu lzu hbu ffu
  go_upto_region 7 with (refine wpList_storeA rfl 32 18 sizVd _ _ rfl bu 0 rfl Xu zVdL rfl LXu.out rfl CUu.out FUu.out OXu.out ?_; intro hcs; clear hcs; rw [hwu'])
  clear huu' hwu' hbu' CUu FUu OXu
  have k1 : wv16.cell? ⟨bx, 9, none⟩ = some (.int .u32 ((g + 1) % 4294967296)) := by have h := Ux.out.1 9 (.int .u32 ((g + 1) % 4294967296)) (by rw [EXx.out]; rfl); rw [Nat.zero_add] at h; exact h
  obtain ⟨vo, so⟩ : ∃ v, wv16.cell? ⟨bx, 10, none⟩ = some v := by have h := Ux.out.1 10 _ (List.getElem?_eq_getElem (by rw [LXx.out]; decide)); rw [Nat.zero_add] at h; exact ⟨_, h⟩
  have fo := Ux.out.2.1 10
  obtain ⟨wv18, hwo⟩ : ∃ w1, w1 = wv16.setCell ⟨bx, 10, none⟩ (.int .u32 ((g + 1 + 100) % 4294967296)) := ⟨_, rfl⟩
  have bo : But (Only bx) wv16 wv18 := by rw [hwo]; exact (But.refl (Only bx) wv16).setOf (b := bx) rfl 10 _
  obtain ⟨Y19, hY⟩ : ∃ X, X = (cO f g g).cells := ⟨_, rfl⟩
  have LY : Hid (Y19.length = 11) := by rw [hY]; exact rfl
  have U1 : Hid (Box wv18 bx Y19) := by rw [hwo, hY]; have h := Ux.out.one (k := 10) (by rw [LXx.out]; decide) (.int .u32 ((g + 1 + 100) % 4294967296)); rw [EXx.out] at h; have e : ((mO f g 9 g).cells).set 10 (.int .u32 ((g + 1 + 100) % 4294967296)) = (cO f g g).cells := (by rw [show (g + 1 + 100) % 4294967296 = ((g + 1) % 4294967296 + 100) % 4294967296 by omega]; rfl); rw [e] at h; exact h
  replace Ura := hide (Ura.out.but bo (fun e => by have e : bra = bx := e; have := D_ra_x.out; omega))
  replace Urb := hide (Urb.out.but bo (fun e => by have e : brb = bx := e; have := D_rb_x.out; omega))
  replace Uyy := hide (Uyy.out.but bo (fun e => by have e : byy = bx := e; have := D_x_yy.out; omega))
  replace Uv := hide (Uv.out.but bo (fun e => by have e : bv = bx := e; have := D_x_v.out; omega))
  replace Uu := hide (Uu.out.but bo (fun e => by have e : bu = bx := e; have := D_x_u.out; omega))
  replace BB : Hid (Below w.heap.size w wv18) := BB.out.trans (bo.below BB.out.size (fun g hg e => by have e : g = bx := e; have := ZBx.out; omega))
  have EY := hide hY
  have hwo' := hwo.symm
  clear hwo bo hY Ux LXx EXx
  go_upto_region 8 with fail
  clear hwo' so fo
  try clear vo
  try clear Xx
  obtain ⟨Xx, hXX⟩ : ∃ X, X = Y19 := ⟨_, rfl⟩
  subst hXX
  have Ux := U1
  have LXx := LY
  have EXx := EY
  clear U1 LY EY
  clear k1
  have PX : ∀ W, Below wv18.heap.size wv18 W → CellsAt W bx 0 (cO f g g).cells := fun W hW => by have h := (Ux.out.later hW).1; rw [EXx.out] at h; exact h
  have PU : ∀ W, Below wv18.heap.size wv18 W → CellsAt W bu 0 (cO g f ((f + 1) % 4294967296)).cells := fun W hW => by have h := (Uu.out.later hW).1; rw [EXu.out, Vd.parts] at h; exact (CellsAt.append.1 h).1
  have ux := Ux.out
  have uu := Uu.out
  have ura := (Ura.out.later (later_drew _))
  have urb := (Urb.out.later (later_drew _))
  have lra : Xra.length = 11 := LXra.out
  have lrb : Xrb.length = 11 := LXrb.out
  have nab := D_ra_rb.out
  have nax := D_ra_x.out
  have nbx := D_rb_x.out
  have nau := D_ra_u.out
  have nbu := D_rb_u.out
  have SX : CellsAt wv18.drew bx 0 (cO f g g).cells ∧ CellsAt wv18.drew bu 0 (cO g f ((f + 1) % 4294967296)).cells := ⟨PX _ (later_drew _), PU _ (later_drew _)⟩
  obtain ⟨wa, hwa⟩ : ∃ wa, wa = wv18.drew.setCells bra 0 (cO f g g).cells := ⟨_, rfl⟩
  have boa : But (Only bra) wv18.drew wa := by rw [hwa]; exact But.cells bra _ 0 _
  have SA : CellsAt wa bx 0 (cO f g g).cells ∧ CellsAt wa bu 0 (cO g f ((f + 1) % 4294967296)).cells := ⟨SX.1.but ux.2.2 boa (fun e => by have e : bx = bra := e; omega), SX.2.but uu.2.2 boa (fun e => by have e : bu = bra := e; omega)⟩
  have rba : Box wa brb Xrb := urb.but boa (fun e => by have e : brb = bra := e; omega)
  have raa : Box wa bra (cO f g g).cells := by rw [hwa]; exact ura.all (by rw [lra]; rfl)
  obtain ⟨wb, hwb⟩ : ∃ wb, wb = wa.setCells brb 0 (cO g f ((f + 1) % 4294967296)).cells := ⟨_, rfl⟩
  have bob : But (Only brb) wa wb := by rw [hwb]; exact But.cells brb _ 0 _
  have SB : CellsAt wb bx 0 (cO f g g).cells ∧ CellsAt wb bu 0 (cO g f ((f + 1) % 4294967296)).cells := ⟨SA.1.but (Nat.lt_of_lt_of_le ux.2.2 boa.size) bob (fun e => by have e : bx = brb := e; omega), SA.2.but (Nat.lt_of_lt_of_le uu.2.2 boa.size) bob (fun e => by have e : bu = brb := e; omega)⟩
  have rab : Hid (Box wb bra (cO f g g).cells) := raa.but bob (fun e => by have e : bra = brb := e; omega)
  have rbb : Hid (Box wb brb (cO g f ((f + 1) % 4294967296)).cells) := by rw [hwb]; exact rba.all (by rw [lrb]; rfl)
  have BE : Hid (Below w.heap.size w wb) := by
    have h1 := later BB.out (later_drew _)
    have h2 := h1.trans (boa.below h1.size (fun g hg e => by have e : g = bra := e; have := ZBra.out; omega))
    exact h2.trans (bob.below h2.size (fun g hg e => by have e : g = brb := e; have := ZBrb.out; omega))
  refine regionJ (fun _ => true) (fun W => CellsAt W bx 0 (cO f g g).cells ∧ CellsAt W bu 0 (cO g f ((f + 1) % 4294967296)).cells) (by kernel_rfl) ?_
  refine takeJ (i := 0) (v := .agg ((cO f g g).cells).toArray) 46 rfl rfl (by kernel_rfl) (by kernel_rfl) (by kernel_rfl) (by kernel_rfl) (fun _ _ _ h => h) (.inl ⟨by rfl, fun W hW => exec_loadA 24 11 aggCt sizCt _ rfl bx 0 rfl ((cO f g g).cells) rfl (hW.1)⟩) (SX) ?_
  try simp only [Act.put, List.setIfInBounds_toArray, List.set_cons_zero, List.set_cons_succ]
  refine takeJ (i := 1) (v := .pointer (some ⟨bu, 0, none⟩)) 47 rfl rfl (by kernel_rfl) (by kernel_rfl) (by kernel_rfl) (by kernel_rfl) (fun _ _ _ h => h) (.inl ⟨by rfl, fun W hW => exec_fieldO 32 _ 0 bu 0 0 rfl rfl (fun w => by kernel_rfl)⟩) (SX) ?_
  try simp only [Act.put, List.setIfInBounds_toArray, List.set_cons_zero, List.set_cons_succ]
  refine takeJ (i := 2) (v := .agg ((cO g f ((f + 1) % 4294967296)).cells).toArray) 48 rfl rfl (by kernel_rfl) (by kernel_rfl) (by kernel_rfl) (by kernel_rfl) (fun _ _ _ h => h) (.inl ⟨by rfl, fun W hW => exec_loadA 24 11 aggCt sizCt _ rfl bu 0 rfl ((cO g f ((f + 1) % 4294967296)).cells) rfl (hW.2)⟩) (SX) ?_
  try simp only [Act.put, List.setIfInBounds_toArray, List.set_cons_zero, List.set_cons_succ]
  refine takeJ (i := 3) (v := .int .i64 0) 49 rfl rfl (by kernel_rfl) (by kernel_rfl) (by kernel_rfl) (by kernel_rfl) (fun _ _ _ h => h) (.inl ⟨by rfl, fun W hW => exec_move _ _ rfl rfl⟩) (SX) ?_
  try simp only [Act.put, List.setIfInBounds_toArray, List.set_cons_zero, List.set_cons_succ]
  refine takeJ (i := 4) (v := .bool true) 50 rfl rfl (by kernel_rfl) (by kernel_rfl) (by kernel_rfl) (by kernel_rfl) (fun _ _ _ h => h) (.inl ⟨by rfl, fun W hW => exec_eqEr _ _ _ _ _ _ rfl rfl rfl (decide_eq_true rfl)⟩) (SX) ?_
  try simp only [Act.put, List.setIfInBounds_toArray, List.set_cons_zero, List.set_cons_succ]
  refine takeJ (i := 5) (v := .bool true) 51 rfl rfl (by kernel_rfl) (by kernel_rfl) (by kernel_rfl) (by kernel_rfl) (fun _ _ _ h => h) (.inl ⟨by rfl, fun W hW => exec_move _ _ rfl rfl⟩) (SX) ?_
  try simp only [Act.put, List.setIfInBounds_toArray, List.set_cons_zero, List.set_cons_succ]
  refine takeJ (i := 6) (v := .pointer (some ⟨bx, 0, none⟩)) 52 rfl rfl (by kernel_rfl) (by kernel_rfl) (by kernel_rfl) (by kernel_rfl) (fun _ _ _ h => h) (.inl ⟨by rfl, fun W hW => exec_fieldO 24 _ 0 bx 0 0 rfl rfl (fun w => by kernel_rfl)⟩) (SX) ?_
  try simp only [Act.put, List.setIfInBounds_toArray, List.set_cons_zero, List.set_cons_succ]
  refine takeJ (i := 7) (v := .int .i64 3) 53 rfl rfl (by kernel_rfl) (by kernel_rfl) (by kernel_rfl) (by kernel_rfl) (fun _ _ _ h => h) (.inl ⟨by rfl, fun W hW => exec_load1 3 one1 _ rfl bx 0 rfl (.int .i64 3) (hW.1 0 _ rfl)⟩) (SX) ?_
  try simp only [Act.put, List.setIfInBounds_toArray, List.set_cons_zero, List.set_cons_succ]
  refine takeJ (i := 8) (v := .bool true) 54 rfl rfl (by kernel_rfl) (by kernel_rfl) (by kernel_rfl) (by kernel_rfl) (fun _ _ _ h => h) (.inl ⟨by rfl, fun W hW => exec_eqi _ _ _ _ _ _ rfl rfl rfl (by rfl)⟩) (SX) ?_
  try simp only [Act.put, List.setIfInBounds_toArray, List.set_cons_zero, List.set_cons_succ]
  refine takeJ (i := 9) (v := .bool true) 55 rfl rfl (by kernel_rfl) (by kernel_rfl) (by kernel_rfl) (by kernel_rfl) (fun _ _ _ h => h) (.inl ⟨by rfl, fun W hW => exec_pick _ _ _ true _ rfl rfl rfl⟩) (SX) ?_
  try simp only [Act.put, List.setIfInBounds_toArray, List.set_cons_zero, List.set_cons_succ]
  refine takeJ (i := 10) (v := .bool true) 56 rfl rfl (by kernel_rfl) (by kernel_rfl) (by kernel_rfl) (by kernel_rfl) (fun _ _ _ h => h) (.inl ⟨by rfl, fun W hW => exec_move _ _ rfl rfl⟩) (SX) ?_
  try simp only [Act.put, List.setIfInBounds_toArray, List.set_cons_zero, List.set_cons_succ]
  refine takeJ (i := 11) (v := .pointer (some ⟨bu, 0, none⟩)) 57 rfl rfl (by kernel_rfl) (by kernel_rfl) (by kernel_rfl) (by kernel_rfl) (fun _ _ _ h => h) (.inl ⟨by rfl, fun W hW => exec_fieldO 32 _ 0 bu 0 0 rfl rfl (fun w => by kernel_rfl)⟩) (SX) ?_
  try simp only [Act.put, List.setIfInBounds_toArray, List.set_cons_zero, List.set_cons_succ]
  refine takeJ (i := 12) (v := .pointer (some ⟨bu, 0, none⟩)) 58 rfl rfl (by kernel_rfl) (by kernel_rfl) (by kernel_rfl) (by kernel_rfl) (fun _ _ _ h => h) (.inl ⟨by rfl, fun W hW => exec_fieldO 24 _ 0 bu 0 0 rfl rfl (fun w => by kernel_rfl)⟩) (SX) ?_
  try simp only [Act.put, List.setIfInBounds_toArray, List.set_cons_zero, List.set_cons_succ]
  refine takeJ (i := 13) (v := .int .i64 3) 59 rfl rfl (by kernel_rfl) (by kernel_rfl) (by kernel_rfl) (by kernel_rfl) (fun _ _ _ h => h) (.inl ⟨by rfl, fun W hW => exec_load1 3 one1 _ rfl bu 0 rfl (.int .i64 3) (hW.2 0 _ rfl)⟩) (SX) ?_
  try simp only [Act.put, List.setIfInBounds_toArray, List.set_cons_zero, List.set_cons_succ]
  refine takeJ (i := 14) (v := .bool true) 60 rfl rfl (by kernel_rfl) (by kernel_rfl) (by kernel_rfl) (by kernel_rfl) (fun _ _ _ h => h) (.inl ⟨by rfl, fun W hW => exec_eqi _ _ _ _ _ _ rfl rfl rfl (by rfl)⟩) (SX) ?_
  try simp only [Act.put, List.setIfInBounds_toArray, List.set_cons_zero, List.set_cons_succ]
  refine takeJ (i := 15) (v := .bool true) 61 rfl rfl (by kernel_rfl) (by kernel_rfl) (by kernel_rfl) (by kernel_rfl) (fun _ _ _ h => h) (.inl ⟨by rfl, fun W hW => exec_pick _ _ _ true _ rfl rfl rfl⟩) (SX) ?_
  try simp only [Act.put, List.setIfInBounds_toArray, List.set_cons_zero, List.set_cons_succ]
  refine storeJ (w' := wa) 16 (by kernel_rfl) rfl rfl (by rfl) (by rw [hwa]; exact exec_storeA 24 11 sizCt _ _ rfl bra 0 rfl (cO f g g).cells Xra rfl rfl lra ura.1 ura.2.1 (ct_one _)) ((fun _ => SA)) ?_
  try simp only [Act.put, List.setIfInBounds_toArray, List.set_cons_zero, List.set_cons_succ]
  refine storeJ (w' := wb) 17 (by kernel_rfl) rfl rfl (by rfl) (by rw [hwb]; exact exec_storeA 24 11 sizCt _ _ rfl brb 0 rfl (cO g f ((f + 1) % 4294967296)).cells Xrb rfl rfl lrb rba.1 rba.2.1 (ct_one _)) ((fun _ => SB)) ?_
  try simp only [Act.put, List.setIfInBounds_toArray, List.set_cons_zero, List.set_cons_succ]
  refine takeJ (i := 18) (v := .bool true) 6 rfl rfl (by kernel_rfl) (by kernel_rfl) (by kernel_rfl) (by kernel_rfl) (fun _ _ _ h => h) (.inl ⟨by rfl, fun W hW => exec_assign _ _ rfl rfl⟩) (SB) ?_
  try simp only [Act.put, List.setIfInBounds_toArray, List.set_cons_zero, List.set_cons_succ]
  refine doneJ (by kernel_rfl) ?_ _
  clear PX PU ux uu ura urb lra lrb nab nax nbx nau nbu SX hwa boa SA rba raa hwb bob SB
  go_wp2
  refine bodyPost_ret (v := .tuple #[.agg (cO f g g).cells.toArray, .agg (cO g f ((f + 1) % 4294967296)).cells.toArray, .bool true]) (results_CC rfl _ _ bra brb _ _ _ rfl rfl rfl (run_loadVarA 24 11 aggCt sizCt bra 0 _ rfl rab.out.1) (run_loadVarA 24 11 aggCt sizCt brb 0 _ rfl rbb.out.1)) rfl ?_
  exact ⟨rfl, BE.out⟩
end Go.Proofs.Ytgdcdgofahhfdaa
