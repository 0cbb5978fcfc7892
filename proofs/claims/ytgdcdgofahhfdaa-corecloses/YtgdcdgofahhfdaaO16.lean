
/-
  CoreMeets: the walk.
-/
import Derived.Test.YtgdcdgofahhfdaaO15
namespace Go.Proofs.Ytgdcdgofahhfdaa
open Go.RowKit Go.Shelf

def mS1 (f wnd : Int) : Sg := ⟨0, 0, f, 0, 2, wnd, 0, false, [], []⟩
def mSA (q k wnd : Int) : Sg := ⟨0, 0, q, k, 18, wnd, 0, false, [], []⟩
def mA (q k wnd : Int) : Sg := ⟨0, 0, q, k, 16, wnd, 0, false, [], []⟩
def mY0 (f g wnd : Int) : Ct := ⟨2, g, g, (g + 1) % 4294967296, false, wnd, f, g, f, (f + 1) % 4294967296, (f + 1) % 4294967296⟩
def mO (f g wnd l : Int) : Ct := ⟨3, f, (f + 1) % 4294967296, (f + 1) % 4294967296, false, wnd, l, (f + 1) % 4294967296, g, (g + 1) % 4294967296, (g + 1) % 4294967296⟩
def vOf (c : Ct) (r : Int) (k : Bool) : Vd := ⟨c, r, 0, k, false, 0, 0, false⟩
theorem m1 (f b wnd : Int) : pasC (mS1 f wnd) b = mY0 f (fst32 b) wnd ∧ pasE (mS1 f wnd) = 0 := ⟨rfl, rfl⟩
theorem m2 (f g wnd : Int) : judge (begC 1 f) (mSA g ((f + 1) % 4294967296) wnd) = vOf (mO f g wnd g) 1 true := by
  rw [judge_sa rfl rfl rfl]
  rfl
theorem dif_self (n : Int) : dif n n = 0 := by
  unfold dif
  rw [Int.sub_self]
  rfl
theorem m3 (f g wnd : Int) : judge (mY0 f g wnd) (mA ((f + 1) % 4294967296) ((g + 1) % 4294967296) wnd) = vOf (mO g f wnd ((f + 1) % 4294967296)) 0 true := by
  rw [judge_op rfl ?_ rfl rfl rfl rfl]
  · rfl
  · have h1 : win (mY0 f g wnd) = 0 := dif_self _
    have h2 : (mA ((f + 1) % 4294967296) ((g + 1) % 4294967296) wnd).size = 0 := rfl
    unfold accB
    rw [h2, h1, if_neg (by decide), if_neg (by decide)]
    exact decide_eq_true rfl
theorem m4 (f g wnd : Int) : judge (begC 1 g) (mS1 f wnd) = vOf (mY0 f g wnd) 3 false := by
  rw [judge_s rfl rfl]
  rfl
theorem wit_no (n f : Int) : wit n f 0 = false := by
  unfold wit
  exact decide_eq_false (by omega)
theorem m5 (f g wnd : Int) : judge (mY0 f g wnd) (mSA f ((g + 1) % 4294967296) wnd) = vOf (mY0 f g wnd) 1 false := by
  rw [judge_no (by show (2 : Int) ≠ 1; decide) ?_ rfl]
  · rfl
  · have h1 : win (mY0 f g wnd) = 0 := dif_self _
    have h2 : (mSA f ((g + 1) % 4294967296) wnd).size = 1 := rfl
    unfold accB wanted
    rw [h2, h1, if_pos (by decide), wit_no, wit_no]
    rfl
set_option maxRecDepth 100000 in
set_option maxHeartbeats 16000000 in
theorem meets_walk (a b : Int) (both : Bool) (wnd : Int) (s : Sg) (gv dv : Value) (w : World) (_ : -9223372036854775808 ≤ a) (_ : a ≤ 9223372036854775807) (_ : -9223372036854775808 ≤ b) (_ : b ≤ 9223372036854775807) (_ : -9223372036854775808 ≤ wnd) (_ : wnd ≤ 9223372036854775807) (hs : SgIn w s gv dv) :
    Calls Try.prog 6 #[.int .i64 a, .int .i64 b, .bool both, .int .i64 wnd, .agg (s.cells gv dv).toArray] w fun e w' => e = .returned (.bool true) ∧ Below w.heap.size w w' := by
  obtain ⟨ga, gc, rfl⟩ := hs.got.shape
  obtain ⟨da, dc, rfl, _⟩ := hs.dat.shape
  obtain ⟨w1, bss, hs1, hw1, cc1, ff1, b1, l1⟩ := boxS w s (.slice ga s.got.length gc) (.slice da s.dat.length dc)
  rw [show (Value.agg (s.cells (.slice ga s.got.length gc) (.slice da s.dat.length dc)).toArray) = .agg #[.int .i64 s.src, .int .i64 s.dst, .int .u32 s.seq, .int .u32 s.ack, .int .i64 s.flg, .int .i64 s.wnd, .int .i64 s.mss, .bool s.sak, .slice ga s.got.length gc, .slice da s.dat.length dc] from rfl]
  obtain ⟨f, hf⟩ : ∃ f, f = fst32 a := ⟨_, rfl⟩
  obtain ⟨g, hg⟩ : ∃ g, g = fst32 b := ⟨_, rfl⟩
  have HF := hide hf
  have HG := hide hg
  have HL : Hid (s.dat.length ≤ 1125899906842624) := by have := hs.datl; unfold Hid; omega
  have BB := hide b1
  have ZBss : Hid (w.heap.size ≤ bss) := by unfold Hid; omega
  obtain ⟨Xss, hXss⟩ : ∃ X, X = s.cells (.slice ga s.got.length gc) (.slice da s.dat.length dc) := ⟨_, rfl⟩
  have LXss : Hid (Xss.length = 10) := by rw [hXss]; exact rfl
  have Uss : Hid (Box w1 bss Xss) := by rw [hXss]; exact ⟨cc1, ff1, l1⟩
  have EXss := hide hXss
  clear hXss
  have hs1' := hs1.symm
  have hw1' := hw1.symm
  clear hs1 hw1 cc1 ff1 b1 l1 hs hf hg
  go_enter Try.func6, Try.ntmps6
  go_upto_region 1 with fail
  clear hs1' hw1'
  go_wp2_with fail
  refine (cAwake_any w1).mono ?_
  rintro _ wv1 ⟨rfl, bz⟩
  replace Uss := hide (Uss.out.later bz)
  replace BB := hide (later BB.out bz)
  clear bz
  have CN := Active_any a wv1
  rw [← HF.out] at CN
  have HCN := hide CN
  clear CN
  go_wp2_with fail
  refine HCN.out.mono ?_
  rintro _ wv2 ⟨rfl, bz⟩
  replace Uss := hide (Uss.out.later bz)
  replace BB := hide (later BB.out bz)
  clear bz
  clear HCN
  obtain ⟨Xx, hXx⟩ : ∃ X, X = (begC 1 f).cells := ⟨_, rfl⟩
  have LXx : Hid (Xx.length = 11) := by rw [hXx]; exact rfl
  have OXx : Hid (∀ u ∈ Xx, u.oneCell' = true) := by rw [hXx]; exact ct_one _
  try rw [← hXx]
  obtain ⟨uv4, wv3, hux, hwx, cux, fux, ccx, bzx, lzx, ffx⟩ := newCt wv2 Xx LXx.out
  obtain ⟨bx, hbx⟩ : ∃ b, b = wv2.heap.size := ⟨_, rfl⟩
  rw [← hbx] at hwx cux fux ccx lzx ffx
  have EXx := hide hXx
  have D_ss_x : Hid (bss < bx) := by have h := Uss.out.2.2; unfold Hid; omega
  have ZBx : Hid (w.heap.size ≤ bx) := by have h := BB.out.size; unfold Hid; omega
  replace Uss := hide (Uss.out.later bzx)
  replace BB := hide (later BB.out bzx)
  have Ux : Hid (Box wv3 bx Xx) := ⟨ccx, ffx, lzx⟩
  have CUx := hide cux
  have FUx := hide fux
  have hux' := hux.symm
  simp only [zCtL, zCt, Ct.cells] at hux'
  have hwx' := hwx.symm
  have hbx' := hbx.symm
  clear hXx hux hwx cux fux ccx bzx lzx hbx ffx
  go_upto_region 3 with (refine wpList_storeA rfl 24 11 sizCt _ _ rfl bx 0 rfl Xx zCtL rfl LXx.out rfl CUx.out FUx.out OXx.out ?_; intro hcs; clear hcs; rw [hwx'])
  clear hux' hwx' hbx' CUx FUx OXx
  have k1 : wv3.cell? ⟨bx, 1, none⟩ = some (.int .u32 f) := by have h := Ux.out.1 1 (.int .u32 f) (by rw [EXx.out]; rfl); rw [Nat.zero_add] at h; exact h
  obtain ⟨Xsy, hXsy⟩ : ∃ X, X = (mS1 f wnd).cells (.slice none 0 0) (.slice none 0 0) := ⟨_, rfl⟩
  have LXsy : Hid (Xsy.length = 10) := by rw [hXsy]; exact rfl
  have OXsy : Hid (∀ u ∈ Xsy, u.oneCell' = true) := by rw [hXsy]; exact sg_one1 _ _ _ rfl rfl
  try rw [← hXsy]
  obtain ⟨uv6, wv5, husy, hwsy, cusy, fusy, ccsy, bzsy, lzsy, ffsy⟩ := newSg wv3 Xsy LXsy.out
  obtain ⟨bsy, hbsy⟩ : ∃ b, b = wv3.heap.size := ⟨_, rfl⟩
  rw [← hbsy] at hwsy cusy fusy ccsy lzsy ffsy
  have EXsy := hide hXsy
  have D_ss_sy : Hid (bss < bsy) := by have h := Uss.out.2.2; unfold Hid; omega
  have D_x_sy : Hid (bx < bsy) := by have h := Ux.out.2.2; unfold Hid; omega
  have ZBsy : Hid (w.heap.size ≤ bsy) := by have h := BB.out.size; unfold Hid; omega
  replace Uss := hide (Uss.out.later bzsy)
  replace Ux := hide (Ux.out.later bzsy)
  replace BB := hide (later BB.out bzsy)
  have Usy : Hid (Box wv5 bsy Xsy) := ⟨ccsy, ffsy, lzsy⟩
  have CUsy := hide cusy
  have FUsy := hide fusy
  have husy' := husy.symm
  simp only [zSg0, Sg.cells] at husy'
  have hwsy' := hwsy.symm
  have hbsy' := hbsy.symm
  clear hXsy husy hwsy cusy fusy ccsy bzsy lzsy hbsy ffsy
  have EV : Hid (Value.agg #[.int .i64 0, .int .i64 0, .int .u32 f, .int .u32 0, .int .i64 2, .int .i64 wnd, .int .i64 0, .bool false, .slice none 0 0, .slice none 0 0] = .agg Xsy.toArray) := by rw [EXsy.out]; exact rfl
  go_upto_region 4 with (refine wpList_storeA rfl 28 10 sizSg _ _ rfl bsy 0 rfl Xsy (zSg0.cells (.slice none 0 0) (.slice none 0 0)) EV.out LXsy.out rfl CUsy.out FUsy.out OXsy.out ?_; intro hcs; clear hcs; rw [hwsy'])
  clear husy' hwsy' hbsy' CUsy FUsy OXsy
  clear k1 EV
  have CN := Passive_any (mS1 f wnd) (.slice none 0 0) (.slice none 0 0) b wv5
  rw [(m1 f b wnd).1, (m1 f b wnd).2, ← HG.out, ← EXsy.out] at CN
  have HCN := hide CN
  clear CN
  go_wp2_with (refine wpList_loadA rfl 28 10 aggSg sizSg _ rfl bsy 0 rfl Xsy LXsy.out Usy.out.1 ?_)
  refine HCN.out.mono ?_
  rintro _ wv7 ⟨rfl, bz⟩
  replace Uss := hide (Uss.out.later bz)
  replace Ux := hide (Ux.out.later bz)
  replace Usy := hide (Usy.out.later bz)
  replace BB := hide (later BB.out bz)
  clear bz
  clear HCN
  obtain ⟨Xyy, hXyy⟩ : ∃ X, X = (mY0 f g wnd).cells := ⟨_, rfl⟩
  have LXyy : Hid (Xyy.length = 11) := by rw [hXyy]; exact rfl
  have OXyy : Hid (∀ u ∈ Xyy, u.oneCell' = true) := by rw [hXyy]; exact ct_one _
  try rw [← hXyy]
  obtain ⟨uv9, wv8, huyy, hwyy, cuyy, fuyy, ccyy, bzyy, lzyy, ffyy⟩ := newCt wv7 Xyy LXyy.out
  obtain ⟨byy, hbyy⟩ : ∃ b, b = wv7.heap.size := ⟨_, rfl⟩
  rw [← hbyy] at hwyy cuyy fuyy ccyy lzyy ffyy
  have EXyy := hide hXyy
  have D_ss_yy : Hid (bss < byy) := by have h := Uss.out.2.2; unfold Hid; omega
  have D_x_yy : Hid (bx < byy) := by have h := Ux.out.2.2; unfold Hid; omega
  have D_sy_yy : Hid (bsy < byy) := by have h := Usy.out.2.2; unfold Hid; omega
  have ZByy : Hid (w.heap.size ≤ byy) := by have h := BB.out.size; unfold Hid; omega
  replace Uss := hide (Uss.out.later bzyy)
  replace Ux := hide (Ux.out.later bzyy)
  replace Usy := hide (Usy.out.later bzyy)
  replace BB := hide (later BB.out bzyy)
  have Uyy : Hid (Box wv8 byy Xyy) := ⟨ccyy, ffyy, lzyy⟩
  have CUyy := hide cuyy
  have FUyy := hide fuyy
  have huyy' := huyy.symm
  simp only [zCtL, zCt, Ct.cells] at huyy'
  have hwyy' := hwyy.symm
  have hbyy' := hbyy.symm
  clear hXyy huyy hwyy cuyy fuyy ccyy bzyy lzyy hbyy ffyy
  go_upto_region 5 with (refine wpList_storeA rfl 24 11 sizCt _ _ rfl byy 0 rfl Xyy zCtL rfl LXyy.out rfl CUyy.out FUyy.out OXyy.out ?_; intro hcs; clear hcs; rw [hwyy'])
  clear huyy' hwyy' hbyy' CUyy FUyy OXyy
  cases both with
  | false =>
    have k1 : wv8.cell? ⟨byy, 1, none⟩ = some (.int .u32 g) := by have h := Uyy.out.1 1 (.int .u32 g) (by rw [EXyy.out]; rfl); rw [Nat.zero_add] at h; exact h
    have k2 : wv8.cell? ⟨byy, 9, none⟩ = some (.int .u32 ((f + 1) % 4294967296)) := by have h := Uyy.out.1 9 (.int .u32 ((f + 1) % 4294967296)) (by rw [EXyy.out]; rfl); rw [Nat.zero_add] at h; exact h
    have JD := Judge_any (gv := .slice none 0 0) (da := none) (dc := 0) (s := mSA g ((f + 1) % 4294967296) wnd) (begC 1 f) rfl (Nat.zero_le _) wv8
    rw [m2] at JD
    rw [← EXx.out] at JD
    have HJD := hide JD
    clear JD
    go_wp2_with (refine wpList_loadA rfl 24 11 aggCt sizCt _ rfl bx 0 rfl Xx LXx.out Ux.out.1 ?_)
    clear k1 k2
    refine HJD.out.mono ?_
    rintro _ wv10 ⟨rfl, bz⟩
    replace Uss := hide (Uss.out.later bz)
    replace Ux := hide (Ux.out.later bz)
    replace Usy := hide (Usy.out.later bz)
    replace Uyy := hide (Uyy.out.later bz)
    replace BB := hide (later BB.out bz)
    clear bz
    clear HJD
    obtain ⟨Xv, hXv⟩ : ∃ X, X = (vOf (mO f g wnd g) 1 true).cells := ⟨_, rfl⟩
    have LXv : Hid (Xv.length = 18) := by rw [hXv]; exact rfl
    have OXv : Hid (∀ u ∈ Xv, u.oneCell' = true) := by rw [hXv]; exact vd_one _
    try rw [← hXv]
    obtain ⟨uv12, wv11, huv, hwv, cuv, fuv, ccv, bzv, lzv, ffv⟩ := newVd wv10 Xv LXv.out
    obtain ⟨bv, hbv⟩ : ∃ b, b = wv10.heap.size := ⟨_, rfl⟩
    rw [← hbv] at hwv cuv fuv ccv lzv ffv
    have EXv := hide hXv
    have D_ss_v : Hid (bss < bv) := by have h := Uss.out.2.2; unfold Hid; omega
    have D_x_v : Hid (bx < bv) := by have h := Ux.out.2.2; unfold Hid; omega
    have D_sy_v : Hid (bsy < bv) := by have h := Usy.out.2.2; unfold Hid; omega
    have D_yy_v : Hid (byy < bv) := by have h := Uyy.out.2.2; unfold Hid; omega
    have ZBv : Hid (w.heap.size ≤ bv) := by have h := BB.out.size; unfold Hid; omega
    replace Uss := hide (Uss.out.later bzv)
    replace Ux := hide (Ux.out.later bzv)
    replace Usy := hide (Usy.out.later bzv)
    replace Uyy := hide (Uyy.out.later bzv)
    replace BB := hide (later BB.out bzv)
    have Uv : Hid (Box wv11 bv Xv) := ⟨ccv, ffv, lzv⟩
    have CUv := hide cuv
    have FUv := hide fuv
    have huv' := huv.symm
    simp only [zVdL, zVd, zCt, Vd.cells] at huv'
    have hwv' := hwv.symm
    have hbv' := hbv.symm
    clear hXv huv hwv cuv fuv ccv bzv lzv hbv ffv
    go_upto_region 22 with (refine wpList_storeA rfl 32 18 sizVd _ _ rfl bv 0 rfl Xv zVdL rfl LXv.out rfl CUv.out FUv.out OXv.out ?_; intro hcs; clear hcs; rw [hwv'])
    clear huv' hwv' hbv' CUv FUv OXv
    have k1 : wv11.cell? ⟨bv, 11, none⟩ = some (.int .i64 1) := by have h := Uv.out.1 11 (.int .i64 1) (by rw [EXv.out]; rfl); rw [Nat.zero_add] at h; exact h
    go_upto_region 24 with fail
    clear k1
    have UNo := hide Uv.out.1
    obtain ⟨Y14, hY⟩ : ∃ X, X = (mO f g wnd g).cells := ⟨_, rfl⟩
    have LY : Hid (Y14.length = 11) := by rw [hY]; exact rfl
    have OY : Hid (∀ u ∈ Y14, u.oneCell' = true) := by rw [hY]; exact ct_one _
    obtain ⟨wv13, hwo⟩ : ∃ w1, w1 = wv11.setCells bx 0 Y14 := ⟨_, rfl⟩
    have bo : But (Only bx) wv11 wv13 := by rw [hwo]; exact But.cells bx Y14 0 wv11
    have CO := hide Ux.out.1
    have FO := hide Ux.out.2.1
    have LO := LXx
    have U1 : Hid (Box wv13 bx Y14) := by rw [hwo]; exact Ux.out.all (by rw [LY.out, LXx.out])
    replace Uss := hide (Uss.out.but bo (fun e => by have e : bss = bx := e; have := D_ss_x.out; omega))
    replace Usy := hide (Usy.out.but bo (fun e => by have e : bsy = bx := e; have := D_x_sy.out; omega))
    replace Uyy := hide (Uyy.out.but bo (fun e => by have e : byy = bx := e; have := D_x_yy.out; omega))
    replace Uv := hide (Uv.out.but bo (fun e => by have e : bv = bx := e; have := D_x_v.out; omega))
    replace BB : Hid (Below w.heap.size w wv13) := BB.out.trans (bo.below BB.out.size (fun g hg e => by have e : g = bx := e; have := ZBx.out; omega))
    have EY := hide hY
    have hwo' := hwo.symm
    clear hwo bo hY Ux LXx EXx
    have UN : Hid (CellsAt wv11 bv 0 Y14) := by have h := UNo.out; rw [EXv.out, Vd.parts] at h; rw [EY.out]; exact (CellsAt.append.1 h).1
    go_upto_region 25 with (first | refine wpList_loadA rfl 24 11 aggCt sizCt _ rfl bv 0 rfl Y14 LY.out UN.out ?_ | (refine wpList_storeA rfl 24 11 sizCt _ _ rfl bx 0 rfl Y14 Xx rfl LY.out LO.out CO.out FO.out OY.out ?_; intro hcs; clear hcs; rw [hwo']))
    clear UN UNo
    clear hwo' CO FO LO OY
    try clear Xx
    obtain ⟨Xx, hXX⟩ : ∃ X, X = Y14 := ⟨_, rfl⟩
    subst hXX
    have Ux := U1
    have LXx := LY
    have EXx := EY
    clear U1 LY EY
    have k1 : wv13.cell? ⟨bx, 3, none⟩ = some (.int .u32 ((f + 1) % 4294967296)) := by have h := Ux.out.1 3 (.int .u32 ((f + 1) % 4294967296)) (by rw [EXx.out]; rfl); rw [Nat.zero_add] at h; exact h
    have k2 : wv13.cell? ⟨bx, 9, none⟩ = some (.int .u32 ((g + 1) % 4294967296)) := by have h := Ux.out.1 9 (.int .u32 ((g + 1) % 4294967296)) (by rw [EXx.out]; rfl); rw [Nat.zero_add] at h; exact h
    have JD := Judge_any (gv := .slice none 0 0) (da := none) (dc := 0) (s := mA ((f + 1) % 4294967296) ((g + 1) % 4294967296) wnd) (mY0 f g wnd) rfl (Nat.zero_le _) wv13
    rw [m3] at JD
    rw [← EXyy.out] at JD
    have HJD := hide JD
    clear JD
    go_wp2_with (refine wpList_loadA rfl 24 11 aggCt sizCt _ rfl byy 0 rfl Xyy LXyy.out Uyy.out.1 ?_)
    clear k1 k2
    refine HJD.out.mono ?_
    rintro _ wv16 ⟨rfl, bz⟩
    replace Uss := hide (Uss.out.later bz)
    replace Ux := hide (Ux.out.later bz)
    replace Usy := hide (Usy.out.later bz)
    replace Uyy := hide (Uyy.out.later bz)
    replace Uv := hide (Uv.out.later bz)
    replace BB := hide (later BB.out bz)
    clear bz
    clear HJD
    obtain ⟨Xu, hXu⟩ : ∃ X, X = (vOf (mO g f wnd ((f + 1) % 4294967296)) 0 true).cells := ⟨_, rfl⟩
    have LXu : Hid (Xu.length = 18) := by rw [hXu]; exact rfl
    have OXu : Hid (∀ u ∈ Xu, u.oneCell' = true) := by rw [hXu]; exact vd_one _
    try rw [← hXu]
    obtain ⟨uv18, wv17, huu, hwu, cuu, fuu, ccu, bzu, lzu, ffu⟩ := newVd wv16 Xu LXu.out
    obtain ⟨bu, hbu⟩ : ∃ b, b = wv16.heap.size := ⟨_, rfl⟩
    rw [← hbu] at hwu cuu fuu ccu lzu ffu
    have EXu := hide hXu
    have D_ss_u : Hid (bss < bu) := by have h := Uss.out.2.2; unfold Hid; omega
    have D_x_u : Hid (bx < bu) := by have h := Ux.out.2.2; unfold Hid; omega
    have D_sy_u : Hid (bsy < bu) := by have h := Usy.out.2.2; unfold Hid; omega
    have D_yy_u : Hid (byy < bu) := by have h := Uyy.out.2.2; unfold Hid; omega
    have D_v_u : Hid (bv < bu) := by have h := Uv.out.2.2; unfold Hid; omega
    have ZBu : Hid (w.heap.size ≤ bu) := by have h := BB.out.size; unfold Hid; omega
    replace Uss := hide (Uss.out.later bzu)
    replace Ux := hide (Ux.out.later bzu)
    replace Usy := hide (Usy.out.later bzu)
    replace Uyy := hide (Uyy.out.later bzu)
    replace Uv := hide (Uv.out.later bzu)
    replace BB := hide (later BB.out bzu)
    have Uu : Hid (Box wv17 bu Xu) := ⟨ccu, ffu, lzu⟩
    have CUu := hide cuu
    have FUu := hide fuu
    have huu' := huu.symm
    simp only [zVdL, zVd, zCt, Vd.cells] at huu'
    have hwu' := hwu.symm
    have hbu' := hbu.symm
    clear hXu huu hwu cuu fuu ccu bzu lzu hbu ffu
    go_upto_region 26 with (refine wpList_storeA rfl 32 18 sizVd _ _ rfl bu 0 rfl Xu zVdL rfl LXu.out rfl CUu.out FUu.out OXu.out ?_; intro hcs; clear hcs; rw [hwu'])
    clear huu' hwu' hbu' CUu FUu OXu
    have UNo := hide Uu.out.1
    obtain ⟨Y20, hY⟩ : ∃ X, X = (mO g f wnd ((f + 1) % 4294967296)).cells := ⟨_, rfl⟩
    have LY : Hid (Y20.length = 11) := by rw [hY]; exact rfl
    have OY : Hid (∀ u ∈ Y20, u.oneCell' = true) := by rw [hY]; exact ct_one _
    obtain ⟨wv19, hwo⟩ : ∃ w1, w1 = wv17.setCells byy 0 Y20 := ⟨_, rfl⟩
    have bo : But (Only byy) wv17 wv19 := by rw [hwo]; exact But.cells byy Y20 0 wv17
    have CO := hide Uyy.out.1
    have FO := hide Uyy.out.2.1
    have LO := LXyy
    have U1 : Hid (Box wv19 byy Y20) := by rw [hwo]; exact Uyy.out.all (by rw [LY.out, LXyy.out])
    replace Uss := hide (Uss.out.but bo (fun e => by have e : bss = byy := e; have := D_ss_yy.out; omega))
    replace Ux := hide (Ux.out.but bo (fun e => by have e : bx = byy := e; have := D_x_yy.out; omega))
    replace Usy := hide (Usy.out.but bo (fun e => by have e : bsy = byy := e; have := D_sy_yy.out; omega))
    replace Uv := hide (Uv.out.but bo (fun e => by have e : bv = byy := e; have := D_yy_v.out; omega))
    replace Uu := hide (Uu.out.but bo (fun e => by have e : bu = byy := e; have := D_yy_u.out; omega))
    replace BB : Hid (Below w.heap.size w wv19) := BB.out.trans (bo.below BB.out.size (fun g hg e => by have e : g = byy := e; have := ZByy.out; omega))
    have EY := hide hY
    have hwo' := hwo.symm
    clear hwo bo hY Uyy LXyy EXyy
    have UN : Hid (CellsAt wv17 bu 0 Y20) := by have h := UNo.out; rw [EXu.out, Vd.parts] at h; rw [EY.out]; exact (CellsAt.append.1 h).1
    go_upto_region 27 with (first | refine wpList_loadA rfl 24 11 aggCt sizCt _ rfl bu 0 rfl Y20 LY.out UN.out ?_ | (refine wpList_storeA rfl 24 11 sizCt _ _ rfl byy 0 rfl Y20 Xyy rfl LY.out LO.out CO.out FO.out OY.out ?_; intro hcs; clear hcs; rw [hwo']))
    clear UN UNo
    clear hwo' CO FO LO OY
    try clear Xyy
    obtain ⟨Xyy, hXX⟩ : ∃ X, X = Y20 := ⟨_, rfl⟩
    subst hXX
    have Uyy := U1
    have LXyy := LY
    have EXyy := EY
    clear U1 LY EY
    have CW : Hid (Calls Try.prog 10 #[.agg Xx.toArray, .agg Xss.toArray] wv19 fun e w' => e = .returned (.agg (judge (mO f g wnd g) s).cells.toArray) ∧ Below wv19.heap.size wv19 w') := by rw [EXx.out, EXss.out]; exact Judge_any (mO f g wnd g) rfl HL.out wv19
    have k1 : wv19.cell? ⟨bx, 0, none⟩ = some (.int .i64 3) := by have h := Ux.out.1 0 (.int .i64 3) (by rw [EXx.out]; rfl); rw [Nat.zero_add] at h; exact h
    have k2 : wv19.cell? ⟨byy, 0, none⟩ = some (.int .i64 3) := by have h := Uyy.out.1 0 (.int .i64 3) (by rw [EXyy.out]; rfl); rw [Nat.zero_add] at h; exact h
    have k3 : wv19.cell? ⟨bx, 9, none⟩ = some (.int .u32 ((g + 1) % 4294967296)) := by have h := Ux.out.1 9 (.int .u32 ((g + 1) % 4294967296)) (by rw [EXx.out]; rfl); rw [Nat.zero_add] at h; exact h
    have k4 : wv19.cell? ⟨byy, 3, none⟩ = some (.int .u32 ((g + 1) % 4294967296)) := by have h := Uyy.out.1 3 (.int .u32 ((g + 1) % 4294967296)) (by rw [EXyy.out]; rfl); rw [Nat.zero_add] at h; exact h
    have k5 : wv19.cell? ⟨byy, 9, none⟩ = some (.int .u32 ((f + 1) % 4294967296)) := by have h := Uyy.out.1 9 (.int .u32 ((f + 1) % 4294967296)) (by rw [EXyy.out]; rfl); rw [Nat.zero_add] at h; exact h
    have k6 : wv19.cell? ⟨bx, 3, none⟩ = some (.int .u32 ((f + 1) % 4294967296)) := by have h := Ux.out.1 3 (.int .u32 ((f + 1) % 4294967296)) (by rw [EXx.out]; rfl); rw [Nat.zero_add] at h; exact h
    have k7 : wv19.cell? ⟨bx, 2, none⟩ = some (.int .u32 ((f + 1) % 4294967296)) := by have h := Ux.out.1 2 (.int .u32 ((f + 1) % 4294967296)) (by rw [EXx.out]; rfl); rw [Nat.zero_add] at h; exact h
    have k8 : wv19.cell? ⟨byy, 2, none⟩ = some (.int .u32 ((g + 1) % 4294967296)) := by have h := Uyy.out.1 2 (.int .u32 ((g + 1) % 4294967296)) (by rw [EXyy.out]; rfl); rw [Nat.zero_add] at h; exact h
    go_upto_region 29 with fail
    clear k1 k2 k3 k4 k5 k6 k7 k8
    go_wp2_with (first | refine wpList_loadA rfl 24 11 aggCt sizCt _ rfl bx 0 rfl Xx LXx.out Ux.out.1 ?_ | refine wpList_loadA rfl 28 10 aggSg sizSg _ rfl bss 0 rfl Xss LXss.out Uss.out.1 ?_)
    refine CW.out.mono ?_
    rintro _ wv22 ⟨rfl, bz⟩
    replace Uss := hide (Uss.out.later bz)
    replace Ux := hide (Ux.out.later bz)
    replace Usy := hide (Usy.out.later bz)
    replace Uyy := hide (Uyy.out.later bz)
    replace Uv := hide (Uv.out.later bz)
    replace Uu := hide (Uu.out.later bz)
    replace BB := hide (later BB.out bz)
    clear bz
    clear CW
    obtain ⟨Xvv, hXvv⟩ : ∃ X, X = (judge (mO f g wnd g) s).cells := ⟨_, rfl⟩
    have LXvv : Hid (Xvv.length = 18) := by rw [hXvv]; exact rfl
    have OXvv : Hid (∀ u ∈ Xvv, u.oneCell' = true) := by rw [hXvv]; exact vd_one _
    try rw [← hXvv]
    obtain ⟨uv24, wv23, huvv, hwvv, cuvv, fuvv, ccvv, bzvv, lzvv, ffvv⟩ := newVd wv22 Xvv LXvv.out
    obtain ⟨bvv, hbvv⟩ : ∃ b, b = wv22.heap.size := ⟨_, rfl⟩
    rw [← hbvv] at hwvv cuvv fuvv ccvv lzvv ffvv
    have EXvv := hide hXvv
    have D_ss_vv : Hid (bss < bvv) := by have h := Uss.out.2.2; unfold Hid; omega
    have D_x_vv : Hid (bx < bvv) := by have h := Ux.out.2.2; unfold Hid; omega
    have D_sy_vv : Hid (bsy < bvv) := by have h := Usy.out.2.2; unfold Hid; omega
    have D_yy_vv : Hid (byy < bvv) := by have h := Uyy.out.2.2; unfold Hid; omega
    have D_v_vv : Hid (bv < bvv) := by have h := Uv.out.2.2; unfold Hid; omega
    have D_u_vv : Hid (bu < bvv) := by have h := Uu.out.2.2; unfold Hid; omega
    have ZBvv : Hid (w.heap.size ≤ bvv) := by have h := BB.out.size; unfold Hid; omega
    replace Uss := hide (Uss.out.later bzvv)
    replace Ux := hide (Ux.out.later bzvv)
    replace Usy := hide (Usy.out.later bzvv)
    replace Uyy := hide (Uyy.out.later bzvv)
    replace Uv := hide (Uv.out.later bzvv)
    replace Uu := hide (Uu.out.later bzvv)
    replace BB := hide (later BB.out bzvv)
    have Uvv : Hid (Box wv23 bvv Xvv) := ⟨ccvv, ffvv, lzvv⟩
    have CUvv := hide cuvv
    have FUvv := hide fuvv
    have huvv' := huvv.symm
    simp only [zVdL, zVd, zCt, Vd.cells] at huvv'
    have hwvv' := hwvv.symm
    have hbvv' := hbvv.symm
    clear hXvv huvv hwvv cuvv fuvv ccvv bzvv lzvv hbvv ffvv
    go_upto_region 30 with (refine wpList_storeA rfl 32 18 sizVd _ _ rfl bvv 0 rfl Xvv zVdL rfl LXvv.out rfl CUvv.out FUvv.out OXvv.out ?_; intro hcs; clear hcs; rw [hwvv'])
    clear huvv' hwvv' hbvv' CUvv FUvv OXvv
    have k1 : wv23.cell? ⟨bvv, 12, none⟩ = some (.int .i64 (judge (mO f g wnd g) s).en) := by have h := Uvv.out.1 12 (.int .i64 (judge (mO f g wnd g) s).en) (by rw [EXvv.out]; rfl); rw [Nat.zero_add] at h; exact h
    have k2 : wv23.cell? ⟨bss, 2, none⟩ = some (.int .u32 s.seq) := by have h := Uss.out.1 2 (.int .u32 s.seq) (by rw [EXss.out]; rfl); rw [Nat.zero_add] at h; exact h
    have k3 : wv23.cell? ⟨bx, 9, none⟩ = some (.int .u32 ((g + 1) % 4294967296)) := by have h := Ux.out.1 9 (.int .u32 ((g + 1) % 4294967296)) (by rw [EXx.out]; rfl); rw [Nat.zero_add] at h; exact h
    by_cases hq : s.seq = ((g + 1) % 4294967296)
    · by_cases he : (judge (mO f g wnd g) s).en = 0
      · rw [he] at k1
        go_wp2
        go_ret
        exact ⟨rfl, BB.out⟩
      · have q1 : ((judge (mO f g wnd g) s).en == 0) = false := by simpa using he
        have q2 : (s.seq == ((g + 1) % 4294967296)) = true := by simpa using hq
        obtain ⟨en, hen⟩ : ∃ en, en = (judge (mO f g wnd g) s).en := ⟨_, rfl⟩
        rw [← hen] at k1 q1
        clear hen he hq
        go_wp2
        go_ret
        exact ⟨rfl, BB.out⟩
    · have he : (judge (mO f g wnd g) s).en = 0 := judge_wild rfl hq
      rw [he] at k1
      go_wp2
      go_ret
      exact ⟨rfl, BB.out⟩
  | true =>
    have CN := Active_any b wv8
    rw [← HG.out] at CN
    have HCN := hide CN
    clear CN
    go_wp2_with fail
    refine HCN.out.mono ?_
    rintro _ wv10 ⟨rfl, bz⟩
    replace Uss := hide (Uss.out.later bz)
    replace Ux := hide (Ux.out.later bz)
    replace Usy := hide (Usy.out.later bz)
    replace Uyy := hide (Uyy.out.later bz)
    replace BB := hide (later BB.out bz)
    clear bz
    clear HCN
    obtain ⟨Y12, hY⟩ : ∃ X, X = (begC 1 g).cells := ⟨_, rfl⟩
    have LY : Hid (Y12.length = 11) := by rw [hY]; exact rfl
    have OY : Hid (∀ u ∈ Y12, u.oneCell' = true) := by rw [hY]; exact ct_one _
    obtain ⟨wv11, hwo⟩ : ∃ w1, w1 = wv10.setCells byy 0 Y12 := ⟨_, rfl⟩
    have bo : But (Only byy) wv10 wv11 := by rw [hwo]; exact But.cells byy Y12 0 wv10
    have CO := hide Uyy.out.1
    have FO := hide Uyy.out.2.1
    have LO := LXyy
    have U1 : Hid (Box wv11 byy Y12) := by rw [hwo]; exact Uyy.out.all (by rw [LY.out, LXyy.out])
    replace Uss := hide (Uss.out.but bo (fun e => by have e : bss = byy := e; have := D_ss_yy.out; omega))
    replace Ux := hide (Ux.out.but bo (fun e => by have e : bx = byy := e; have := D_x_yy.out; omega))
    replace Usy := hide (Usy.out.but bo (fun e => by have e : bsy = byy := e; have := D_sy_yy.out; omega))
    replace BB : Hid (Below w.heap.size w wv11) := BB.out.trans (bo.below BB.out.size (fun g hg e => by have e : g = byy := e; have := ZByy.out; omega))
    have EY := hide hY
    have hwo' := hwo.symm
    clear hwo bo hY Uyy LXyy EXyy
    rw [← EY.out]
    go_upto_region 7 with (refine wpList_storeA rfl 24 11 sizCt _ _ rfl byy 0 rfl Y12 Xyy rfl LY.out LO.out CO.out FO.out OY.out ?_; intro hcs; clear hcs; rw [hwo'])
    clear hwo' CO FO LO OY
    try clear Xyy
    obtain ⟨Xyy, hXX⟩ : ∃ X, X = Y12 := ⟨_, rfl⟩
    subst hXX
    have Uyy := U1
    have LXyy := LY
    have EXyy := EY
    clear U1 LY EY
    have JD := Judge_any (gv := .slice none 0 0) (da := none) (dc := 0) (s := mS1 f wnd) (begC 1 g) rfl (Nat.zero_le _) wv11
    rw [m4] at JD
    rw [← EXyy.out] at JD
    rw [show (Value.slice none (mS1 f wnd).dat.length 0) = .slice none 0 0 from rfl] at JD
    rw [← EXsy.out] at JD
    have HJD := hide JD
    clear JD
    go_wp2_with (first | refine wpList_loadA rfl 24 11 aggCt sizCt _ rfl byy 0 rfl Xyy LXyy.out Uyy.out.1 ?_ | refine wpList_loadA rfl 28 10 aggSg sizSg _ rfl bsy 0 rfl Xsy LXsy.out Usy.out.1 ?_)
    refine HJD.out.mono ?_
    rintro _ wv14 ⟨rfl, bz⟩
    replace Uss := hide (Uss.out.later bz)
    replace Ux := hide (Ux.out.later bz)
    replace Usy := hide (Usy.out.later bz)
    replace Uyy := hide (Uyy.out.later bz)
    replace BB := hide (later BB.out bz)
    clear bz
    clear HJD
    obtain ⟨Xv, hXv⟩ : ∃ X, X = (vOf (mY0 f g wnd) 3 false).cells := ⟨_, rfl⟩
    have LXv : Hid (Xv.length = 18) := by rw [hXv]; exact rfl
    have OXv : Hid (∀ u ∈ Xv, u.oneCell' = true) := by rw [hXv]; exact vd_one _
    try rw [← hXv]
    obtain ⟨uv16, wv15, huv, hwv, cuv, fuv, ccv, bzv, lzv, ffv⟩ := newVd wv14 Xv LXv.out
    obtain ⟨bv, hbv⟩ : ∃ b, b = wv14.heap.size := ⟨_, rfl⟩
    rw [← hbv] at hwv cuv fuv ccv lzv ffv
    have EXv := hide hXv
    have D_ss_v : Hid (bss < bv) := by have h := Uss.out.2.2; unfold Hid; omega
    have D_x_v : Hid (bx < bv) := by have h := Ux.out.2.2; unfold Hid; omega
    have D_sy_v : Hid (bsy < bv) := by have h := Usy.out.2.2; unfold Hid; omega
    have D_yy_v : Hid (byy < bv) := by have h := Uyy.out.2.2; unfold Hid; omega
    have ZBv : Hid (w.heap.size ≤ bv) := by have h := BB.out.size; unfold Hid; omega
    replace Uss := hide (Uss.out.later bzv)
    replace Ux := hide (Ux.out.later bzv)
    replace Usy := hide (Usy.out.later bzv)
    replace Uyy := hide (Uyy.out.later bzv)
    replace BB := hide (later BB.out bzv)
    have Uv : Hid (Box wv15 bv Xv) := ⟨ccv, ffv, lzv⟩
    have CUv := hide cuv
    have FUv := hide fuv
    have huv' := huv.symm
    simp only [zVdL, zVd, zCt, Vd.cells] at huv'
    have hwv' := hwv.symm
    have hbv' := hbv.symm
    clear hXv huv hwv cuv fuv ccv bzv lzv hbv ffv
    go_upto_region 8 with (refine wpList_storeA rfl 32 18 sizVd _ _ rfl bv 0 rfl Xv zVdL rfl LXv.out rfl CUv.out FUv.out OXv.out ?_; intro hcs; clear hcs; rw [hwv'])
    clear huv' hwv' hbv' CUv FUv OXv
    have k1 : wv15.cell? ⟨byy, 1, none⟩ = some (.int .u32 g) := by have h := Uyy.out.1 1 (.int .u32 g) (by rw [EXyy.out]; rfl); rw [Nat.zero_add] at h; exact h
    have JD := Judge_any (gv := .slice none 0 0) (da := none) (dc := 0) (s := mS1 g wnd) (begC 1 f) rfl (Nat.zero_le _) wv15
    rw [m4] at JD
    rw [← EXx.out] at JD
    have HJD := hide JD
    clear JD
    go_wp2_with (refine wpList_loadA rfl 24 11 aggCt sizCt _ rfl bx 0 rfl Xx LXx.out Ux.out.1 ?_)
    clear k1
    refine HJD.out.mono ?_
    rintro _ wv17 ⟨rfl, bz⟩
    replace Uss := hide (Uss.out.later bz)
    replace Ux := hide (Ux.out.later bz)
    replace Usy := hide (Usy.out.later bz)
    replace Uyy := hide (Uyy.out.later bz)
    replace Uv := hide (Uv.out.later bz)
    replace BB := hide (later BB.out bz)
    clear bz
    clear HJD
    obtain ⟨Xu, hXu⟩ : ∃ X, X = (vOf (mY0 g f wnd) 3 false).cells := ⟨_, rfl⟩
    have LXu : Hid (Xu.length = 18) := by rw [hXu]; exact rfl
    have OXu : Hid (∀ u ∈ Xu, u.oneCell' = true) := by rw [hXu]; exact vd_one _
    try rw [← hXu]
    obtain ⟨uv19, wv18, huu, hwu, cuu, fuu, ccu, bzu, lzu, ffu⟩ := newVd wv17 Xu LXu.out
    obtain ⟨bu, hbu⟩ : ∃ b, b = wv17.heap.size := ⟨_, rfl⟩
    rw [← hbu] at hwu cuu fuu ccu lzu ffu
    have EXu := hide hXu
    have D_ss_u : Hid (bss < bu) := by have h := Uss.out.2.2; unfold Hid; omega
    have D_x_u : Hid (bx < bu) := by have h := Ux.out.2.2; unfold Hid; omega
    have D_sy_u : Hid (bsy < bu) := by have h := Usy.out.2.2; unfold Hid; omega
    have D_yy_u : Hid (byy < bu) := by have h := Uyy.out.2.2; unfold Hid; omega
    have D_v_u : Hid (bv < bu) := by have h := Uv.out.2.2; unfold Hid; omega
    have ZBu : Hid (w.heap.size ≤ bu) := by have h := BB.out.size; unfold Hid; omega
    replace Uss := hide (Uss.out.later bzu)
    replace Ux := hide (Ux.out.later bzu)
    replace Usy := hide (Usy.out.later bzu)
    replace Uyy := hide (Uyy.out.later bzu)
    replace Uv := hide (Uv.out.later bzu)
    replace BB := hide (later BB.out bzu)
    have Uu : Hid (Box wv18 bu Xu) := ⟨ccu, ffu, lzu⟩
    have CUu := hide cuu
    have FUu := hide fuu
    have huu' := huu.symm
    simp only [zVdL, zVd, zCt, Vd.cells] at huu'
    have hwu' := hwu.symm
    have hbu' := hbu.symm
    clear hXu huu hwu cuu fuu ccu bzu lzu hbu ffu
    go_upto_region 9 with (refine wpList_storeA rfl 32 18 sizVd _ _ rfl bu 0 rfl Xu zVdL rfl LXu.out rfl CUu.out FUu.out OXu.out ?_; intro hcs; clear hcs; rw [hwu'])
    clear huu' hwu' hbu' CUu FUu OXu
    have k1 : wv18.cell? ⟨bv, 11, none⟩ = some (.int .i64 3) := by have h := Uv.out.1 11 (.int .i64 3) (by rw [EXv.out]; rfl); rw [Nat.zero_add] at h; exact h
    have k2 : wv18.cell? ⟨bu, 11, none⟩ = some (.int .i64 3) := by have h := Uu.out.1 11 (.int .i64 3) (by rw [EXu.out]; rfl); rw [Nat.zero_add] at h; exact h
    go_upto_region 11 with fail
    clear k1 k2
    have UNo := hide Uu.out.1
    obtain ⟨Y21, hY⟩ : ∃ X, X = (mY0 g f wnd).cells := ⟨_, rfl⟩
    have LY : Hid (Y21.length = 11) := by rw [hY]; exact rfl
    have OY : Hid (∀ u ∈ Y21, u.oneCell' = true) := by rw [hY]; exact ct_one _
    obtain ⟨wv20, hwo⟩ : ∃ w1, w1 = wv18.setCells bx 0 Y21 := ⟨_, rfl⟩
    have bo : But (Only bx) wv18 wv20 := by rw [hwo]; exact But.cells bx Y21 0 wv18
    have CO := hide Ux.out.1
    have FO := hide Ux.out.2.1
    have LO := LXx
    have U1 : Hid (Box wv20 bx Y21) := by rw [hwo]; exact Ux.out.all (by rw [LY.out, LXx.out])
    replace Uss := hide (Uss.out.but bo (fun e => by have e : bss = bx := e; have := D_ss_x.out; omega))
    replace Usy := hide (Usy.out.but bo (fun e => by have e : bsy = bx := e; have := D_x_sy.out; omega))
    replace Uyy := hide (Uyy.out.but bo (fun e => by have e : byy = bx := e; have := D_x_yy.out; omega))
    replace Uv := hide (Uv.out.but bo (fun e => by have e : bv = bx := e; have := D_x_v.out; omega))
    replace Uu := hide (Uu.out.but bo (fun e => by have e : bu = bx := e; have := D_x_u.out; omega))
    replace BB : Hid (Below w.heap.size w wv20) := BB.out.trans (bo.below BB.out.size (fun g hg e => by have e : g = bx := e; have := ZBx.out; omega))
    have EY := hide hY
    have hwo' := hwo.symm
    clear hwo bo hY Ux LXx EXx
    have UN : Hid (CellsAt wv18 bu 0 Y21) := by have h := UNo.out; rw [EXu.out, Vd.parts] at h; rw [EY.out]; exact (CellsAt.append.1 h).1
    go_upto_region 12 with (first | refine wpList_loadA rfl 24 11 aggCt sizCt _ rfl bu 0 rfl Y21 LY.out UN.out ?_ | (refine wpList_storeA rfl 24 11 sizCt _ _ rfl bx 0 rfl Y21 Xx rfl LY.out LO.out CO.out FO.out OY.out ?_; intro hcs; clear hcs; rw [hwo']))
    clear UN UNo
    clear hwo' CO FO LO OY
    try clear Xx
    obtain ⟨Xx, hXX⟩ : ∃ X, X = Y21 := ⟨_, rfl⟩
    subst hXX
    have Ux := U1
    have LXx := LY
    have EXx := EY
    clear U1 LY EY
    have UNo := hide Uv.out.1
    obtain ⟨Y24, hY⟩ : ∃ X, X = (mY0 f g wnd).cells := ⟨_, rfl⟩
    have LY : Hid (Y24.length = 11) := by rw [hY]; exact rfl
    have OY : Hid (∀ u ∈ Y24, u.oneCell' = true) := by rw [hY]; exact ct_one _
    obtain ⟨wv23, hwo⟩ : ∃ w1, w1 = wv20.setCells byy 0 Y24 := ⟨_, rfl⟩
    have bo : But (Only byy) wv20 wv23 := by rw [hwo]; exact But.cells byy Y24 0 wv20
    have CO := hide Uyy.out.1
    have FO := hide Uyy.out.2.1
    have LO := LXyy
    have U1 : Hid (Box wv23 byy Y24) := by rw [hwo]; exact Uyy.out.all (by rw [LY.out, LXyy.out])
    replace Uss := hide (Uss.out.but bo (fun e => by have e : bss = byy := e; have := D_ss_yy.out; omega))
    replace Ux := hide (Ux.out.but bo (fun e => by have e : bx = byy := e; have := D_x_yy.out; omega))
    replace Usy := hide (Usy.out.but bo (fun e => by have e : bsy = byy := e; have := D_sy_yy.out; omega))
    replace Uv := hide (Uv.out.but bo (fun e => by have e : bv = byy := e; have := D_yy_v.out; omega))
    replace Uu := hide (Uu.out.but bo (fun e => by have e : bu = byy := e; have := D_yy_u.out; omega))
    replace BB : Hid (Below w.heap.size w wv23) := BB.out.trans (bo.below BB.out.size (fun g hg e => by have e : g = byy := e; have := ZByy.out; omega))
    have EY := hide hY
    have hwo' := hwo.symm
    clear hwo bo hY Uyy LXyy EXyy
    have UN : Hid (CellsAt wv20 bv 0 Y24) := by have h := UNo.out; rw [EXv.out, Vd.parts] at h; rw [EY.out]; exact (CellsAt.append.1 h).1
    go_upto_region 13 with (first | refine wpList_loadA rfl 24 11 aggCt sizCt _ rfl bv 0 rfl Y24 LY.out UN.out ?_ | (refine wpList_storeA rfl 24 11 sizCt _ _ rfl byy 0 rfl Y24 Xyy rfl LY.out LO.out CO.out FO.out OY.out ?_; intro hcs; clear hcs; rw [hwo']))
    clear UN UNo
    clear hwo' CO FO LO OY
    try clear Xyy
    obtain ⟨Xyy, hXX⟩ : ∃ X, X = Y24 := ⟨_, rfl⟩
    subst hXX
    have Uyy := U1
    have LXyy := LY
    have EXyy := EY
    clear U1 LY EY
    have k1 : wv23.cell? ⟨byy, 1, none⟩ = some (.int .u32 g) := by have h := Uyy.out.1 1 (.int .u32 g) (by rw [EXyy.out]; rfl); rw [Nat.zero_add] at h; exact h
    have k2 : wv23.cell? ⟨byy, 9, none⟩ = some (.int .u32 ((f + 1) % 4294967296)) := by have h := Uyy.out.1 9 (.int .u32 ((f + 1) % 4294967296)) (by rw [EXyy.out]; rfl); rw [Nat.zero_add] at h; exact h
    have JD := Judge_any (gv := .slice none 0 0) (da := none) (dc := 0) (s := mSA g ((f + 1) % 4294967296) wnd) (mY0 g f wnd) rfl (Nat.zero_le _) wv23
    rw [m5] at JD
    rw [← EXx.out] at JD
    have HJD := hide JD
    clear JD
    go_wp2_with (refine wpList_loadA rfl 24 11 aggCt sizCt _ rfl bx 0 rfl Xx LXx.out Ux.out.1 ?_)
    clear k1 k2
    refine HJD.out.mono ?_
    rintro _ wv26 ⟨rfl, bz⟩
    replace Uss := hide (Uss.out.later bz)
    replace Ux := hide (Ux.out.later bz)
    replace Usy := hide (Usy.out.later bz)
    replace Uyy := hide (Uyy.out.later bz)
    replace Uv := hide (Uv.out.later bz)
    replace Uu := hide (Uu.out.later bz)
    replace BB := hide (later BB.out bz)
    clear bz
    clear HJD
    obtain ⟨Xp, hXp⟩ : ∃ X, X = (vOf (mY0 g f wnd) 1 false).cells := ⟨_, rfl⟩
    have LXp : Hid (Xp.length = 18) := by rw [hXp]; exact rfl
    have OXp : Hid (∀ u ∈ Xp, u.oneCell' = true) := by rw [hXp]; exact vd_one _
    try rw [← hXp]
    obtain ⟨uv28, wv27, hup, hwp, cup, fup, ccp, bzp, lzp, ffp⟩ := newVd wv26 Xp LXp.out
    obtain ⟨bp, hbp⟩ : ∃ b, b = wv26.heap.size := ⟨_, rfl⟩
    rw [← hbp] at hwp cup fup ccp lzp ffp
    have EXp := hide hXp
    have D_ss_p : Hid (bss < bp) := by have h := Uss.out.2.2; unfold Hid; omega
    have D_x_p : Hid (bx < bp) := by have h := Ux.out.2.2; unfold Hid; omega
    have D_sy_p : Hid (bsy < bp) := by have h := Usy.out.2.2; unfold Hid; omega
    have D_yy_p : Hid (byy < bp) := by have h := Uyy.out.2.2; unfold Hid; omega
    have D_v_p : Hid (bv < bp) := by have h := Uv.out.2.2; unfold Hid; omega
    have D_u_p : Hid (bu < bp) := by have h := Uu.out.2.2; unfold Hid; omega
    have ZBp : Hid (w.heap.size ≤ bp) := by have h := BB.out.size; unfold Hid; omega
    replace Uss := hide (Uss.out.later bzp)
    replace Ux := hide (Ux.out.later bzp)
    replace Usy := hide (Usy.out.later bzp)
    replace Uyy := hide (Uyy.out.later bzp)
    replace Uv := hide (Uv.out.later bzp)
    replace Uu := hide (Uu.out.later bzp)
    replace BB := hide (later BB.out bzp)
    have Up : Hid (Box wv27 bp Xp) := ⟨ccp, ffp, lzp⟩
    have CUp := hide cup
    have FUp := hide fup
    have hup' := hup.symm
    simp only [zVdL, zVd, zCt, Vd.cells] at hup'
    have hwp' := hwp.symm
    have hbp' := hbp.symm
    clear hXp hup hwp cup fup ccp bzp lzp hbp ffp
    go_upto_region 14 with (refine wpList_storeA rfl 32 18 sizVd _ _ rfl bp 0 rfl Xp zVdL rfl LXp.out rfl CUp.out FUp.out OXp.out ?_; intro hcs; clear hcs; rw [hwp'])
    clear hup' hwp' hbp' CUp FUp OXp
    have k1 : wv27.cell? ⟨bx, 1, none⟩ = some (.int .u32 f) := by have h := Ux.out.1 1 (.int .u32 f) (by rw [EXx.out]; rfl); rw [Nat.zero_add] at h; exact h
    have k2 : wv27.cell? ⟨bx, 9, none⟩ = some (.int .u32 ((g + 1) % 4294967296)) := by have h := Ux.out.1 9 (.int .u32 ((g + 1) % 4294967296)) (by rw [EXx.out]; rfl); rw [Nat.zero_add] at h; exact h
    have JD := Judge_any (gv := .slice none 0 0) (da := none) (dc := 0) (s := mSA f ((g + 1) % 4294967296) wnd) (mY0 f g wnd) rfl (Nat.zero_le _) wv27
    rw [m5] at JD
    rw [← EXyy.out] at JD
    have HJD := hide JD
    clear JD
    go_wp2_with (refine wpList_loadA rfl 24 11 aggCt sizCt _ rfl byy 0 rfl Xyy LXyy.out Uyy.out.1 ?_)
    clear k1 k2
    refine HJD.out.mono ?_
    rintro _ wv29 ⟨rfl, bz⟩
    replace Uss := hide (Uss.out.later bz)
    replace Ux := hide (Ux.out.later bz)
    replace Usy := hide (Usy.out.later bz)
    replace Uyy := hide (Uyy.out.later bz)
    replace Uv := hide (Uv.out.later bz)
    replace Uu := hide (Uu.out.later bz)
    replace Up := hide (Up.out.later bz)
    replace BB := hide (later BB.out bz)
    clear bz
    clear HJD
    obtain ⟨Xq, hXq⟩ : ∃ X, X = (vOf (mY0 f g wnd) 1 false).cells := ⟨_, rfl⟩
    have LXq : Hid (Xq.length = 18) := by rw [hXq]; exact rfl
    have OXq : Hid (∀ u ∈ Xq, u.oneCell' = true) := by rw [hXq]; exact vd_one _
    try rw [← hXq]
    obtain ⟨uv31, wv30, huq, hwq, cuq, fuq, ccq, bzq, lzq, ffq⟩ := newVd wv29 Xq LXq.out
    obtain ⟨bq, hbq⟩ : ∃ b, b = wv29.heap.size := ⟨_, rfl⟩
    rw [← hbq] at hwq cuq fuq ccq lzq ffq
    have EXq := hide hXq
    have D_ss_q : Hid (bss < bq) := by have h := Uss.out.2.2; unfold Hid; omega
    have D_x_q : Hid (bx < bq) := by have h := Ux.out.2.2; unfold Hid; omega
    have D_sy_q : Hid (bsy < bq) := by have h := Usy.out.2.2; unfold Hid; omega
    have D_yy_q : Hid (byy < bq) := by have h := Uyy.out.2.2; unfold Hid; omega
    have D_v_q : Hid (bv < bq) := by have h := Uv.out.2.2; unfold Hid; omega
    have D_u_q : Hid (bu < bq) := by have h := Uu.out.2.2; unfold Hid; omega
    have D_p_q : Hid (bp < bq) := by have h := Up.out.2.2; unfold Hid; omega
    have ZBq : Hid (w.heap.size ≤ bq) := by have h := BB.out.size; unfold Hid; omega
    replace Uss := hide (Uss.out.later bzq)
    replace Ux := hide (Ux.out.later bzq)
    replace Usy := hide (Usy.out.later bzq)
    replace Uyy := hide (Uyy.out.later bzq)
    replace Uv := hide (Uv.out.later bzq)
    replace Uu := hide (Uu.out.later bzq)
    replace Up := hide (Up.out.later bzq)
    replace BB := hide (later BB.out bzq)
    have Uq : Hid (Box wv30 bq Xq) := ⟨ccq, ffq, lzq⟩
    have CUq := hide cuq
    have FUq := hide fuq
    have huq' := huq.symm
    simp only [zVdL, zVd, zCt, Vd.cells] at huq'
    have hwq' := hwq.symm
    have hbq' := hbq.symm
    clear hXq huq hwq cuq fuq ccq bzq lzq hbq ffq
    go_upto_region 15 with (refine wpList_storeA rfl 32 18 sizVd _ _ rfl bq 0 rfl Xq zVdL rfl LXq.out rfl CUq.out FUq.out OXq.out ?_; intro hcs; clear hcs; rw [hwq'])
    clear huq' hwq' hbq' CUq FUq OXq
    have k1 : wv30.cell? ⟨bp, 11, none⟩ = some (.int .i64 1) := by have h := Up.out.1 11 (.int .i64 1) (by rw [EXp.out]; rfl); rw [Nat.zero_add] at h; exact h
    have k2 : wv30.cell? ⟨bq, 11, none⟩ = some (.int .i64 1) := by have h := Uq.out.1 11 (.int .i64 1) (by rw [EXq.out]; rfl); rw [Nat.zero_add] at h; exact h
    go_upto_region 17 with fail
    clear k1 k2
    obtain ⟨NN, hNN⟩ : ∃ X, X = (mY0 g f wnd).cells := ⟨_, rfl⟩
    have LNN : Hid (NN.length = 11) := by rw [hNN]; exact rfl
    have UNN : Hid (CellsAt wv30 bp 0 NN) := by have h := Up.out.1; rw [EXp.out, Vd.parts] at h; rw [hNN]; exact (CellsAt.append.1 h).1
    have k1 : wv30.cell? ⟨byy, 3, none⟩ = some (.int .u32 ((g + 1) % 4294967296)) := by have h := Uyy.out.1 3 (.int .u32 ((g + 1) % 4294967296)) (by rw [EXyy.out]; rfl); rw [Nat.zero_add] at h; exact h
    have k2 : wv30.cell? ⟨byy, 9, none⟩ = some (.int .u32 ((f + 1) % 4294967296)) := by have h := Uyy.out.1 9 (.int .u32 ((f + 1) % 4294967296)) (by rw [EXyy.out]; rfl); rw [Nat.zero_add] at h; exact h
    have JD := Judge_any (gv := .slice none 0 0) (da := none) (dc := 0) (s := mA ((g + 1) % 4294967296) ((f + 1) % 4294967296) wnd) (mY0 g f wnd) rfl (Nat.zero_le _) wv30
    rw [m3] at JD
    rw [← hNN] at JD
    have HJD := hide JD
    clear JD
    clear hNN
    go_wp2_with (refine wpList_loadA rfl 24 11 aggCt sizCt _ rfl bp 0 rfl NN LNN.out UNN.out ?_)
    clear k1 k2 UNN
    refine HJD.out.mono ?_
    rintro _ wv32 ⟨rfl, bz⟩
    replace Uss := hide (Uss.out.later bz)
    replace Ux := hide (Ux.out.later bz)
    replace Usy := hide (Usy.out.later bz)
    replace Uyy := hide (Uyy.out.later bz)
    replace Uv := hide (Uv.out.later bz)
    replace Uu := hide (Uu.out.later bz)
    replace Up := hide (Up.out.later bz)
    replace Uq := hide (Uq.out.later bz)
    replace BB := hide (later BB.out bz)
    clear bz
    clear HJD
    obtain ⟨Y34, hY⟩ : ∃ X, X = (vOf (mO f g wnd ((g + 1) % 4294967296)) 0 true).cells := ⟨_, rfl⟩
    have LY : Hid (Y34.length = 18) := by rw [hY]; exact rfl
    have OY : Hid (∀ u ∈ Y34, u.oneCell' = true) := by rw [hY]; exact vd_one _
    obtain ⟨wv33, hwo⟩ : ∃ w1, w1 = wv32.setCells bp 0 Y34 := ⟨_, rfl⟩
    have bo : But (Only bp) wv32 wv33 := by rw [hwo]; exact But.cells bp Y34 0 wv32
    have CO := hide Up.out.1
    have FO := hide Up.out.2.1
    have LO := LXp
    have U1 : Hid (Box wv33 bp Y34) := by rw [hwo]; exact Up.out.all (by rw [LY.out, LXp.out])
    replace Uss := hide (Uss.out.but bo (fun e => by have e : bss = bp := e; have := D_ss_p.out; omega))
    replace Ux := hide (Ux.out.but bo (fun e => by have e : bx = bp := e; have := D_x_p.out; omega))
    replace Usy := hide (Usy.out.but bo (fun e => by have e : bsy = bp := e; have := D_sy_p.out; omega))
    replace Uyy := hide (Uyy.out.but bo (fun e => by have e : byy = bp := e; have := D_yy_p.out; omega))
    replace Uv := hide (Uv.out.but bo (fun e => by have e : bv = bp := e; have := D_v_p.out; omega))
    replace Uu := hide (Uu.out.but bo (fun e => by have e : bu = bp := e; have := D_u_p.out; omega))
    replace Uq := hide (Uq.out.but bo (fun e => by have e : bq = bp := e; have := D_p_q.out; omega))
    replace BB : Hid (Below w.heap.size w wv33) := BB.out.trans (bo.below BB.out.size (fun g hg e => by have e : g = bp := e; have := ZBp.out; omega))
    have EY := hide hY
    have hwo' := hwo.symm
    clear hwo bo hY Up LXp EXp
    rw [← EY.out]
    go_upto_region 18 with (refine wpList_storeA rfl 32 18 sizVd _ _ rfl bp 0 rfl Y34 Xp rfl LY.out LO.out CO.out FO.out OY.out ?_; intro hcs; clear hcs; rw [hwo'])
    clear hwo' CO FO LO OY
    try clear Xp
    obtain ⟨Xp, hXX⟩ : ∃ X, X = Y34 := ⟨_, rfl⟩
    subst hXX
    have Up := U1
    have LXp := LY
    have EXp := EY
    clear U1 LY EY
    clear LNN
    obtain ⟨NN, hNN⟩ : ∃ X, X = (mY0 f g wnd).cells := ⟨_, rfl⟩
    have LNN : Hid (NN.length = 11) := by rw [hNN]; exact rfl
    have UNN : Hid (CellsAt wv33 bq 0 NN) := by have h := Uq.out.1; rw [EXq.out, Vd.parts] at h; rw [hNN]; exact (CellsAt.append.1 h).1
    have k1 : wv33.cell? ⟨bx, 3, none⟩ = some (.int .u32 ((f + 1) % 4294967296)) := by have h := Ux.out.1 3 (.int .u32 ((f + 1) % 4294967296)) (by rw [EXx.out]; rfl); rw [Nat.zero_add] at h; exact h
    have k2 : wv33.cell? ⟨bx, 9, none⟩ = some (.int .u32 ((g + 1) % 4294967296)) := by have h := Ux.out.1 9 (.int .u32 ((g + 1) % 4294967296)) (by rw [EXx.out]; rfl); rw [Nat.zero_add] at h; exact h
    have JD := Judge_any (gv := .slice none 0 0) (da := none) (dc := 0) (s := mA ((f + 1) % 4294967296) ((g + 1) % 4294967296) wnd) (mY0 f g wnd) rfl (Nat.zero_le _) wv33
    rw [m3] at JD
    rw [← hNN] at JD
    have HJD := hide JD
    clear JD
    clear hNN
    go_wp2_with (refine wpList_loadA rfl 24 11 aggCt sizCt _ rfl bq 0 rfl NN LNN.out UNN.out ?_)
    clear k1 k2 UNN
    refine HJD.out.mono ?_
    rintro _ wv36 ⟨rfl, bz⟩
    replace Uss := hide (Uss.out.later bz)
    replace Ux := hide (Ux.out.later bz)
    replace Usy := hide (Usy.out.later bz)
    replace Uyy := hide (Uyy.out.later bz)
    replace Uv := hide (Uv.out.later bz)
    replace Uu := hide (Uu.out.later bz)
    replace Up := hide (Up.out.later bz)
    replace Uq := hide (Uq.out.later bz)
    replace BB := hide (later BB.out bz)
    clear bz
    clear HJD
    obtain ⟨Y38, hY⟩ : ∃ X, X = (vOf (mO g f wnd ((f + 1) % 4294967296)) 0 true).cells := ⟨_, rfl⟩
    have LY : Hid (Y38.length = 18) := by rw [hY]; exact rfl
    have OY : Hid (∀ u ∈ Y38, u.oneCell' = true) := by rw [hY]; exact vd_one _
    obtain ⟨wv37, hwo⟩ : ∃ w1, w1 = wv36.setCells bq 0 Y38 := ⟨_, rfl⟩
    have bo : But (Only bq) wv36 wv37 := by rw [hwo]; exact But.cells bq Y38 0 wv36
    have CO := hide Uq.out.1
    have FO := hide Uq.out.2.1
    have LO := LXq
    have U1 : Hid (Box wv37 bq Y38) := by rw [hwo]; exact Uq.out.all (by rw [LY.out, LXq.out])
    replace Uss := hide (Uss.out.but bo (fun e => by have e : bss = bq := e; have := D_ss_q.out; omega))
    replace Ux := hide (Ux.out.but bo (fun e => by have e : bx = bq := e; have := D_x_q.out; omega))
    replace Usy := hide (Usy.out.but bo (fun e => by have e : bsy = bq := e; have := D_sy_q.out; omega))
    replace Uyy := hide (Uyy.out.but bo (fun e => by have e : byy = bq := e; have := D_yy_q.out; omega))
    replace Uv := hide (Uv.out.but bo (fun e => by have e : bv = bq := e; have := D_v_q.out; omega))
    replace Uu := hide (Uu.out.but bo (fun e => by have e : bu = bq := e; have := D_u_q.out; omega))
    replace Up := hide (Up.out.but bo (fun e => by have e : bp = bq := e; have := D_p_q.out; omega))
    replace BB : Hid (Below w.heap.size w wv37) := BB.out.trans (bo.below BB.out.size (fun g hg e => by have e : g = bq := e; have := ZBq.out; omega))
    have EY := hide hY
    have hwo' := hwo.symm
    clear hwo bo hY Uq LXq EXq
    rw [← EY.out]
    go_upto_region 19 with (refine wpList_storeA rfl 32 18 sizVd _ _ rfl bq 0 rfl Y38 Xq rfl LY.out LO.out CO.out FO.out OY.out ?_; intro hcs; clear hcs; rw [hwo'])
    clear hwo' CO FO LO OY
    try clear Xq
    obtain ⟨Xq, hXX⟩ : ∃ X, X = Y38 := ⟨_, rfl⟩
    subst hXX
    have Uq := U1
    have LXq := LY
    have EXq := EY
    clear U1 LY EY
    clear LNN
    have UNo := hide Up.out.1
    obtain ⟨Y41, hY⟩ : ∃ X, X = (mO f g wnd ((g + 1) % 4294967296)).cells := ⟨_, rfl⟩
    have LY : Hid (Y41.length = 11) := by rw [hY]; exact rfl
    have OY : Hid (∀ u ∈ Y41, u.oneCell' = true) := by rw [hY]; exact ct_one _
    obtain ⟨wv40, hwo⟩ : ∃ w1, w1 = wv37.setCells bx 0 Y41 := ⟨_, rfl⟩
    have bo : But (Only bx) wv37 wv40 := by rw [hwo]; exact But.cells bx Y41 0 wv37
    have CO := hide Ux.out.1
    have FO := hide Ux.out.2.1
    have LO := LXx
    have U1 : Hid (Box wv40 bx Y41) := by rw [hwo]; exact Ux.out.all (by rw [LY.out, LXx.out])
    replace Uss := hide (Uss.out.but bo (fun e => by have e : bss = bx := e; have := D_ss_x.out; omega))
    replace Usy := hide (Usy.out.but bo (fun e => by have e : bsy = bx := e; have := D_x_sy.out; omega))
    replace Uyy := hide (Uyy.out.but bo (fun e => by have e : byy = bx := e; have := D_x_yy.out; omega))
    replace Uv := hide (Uv.out.but bo (fun e => by have e : bv = bx := e; have := D_x_v.out; omega))
    replace Uu := hide (Uu.out.but bo (fun e => by have e : bu = bx := e; have := D_x_u.out; omega))
    replace Up := hide (Up.out.but bo (fun e => by have e : bp = bx := e; have := D_x_p.out; omega))
    replace Uq := hide (Uq.out.but bo (fun e => by have e : bq = bx := e; have := D_x_q.out; omega))
    replace BB : Hid (Below w.heap.size w wv40) := BB.out.trans (bo.below BB.out.size (fun g hg e => by have e : g = bx := e; have := ZBx.out; omega))
    have EY := hide hY
    have hwo' := hwo.symm
    clear hwo bo hY Ux LXx EXx
    have UN : Hid (CellsAt wv37 bp 0 Y41) := by have h := UNo.out; rw [EXp.out, Vd.parts] at h; rw [EY.out]; exact (CellsAt.append.1 h).1
    go_upto_region 20 with (first | refine wpList_loadA rfl 24 11 aggCt sizCt _ rfl bp 0 rfl Y41 LY.out UN.out ?_ | (refine wpList_storeA rfl 24 11 sizCt _ _ rfl bx 0 rfl Y41 Xx rfl LY.out LO.out CO.out FO.out OY.out ?_; intro hcs; clear hcs; rw [hwo']))
    clear UN UNo
    clear hwo' CO FO LO OY
    try clear Xx
    obtain ⟨Xx, hXX⟩ : ∃ X, X = Y41 := ⟨_, rfl⟩
    subst hXX
    have Ux := U1
    have LXx := LY
    have EXx := EY
    clear U1 LY EY
    have UNo := hide Uq.out.1
    obtain ⟨Y44, hY⟩ : ∃ X, X = (mO g f wnd ((f + 1) % 4294967296)).cells := ⟨_, rfl⟩
    have LY : Hid (Y44.length = 11) := by rw [hY]; exact rfl
    have OY : Hid (∀ u ∈ Y44, u.oneCell' = true) := by rw [hY]; exact ct_one _
    obtain ⟨wv43, hwo⟩ : ∃ w1, w1 = wv40.setCells byy 0 Y44 := ⟨_, rfl⟩
    have bo : But (Only byy) wv40 wv43 := by rw [hwo]; exact But.cells byy Y44 0 wv40
    have CO := hide Uyy.out.1
    have FO := hide Uyy.out.2.1
    have LO := LXyy
    have U1 : Hid (Box wv43 byy Y44) := by rw [hwo]; exact Uyy.out.all (by rw [LY.out, LXyy.out])
    replace Uss := hide (Uss.out.but bo (fun e => by have e : bss = byy := e; have := D_ss_yy.out; omega))
    replace Ux := hide (Ux.out.but bo (fun e => by have e : bx = byy := e; have := D_x_yy.out; omega))
    replace Usy := hide (Usy.out.but bo (fun e => by have e : bsy = byy := e; have := D_sy_yy.out; omega))
    replace Uv := hide (Uv.out.but bo (fun e => by have e : bv = byy := e; have := D_yy_v.out; omega))
    replace Uu := hide (Uu.out.but bo (fun e => by have e : bu = byy := e; have := D_yy_u.out; omega))
    replace Up := hide (Up.out.but bo (fun e => by have e : bp = byy := e; have := D_yy_p.out; omega))
    replace Uq := hide (Uq.out.but bo (fun e => by have e : bq = byy := e; have := D_yy_q.out; omega))
    replace BB : Hid (Below w.heap.size w wv43) := BB.out.trans (bo.below BB.out.size (fun g hg e => by have e : g = byy := e; have := ZByy.out; omega))
    have EY := hide hY
    have hwo' := hwo.symm
    clear hwo bo hY Uyy LXyy EXyy
    have UN : Hid (CellsAt wv40 bq 0 Y44) := by have h := UNo.out; rw [EXq.out, Vd.parts] at h; rw [EY.out]; exact (CellsAt.append.1 h).1
    go_upto_region 27 with (first | refine wpList_loadA rfl 24 11 aggCt sizCt _ rfl bq 0 rfl Y44 LY.out UN.out ?_ | (refine wpList_storeA rfl 24 11 sizCt _ _ rfl byy 0 rfl Y44 Xyy rfl LY.out LO.out CO.out FO.out OY.out ?_; intro hcs; clear hcs; rw [hwo']))
    clear UN UNo
    clear hwo' CO FO LO OY
    try clear Xyy
    obtain ⟨Xyy, hXX⟩ : ∃ X, X = Y44 := ⟨_, rfl⟩
    subst hXX
    have Uyy := U1
    have LXyy := LY
    have EXyy := EY
    clear U1 LY EY
    have CW : Hid (Calls Try.prog 10 #[.agg Xx.toArray, .agg Xss.toArray] wv43 fun e w' => e = .returned (.agg (judge (mO f g wnd ((g + 1) % 4294967296)) s).cells.toArray) ∧ Below wv43.heap.size wv43 w') := by rw [EXx.out, EXss.out]; exact Judge_any (mO f g wnd ((g + 1) % 4294967296)) rfl HL.out wv43
    have k1 : wv43.cell? ⟨bx, 0, none⟩ = some (.int .i64 3) := by have h := Ux.out.1 0 (.int .i64 3) (by rw [EXx.out]; rfl); rw [Nat.zero_add] at h; exact h
    have k2 : wv43.cell? ⟨byy, 0, none⟩ = some (.int .i64 3) := by have h := Uyy.out.1 0 (.int .i64 3) (by rw [EXyy.out]; rfl); rw [Nat.zero_add] at h; exact h
    have k3 : wv43.cell? ⟨bx, 9, none⟩ = some (.int .u32 ((g + 1) % 4294967296)) := by have h := Ux.out.1 9 (.int .u32 ((g + 1) % 4294967296)) (by rw [EXx.out]; rfl); rw [Nat.zero_add] at h; exact h
    have k4 : wv43.cell? ⟨byy, 3, none⟩ = some (.int .u32 ((g + 1) % 4294967296)) := by have h := Uyy.out.1 3 (.int .u32 ((g + 1) % 4294967296)) (by rw [EXyy.out]; rfl); rw [Nat.zero_add] at h; exact h
    have k5 : wv43.cell? ⟨byy, 9, none⟩ = some (.int .u32 ((f + 1) % 4294967296)) := by have h := Uyy.out.1 9 (.int .u32 ((f + 1) % 4294967296)) (by rw [EXyy.out]; rfl); rw [Nat.zero_add] at h; exact h
    have k6 : wv43.cell? ⟨bx, 3, none⟩ = some (.int .u32 ((f + 1) % 4294967296)) := by have h := Ux.out.1 3 (.int .u32 ((f + 1) % 4294967296)) (by rw [EXx.out]; rfl); rw [Nat.zero_add] at h; exact h
    have k7 : wv43.cell? ⟨bx, 2, none⟩ = some (.int .u32 ((f + 1) % 4294967296)) := by have h := Ux.out.1 2 (.int .u32 ((f + 1) % 4294967296)) (by rw [EXx.out]; rfl); rw [Nat.zero_add] at h; exact h
    have k8 : wv43.cell? ⟨byy, 2, none⟩ = some (.int .u32 ((g + 1) % 4294967296)) := by have h := Uyy.out.1 2 (.int .u32 ((g + 1) % 4294967296)) (by rw [EXyy.out]; rfl); rw [Nat.zero_add] at h; exact h
    go_upto_region 29 with fail
    clear k1 k2 k3 k4 k5 k6 k7 k8
    go_wp2_with (first | refine wpList_loadA rfl 24 11 aggCt sizCt _ rfl bx 0 rfl Xx LXx.out Ux.out.1 ?_ | refine wpList_loadA rfl 28 10 aggSg sizSg _ rfl bss 0 rfl Xss LXss.out Uss.out.1 ?_)
    refine CW.out.mono ?_
    rintro _ wv46 ⟨rfl, bz⟩
    replace Uss := hide (Uss.out.later bz)
    replace Ux := hide (Ux.out.later bz)
    replace Usy := hide (Usy.out.later bz)
    replace Uyy := hide (Uyy.out.later bz)
    replace Uv := hide (Uv.out.later bz)
    replace Uu := hide (Uu.out.later bz)
    replace Up := hide (Up.out.later bz)
    replace Uq := hide (Uq.out.later bz)
    replace BB := hide (later BB.out bz)
    clear bz
    clear CW
    obtain ⟨Xvv, hXvv⟩ : ∃ X, X = (judge (mO f g wnd ((g + 1) % 4294967296)) s).cells := ⟨_, rfl⟩
    have LXvv : Hid (Xvv.length = 18) := by rw [hXvv]; exact rfl
    have OXvv : Hid (∀ u ∈ Xvv, u.oneCell' = true) := by rw [hXvv]; exact vd_one _
    try rw [← hXvv]
    obtain ⟨uv48, wv47, huvv, hwvv, cuvv, fuvv, ccvv, bzvv, lzvv, ffvv⟩ := newVd wv46 Xvv LXvv.out
    obtain ⟨bvv, hbvv⟩ : ∃ b, b = wv46.heap.size := ⟨_, rfl⟩
    rw [← hbvv] at hwvv cuvv fuvv ccvv lzvv ffvv
    have EXvv := hide hXvv
    have D_ss_vv : Hid (bss < bvv) := by have h := Uss.out.2.2; unfold Hid; omega
    have D_x_vv : Hid (bx < bvv) := by have h := Ux.out.2.2; unfold Hid; omega
    have D_sy_vv : Hid (bsy < bvv) := by have h := Usy.out.2.2; unfold Hid; omega
    have D_yy_vv : Hid (byy < bvv) := by have h := Uyy.out.2.2; unfold Hid; omega
    have D_v_vv : Hid (bv < bvv) := by have h := Uv.out.2.2; unfold Hid; omega
    have D_u_vv : Hid (bu < bvv) := by have h := Uu.out.2.2; unfold Hid; omega
    have D_p_vv : Hid (bp < bvv) := by have h := Up.out.2.2; unfold Hid; omega
    have D_q_vv : Hid (bq < bvv) := by have h := Uq.out.2.2; unfold Hid; omega
    have ZBvv : Hid (w.heap.size ≤ bvv) := by have h := BB.out.size; unfold Hid; omega
    replace Uss := hide (Uss.out.later bzvv)
    replace Ux := hide (Ux.out.later bzvv)
    replace Usy := hide (Usy.out.later bzvv)
    replace Uyy := hide (Uyy.out.later bzvv)
    replace Uv := hide (Uv.out.later bzvv)
    replace Uu := hide (Uu.out.later bzvv)
    replace Up := hide (Up.out.later bzvv)
    replace Uq := hide (Uq.out.later bzvv)
    replace BB := hide (later BB.out bzvv)
    have Uvv : Hid (Box wv47 bvv Xvv) := ⟨ccvv, ffvv, lzvv⟩
    have CUvv := hide cuvv
    have FUvv := hide fuvv
    have huvv' := huvv.symm
    simp only [zVdL, zVd, zCt, Vd.cells] at huvv'
    have hwvv' := hwvv.symm
    have hbvv' := hbvv.symm
    clear hXvv huvv hwvv cuvv fuvv ccvv bzvv lzvv hbvv ffvv
    go_upto_region 30 with (refine wpList_storeA rfl 32 18 sizVd _ _ rfl bvv 0 rfl Xvv zVdL rfl LXvv.out rfl CUvv.out FUvv.out OXvv.out ?_; intro hcs; clear hcs; rw [hwvv'])
    clear huvv' hwvv' hbvv' CUvv FUvv OXvv
    have k1 : wv47.cell? ⟨bvv, 12, none⟩ = some (.int .i64 (judge (mO f g wnd ((g + 1) % 4294967296)) s).en) := by have h := Uvv.out.1 12 (.int .i64 (judge (mO f g wnd ((g + 1) % 4294967296)) s).en) (by rw [EXvv.out]; rfl); rw [Nat.zero_add] at h; exact h
    have k2 : wv47.cell? ⟨bss, 2, none⟩ = some (.int .u32 s.seq) := by have h := Uss.out.1 2 (.int .u32 s.seq) (by rw [EXss.out]; rfl); rw [Nat.zero_add] at h; exact h
    have k3 : wv47.cell? ⟨bx, 9, none⟩ = some (.int .u32 ((g + 1) % 4294967296)) := by have h := Ux.out.1 9 (.int .u32 ((g + 1) % 4294967296)) (by rw [EXx.out]; rfl); rw [Nat.zero_add] at h; exact h
    by_cases hq : s.seq = ((g + 1) % 4294967296)
    · by_cases he : (judge (mO f g wnd ((g + 1) % 4294967296)) s).en = 0
      · rw [he] at k1
        go_wp2
        go_ret
        exact ⟨rfl, BB.out⟩
      · have q1 : ((judge (mO f g wnd ((g + 1) % 4294967296)) s).en == 0) = false := by simpa using he
        have q2 : (s.seq == ((g + 1) % 4294967296)) = true := by simpa using hq
        obtain ⟨en, hen⟩ : ∃ en, en = (judge (mO f g wnd ((g + 1) % 4294967296)) s).en := ⟨_, rfl⟩
        rw [← hen] at k1 q1
        clear hen he hq
        go_wp2
        go_ret
        exact ⟨rfl, BB.out⟩
    · have he : (judge (mO f g wnd ((g + 1) % 4294967296)) s).en = 0 := judge_wild rfl hq
      rw [he] at k1
      go_wp2
      go_ret
      exact ⟨rfl, BB.out⟩
end Go.Proofs.Ytgdcdgofahhfdaa
