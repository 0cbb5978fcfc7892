
/-
  CoreCloses: the walk.
-/
import Derived.Test.YtgdcdgofahhfdaaO18
namespace Go.Proofs.Ytgdcdgofahhfdaa
open Go.RowKit Go.Shelf

set_option maxRecDepth 100000 in
set_option maxHeartbeats 32000000 in
theorem closes_walk (a b : Int) (both : Bool) (w : World) (_ : -9223372036854775808 ≤ a) (_ : a ≤ 9223372036854775807) (_ : -9223372036854775808 ≤ b) (_ : b ≤ 9223372036854775807) :
    Calls Try.prog 8 #[.int .i64 a, .int .i64 b, .bool both] w fun e w' => e = .returned (.bool true) ∧ Below w.heap.size w w' := by
  obtain ⟨f, hf⟩ : ∃ f, f = fst32 a := ⟨_, rfl⟩
  obtain ⟨g, hg⟩ : ∃ g, g = fst32 b := ⟨_, rfl⟩
  obtain ⟨p, hp⟩ : ∃ p, p = (f + 1) % 4294967296 := ⟨_, rfl⟩
  obtain ⟨q, hq⟩ : ∃ q, q = (g + 1) % 4294967296 := ⟨_, rfl⟩
  obtain ⟨p2, hp2⟩ : ∃ p2, p2 = (p + 1) % 4294967296 := ⟨_, rfl⟩
  obtain ⟨q2, hq2⟩ : ∃ q2, q2 = (q + 1) % 4294967296 := ⟨_, rfl⟩
  obtain ⟨pa, hpa⟩ : ∃ pa, pa = (p + 100) % 4294967296 := ⟨_, rfl⟩
  obtain ⟨qa, hqa⟩ : ∃ qa, qa = (q + 100) % 4294967296 := ⟨_, rfl⟩
  have ip : 0 ≤ p ∧ p < 4294967296 := by omega
  have iq : 0 ≤ q ∧ q < 4294967296 := by omega
  have ig : 0 ≤ g ∧ g < 4294967296 := by rw [hg]; unfold fst32; omega
  have hl : 0 < dif q g := by rw [hq, d_up ig]; decide
  have zp : (p2 - 1) % 4294967296 = p := by omega
  have zq : (q2 - 1) % 4294967296 = q := by omega
  have o1 : Hid (cO f g g = ⟨3, f, p, p, false, 9, g, p, g, q, qa⟩) := by rw [hqa, hp, hq]; exact rfl
  have o2 : Hid (cO g f ((f + 1) % 4294967296) = ⟨3, g, q, q, false, 9, p, q, f, p, pa⟩) := by rw [hpa, hp, hq]; exact rfl
  have j2x : Hid (judge (⟨4, f, p, p2, true, 9, g, p, g, q, qa⟩ : Ct) (mF q p) = (⟨⟨4, f, p, p2, true, 9, q, p, g, q, qa⟩, 0, 0, false, false, 0, 0, true⟩ : Vd)) := by rw [hp2, hqa]; exact c2 ip iq hl
  have j2y : Hid (judge (⟨4, g, q, q2, true, 9, p, q, f, p, pa⟩ : Ct) (mF p q) = (⟨⟨4, g, q, q2, true, 9, p, q, f, p, pa⟩, 0, 0, false, false, 0, 0, true⟩ : Vd)) := by rw [hq2, hpa]; exact c2b iq ip
  have j3x : Hid (judge (⟨7, f, p, p2, true, 9, q, p, g, q2, qa⟩ : Ct) (mA q2 p2 9) = (⟨⟨9, f, p2, p2, true, 9, q2, p2, g, q2, qa⟩, 0, 0, true, false, 0, 0, false⟩ : Vd)) := by rw [hp2, hq2, hqa]; exact c3 ip iq
  have j3y : Hid (judge (⟨7, g, q, q2, true, 9, p, q, f, p2, pa⟩ : Ct) (mA p2 q2 9) = (⟨⟨9, g, q2, q2, true, 9, p2, q2, f, p2, pa⟩, 0, 0, true, false, 0, 0, false⟩ : Vd)) := by rw [hp2, hq2, hpa]; exact c3 iq ip
  have j4 : Hid (judge (⟨3, g, q, q, false, 9, p, q, f, p, pa⟩ : Ct) (mF p q) = (⟨⟨3, g, q, q, false, 9, p, q, f, p, pa⟩, 0, 0, false, false, 0, 0, true⟩ : Vd)) := by rw [hpa]; exact c4 iq ip
  have j5 : Hid (judge (⟨4, f, p, p2, true, 9, g, p, g, q, qa⟩ : Ct) (mA q p2 9) = (⟨⟨5, f, p2, p2, true, 9, q, p2, g, q, qa⟩, 0, 0, true, false, 0, 0, false⟩ : Vd)) := by rw [hp2, hqa]; exact c5 ip iq hl
  have j6 : Hid (judge (⟨5, f, p2, p2, true, 9, q, p2, g, q, qa⟩ : Ct) (mF q p2) = (⟨⟨5, f, p2, p2, true, 9, q, p2, g, q, qa⟩, 0, 0, false, false, 0, 0, true⟩ : Vd)) := by rw [hp2, hqa]; exact c6 ip iq
  have j7 : Hid ((judge (⟨8, g, q, q2, true, 9, p, q, f, p2, pa⟩ : Ct) (mA p2 q2 9)).en = 218) := by rw [hp2, hq2, hpa]; exact c7 iq ip
  have n1 : Hid (endC (⟨4, f, p, p2, true, 9, q, p, g, q, qa⟩ : Ct) = ⟨7, f, p, p2, true, 9, q, p, g, q2, qa⟩) := by rw [hqa, hq2]; exact e1 iq
  have n2 : Hid (endC (⟨4, g, q, q2, true, 9, p, q, f, p, pa⟩ : Ct) = ⟨7, g, q, q2, true, 9, p, q, f, p2, pa⟩) := by rw [hpa, hp2]; exact e1 ip
  have n3 : Hid (endC (⟨3, g, q, q, false, 9, p, q, f, p, pa⟩ : Ct) = ⟨6, g, q, q, false, 9, p, q, f, p2, pa⟩) := by rw [hpa, hp2]; exact e2 ip
  have n4 : Hid (endC (⟨5, f, p2, p2, true, 9, q, p2, g, q, qa⟩ : Ct) = ⟨9, f, p2, p2, true, 9, q, p2, g, q2, qa⟩) := by rw [hqa, hq2]; exact e3 iq
  have t1 : Hid (shutC (⟨3, f, p, p, false, 9, g, p, g, q, qa⟩ : Ct) = ⟨4, f, p, p2, true, 9, g, p, g, q, qa⟩ ∧ shutE (⟨3, f, p, p, false, 9, g, p, g, q, qa⟩ : Ct) = 0) := by rw [hp2]; exact sh1 rfl rfl
  have t2 : Hid (shutC (⟨3, g, q, q, false, 9, p, q, f, p, pa⟩ : Ct) = ⟨4, g, q, q2, true, 9, p, q, f, p, pa⟩ ∧ shutE (⟨3, g, q, q, false, 9, p, q, f, p, pa⟩ : Ct) = 0) := by rw [hq2]; exact sh1 rfl rfl
  have t3 : Hid (shutC (⟨6, g, q, q, false, 9, p, q, f, p2, pa⟩ : Ct) = ⟨8, g, q, q2, true, 9, p, q, f, p2, pa⟩ ∧ shutE (⟨6, g, q, q, false, 9, p, q, f, p2, pa⟩ : Ct) = 0) := by rw [hq2]; exact sh2 rfl rfl
  have OP : Hid (∀ W, Calls Try.prog 23 #[.int .i64 a, .int .i64 b] W fun e w' => e = .returned (.tuple #[.agg (⟨3, f, p, p, false, 9, g, p, g, q, qa⟩ : Ct).cells.toArray, .agg (⟨3, g, q, q, false, 9, p, q, f, p, pa⟩ : Ct).cells.toArray, .bool true]) ∧ Below W.heap.size W w') := fun W => by
    have h := opened_any a b W
    rw [← hf, ← hg, o1.out, o2.out] at h
    exact h
  clear hf hg hp hq hp2 hq2 hpa hqa ip iq ig hl o1 o2
  go_enter Try.func8, Try.ntmps8
  go_wp2_with fail
  refine (cAwake_any w).mono ?_
  rintro _ wv1 ⟨rfl, bz⟩
  have BB : Hid (Below w.heap.size w wv1) := bz
  clear bz
  go_wp2_with fail
  refine (OP.out wv1).mono ?_
  rintro _ wv2 ⟨rfl, bz⟩
  replace BB := hide (later BB.out bz)
  clear bz
  clear OP
  obtain ⟨Xx, hXx⟩ : ∃ X, X = (⟨3, f, p, p, false, 9, g, p, g, q, qa⟩ : Ct).cells := ⟨_, rfl⟩
  obtain ⟨Xyy, hXyy⟩ : ∃ X, X = (⟨3, g, q, q, false, 9, p, q, f, p, pa⟩ : Ct).cells := ⟨_, rfl⟩
  have LXx : Hid (Xx.length = 11) := by rw [hXx]; exact rfl
  have LXyy : Hid (Xyy.length = 11) := by rw [hXyy]; exact rfl
  have OXx : Hid (∀ u ∈ Xx, u.oneCell' = true) := by rw [hXx]; exact ct_one _
  have OXyy : Hid (∀ u ∈ Xyy, u.oneCell' = true) := by rw [hXyy]; exact ct_one _
  rw [← hXx, ← hXyy]
  have EXx := hide hXx
  have EXyy := hide hXyy
  obtain ⟨v1, bx, hbx, hv1, k1, f1, b1, l1⟩ := boxC wv2 zCt
  obtain ⟨v2, byy, hby, hv2, k2, f2, b2, l2⟩ := boxC v1 zCt
  obtain ⟨v3, hv3⟩ : ∃ v, v = v2.setCells bx 0 Xx := ⟨_, rfl⟩
  obtain ⟨v4, hv4⟩ : ∃ v, v = v3.setCells byy 0 Xyy := ⟨_, rfl⟩
  have D_x_yy : Hid (bx < byy) := by unfold Hid; omega
  have ZBx : Hid (w.heap.size ≤ bx) := by have h := BB.out.size; unfold Hid; omega
  have ZByy : Hid (w.heap.size ≤ byy) := by have h := BB.out.size; have := b1.size; unfold Hid; omega
  have bz2 : Box v2 bx zCt.cells := Box.later (W := v1) ⟨k1, f1, l1⟩ b2
  have cz2 : Box v2 byy zCt.cells := ⟨k2, f2, l2⟩
  have bo3 : But (Only bx) v2 v3 := by rw [hv3]; exact But.cells bx Xx 0 v2
  have bo4 : But (Only byy) v3 v4 := by rw [hv4]; exact But.cells byy Xyy 0 v3
  have bz3 : Box v3 bx Xx := by rw [hv3]; exact bz2.all (by rw [LXx.out]; rfl)
  have cz3 : Box v3 byy zCt.cells := cz2.but bo3 (fun e => by have e : byy = bx := e; have := D_x_yy.out; omega)
  have Ux : Hid (Box v4 bx Xx) := bz3.but bo4 (fun e => by have e : bx = byy := e; have := D_x_yy.out; omega)
  have Uyy : Hid (Box v4 byy Xyy) := by rw [hv4]; exact cz3.all (by rw [LXyy.out]; rfl)
  replace BB : Hid (Below w.heap.size w v4) := by
    have h1 := later BB.out (later b1 b2)
    have h2 := h1.trans (bo3.below h1.size (fun g hg e => by have e : g = bx := e; have := ZBx.out; omega))
    exact h2.trans (bo4.below h2.size (fun g hg e => by have e : g = byy := e; have := ZByy.out; omega))
  have hv1' := hv1.symm
  have hbx' := hbx.symm
  have hv2' := hv2.symm
  have hby' := hby.symm
  have hv3' := hv3.symm
  have hv4' := hv4.symm
  simp only [zCt] at hv1' hv2'
  have CA := hide bz2.1
  have FA := hide bz2.2.1
  have CB := hide cz3.1
  have FB := hide cz3.2.1
  clear hXx hXyy hbx hv1 k1 f1 b1 l1 hby hv2 k2 f2 b2 l2 hv3 hv4 bz2 cz2 bo3 bo4 bz3 cz3
  go_upto_region 3 with (first | (refine wpList_storeA rfl 24 11 sizCt _ _ rfl bx 0 rfl Xx zCt.cells rfl LXx.out rfl CA.out FA.out OXx.out ?_; intro hcs; clear hcs; rw [hv3']) | (refine wpList_storeA rfl 24 11 sizCt _ _ rfl byy 0 rfl Xyy zCt.cells rfl LXyy.out rfl CB.out FB.out OXyy.out ?_; intro hcs; clear hcs; rw [hv4']))
  clear hv1' hbx' hv2' hby' hv3' hv4' CA FA CB FB OXx OXyy
  go_upto_region 5 with fail
  have CN := Shut_any (⟨3, f, p, p, false, 9, g, p, g, q, qa⟩ : Ct) v4
  rw [t1.out.1, t1.out.2, ← EXx.out] at CN
  have HCN := hide CN
  clear CN
  go_wp2_with (refine wpList_loadA rfl 24 11 aggCt sizCt _ rfl bx 0 rfl Xx LXx.out Ux.out.1 ?_)
  refine HCN.out.mono ?_
  rintro _ wv3 ⟨rfl, bz⟩
  replace Ux := hide (Ux.out.later bz)
  replace Uyy := hide (Uyy.out.later bz)
  replace BB := hide (later BB.out bz)
  clear bz
  clear HCN
  obtain ⟨Y5, hY⟩ : ∃ X, X = (⟨4, f, p, p2, true, 9, g, p, g, q, qa⟩ : Ct).cells := ⟨_, rfl⟩
  have LY : Hid (Y5.length = 11) := by rw [hY]; exact rfl
  have OY : Hid (∀ u ∈ Y5, u.oneCell' = true) := by rw [hY]; exact ct_one _
  obtain ⟨wv4, hwo⟩ : ∃ w1, w1 = wv3.setCells bx 0 Y5 := ⟨_, rfl⟩
  have bo : But (Only bx) wv3 wv4 := by rw [hwo]; exact But.cells bx Y5 0 wv3
  have CO := hide Ux.out.1
  have FO := hide Ux.out.2.1
  have LO := LXx
  have U1 : Hid (Box wv4 bx Y5) := by rw [hwo]; exact Ux.out.all (by rw [LY.out, LXx.out])
  replace Uyy := hide (Uyy.out.but bo (fun e => by have e : byy = bx := e; have := D_x_yy.out; omega))
  replace BB : Hid (Below w.heap.size w wv4) := BB.out.trans (bo.below BB.out.size (fun g hg e => by have e : g = bx := e; have := ZBx.out; omega))
  have EY := hide hY
  have hwo' := hwo.symm
  clear hwo bo hY Ux LXx EXx
  rw [← EY.out]
  go_upto_region 6 with (refine wpList_storeA rfl 24 11 sizCt _ _ rfl bx 0 rfl Y5 Xx rfl LY.out LO.out CO.out FO.out OY.out ?_; intro hcs; clear hcs; rw [hwo'])
  clear hwo' CO FO LO OY
  try clear Xx
  obtain ⟨Xx, hXX⟩ : ∃ X, X = Y5 := ⟨_, rfl⟩
  subst hXX
  have Ux := U1
  have LXx := LY
  have EXx := EY
  clear U1 LY EY
  have k1 : wv4.cell? ⟨bx, 3, none⟩ = some (.int .u32 p2) := by have h := Ux.out.1 3 (.int .u32 p2) (by rw [EXx.out]; rfl); rw [Nat.zero_add] at h; exact h
  have k2 : wv4.cell? ⟨bx, 9, none⟩ = some (.int .u32 q) := by have h := Ux.out.1 9 (.int .u32 q) (by rw [EXx.out]; rfl); rw [Nat.zero_add] at h; exact h
  obtain ⟨Xfi, hXfi⟩ : ∃ X, X = (mF p q).cells (.slice none 0 0) (.slice none 0 0) := ⟨_, rfl⟩
  have LXfi : Hid (Xfi.length = 10) := by rw [hXfi]; exact rfl
  have OXfi : Hid (∀ u ∈ Xfi, u.oneCell' = true) := by rw [hXfi]; exact sg_one1 _ _ _ rfl rfl
  try rw [← hXfi]
  obtain ⟨uv8, wv7, hufi, hwfi, cufi, fufi, ccfi, bzfi, lzfi, fffi⟩ := newSg wv4 Xfi LXfi.out
  obtain ⟨bfi, hbfi⟩ : ∃ b, b = wv4.heap.size := ⟨_, rfl⟩
  rw [← hbfi] at hwfi cufi fufi ccfi lzfi fffi
  have EXfi := hide hXfi
  have D_x_fi : Hid (bx < bfi) := by have h := Ux.out.2.2; unfold Hid; omega
  have D_yy_fi : Hid (byy < bfi) := by have h := Uyy.out.2.2; unfold Hid; omega
  have ZBfi : Hid (w.heap.size ≤ bfi) := by have h := BB.out.size; unfold Hid; omega
  replace Ux := hide (Ux.out.later bzfi)
  replace Uyy := hide (Uyy.out.later bzfi)
  replace BB := hide (later BB.out bzfi)
  have Ufi : Hid (Box wv7 bfi Xfi) := ⟨ccfi, fffi, lzfi⟩
  have CUfi := hide cufi
  have FUfi := hide fufi
  have hufi' := hufi.symm
  simp only [zSg0, Sg.cells] at hufi'
  have hwfi' := hwfi.symm
  have hbfi' := hbfi.symm
  clear hXfi hufi hwfi cufi fufi ccfi bzfi lzfi hbfi fffi
  have EV : Hid (Value.agg #[.int .i64 0, .int .i64 0, .int .u32 p, .int .u32 q, .int .i64 17, .int .i64 9, .int .i64 0, .bool false, .slice none 0 0, .slice none 0 0] = .agg Xfi.toArray) := by rw [EXfi.out]; exact rfl
  go_upto_region 7 with (refine wpList_storeA rfl 28 10 sizSg _ _ rfl bfi 0 rfl Xfi (zSg0.cells (.slice none 0 0) (.slice none 0 0)) EV.out LXfi.out rfl CUfi.out FUfi.out OXfi.out ?_; intro hcs; clear hcs; rw [hwfi'])
  clear hufi' hwfi' hbfi' CUfi FUfi OXfi
  clear EV k1 k2
  cases both with
  | true =>
    have CN := Shut_any (⟨3, g, q, q, false, 9, p, q, f, p, pa⟩ : Ct) wv7
    rw [t2.out.1, t2.out.2, ← EXyy.out] at CN
    have HCN := hide CN
    clear CN
    go_wp2_with (refine wpList_loadA rfl 24 11 aggCt sizCt _ rfl byy 0 rfl Xyy LXyy.out Uyy.out.1 ?_)
    refine HCN.out.mono ?_
    rintro _ wv9 ⟨rfl, bz⟩
    replace Ux := hide (Ux.out.later bz)
    replace Uyy := hide (Uyy.out.later bz)
    replace Ufi := hide (Ufi.out.later bz)
    replace BB := hide (later BB.out bz)
    clear bz
    clear HCN
    obtain ⟨Xz, hXz⟩ : ∃ X, X = (⟨4, g, q, q2, true, 9, p, q, f, p, pa⟩ : Ct).cells := ⟨_, rfl⟩
    have LXz : Hid (Xz.length = 11) := by rw [hXz]; exact rfl
    have OXz : Hid (∀ u ∈ Xz, u.oneCell' = true) := by rw [hXz]; exact ct_one _
    try rw [← hXz]
    obtain ⟨uv11, wv10, huz, hwz, cuz, fuz, ccz, bzz, lzz, ffz⟩ := newCt wv9 Xz LXz.out
    obtain ⟨bz, hbz⟩ : ∃ b, b = wv9.heap.size := ⟨_, rfl⟩
    rw [← hbz] at hwz cuz fuz ccz lzz ffz
    have EXz := hide hXz
    have D_x_z : Hid (bx < bz) := by have h := Ux.out.2.2; unfold Hid; omega
    have D_yy_z : Hid (byy < bz) := by have h := Uyy.out.2.2; unfold Hid; omega
    have D_fi_z : Hid (bfi < bz) := by have h := Ufi.out.2.2; unfold Hid; omega
    have ZBz : Hid (w.heap.size ≤ bz) := by have h := BB.out.size; unfold Hid; omega
    replace Ux := hide (Ux.out.later bzz)
    replace Uyy := hide (Uyy.out.later bzz)
    replace Ufi := hide (Ufi.out.later bzz)
    replace BB := hide (later BB.out bzz)
    have Uz : Hid (Box wv10 bz Xz) := ⟨ccz, ffz, lzz⟩
    have CUz := hide cuz
    have FUz := hide fuz
    have huz' := huz.symm
    simp only [zCtL, zCt, Ct.cells] at huz'
    have hwz' := hwz.symm
    have hbz' := hbz.symm
    clear hXz huz hwz cuz fuz ccz bzz lzz hbz ffz
    go_upto_region 9 with (refine wpList_storeA rfl 24 11 sizCt _ _ rfl bz 0 rfl Xz zCtL rfl LXz.out rfl CUz.out FUz.out OXz.out ?_; intro hcs; clear hcs; rw [hwz'])
    clear huz' hwz' hbz' CUz FUz OXz
    have UZ0 := hide Uz.out.1
    obtain ⟨Y13, hY⟩ : ∃ X, X = (⟨4, g, q, q2, true, 9, p, q, f, p, pa⟩ : Ct).cells := ⟨_, rfl⟩
    have LY : Hid (Y13.length = 11) := by rw [hY]; exact rfl
    have OY : Hid (∀ u ∈ Y13, u.oneCell' = true) := by rw [hY]; exact ct_one _
    obtain ⟨wv12, hwo⟩ : ∃ w1, w1 = wv10.setCells byy 0 Y13 := ⟨_, rfl⟩
    have bo : But (Only byy) wv10 wv12 := by rw [hwo]; exact But.cells byy Y13 0 wv10
    have CO := hide Uyy.out.1
    have FO := hide Uyy.out.2.1
    have LO := LXyy
    have U1 : Hid (Box wv12 byy Y13) := by rw [hwo]; exact Uyy.out.all (by rw [LY.out, LXyy.out])
    replace Ux := hide (Ux.out.but bo (fun e => by have e : bx = byy := e; have := D_x_yy.out; omega))
    replace Ufi := hide (Ufi.out.but bo (fun e => by have e : bfi = byy := e; have := D_yy_fi.out; omega))
    replace Uz := hide (Uz.out.but bo (fun e => by have e : bz = byy := e; have := D_yy_z.out; omega))
    replace BB : Hid (Below w.heap.size w wv12) := BB.out.trans (bo.below BB.out.size (fun g hg e => by have e : g = byy := e; have := ZByy.out; omega))
    have EY := hide hY
    have hwo' := hwo.symm
    clear hwo bo hY Uyy LXyy EXyy
    have UZ : Hid (CellsAt wv10 bz 0 Y13) := by rw [show Y13 = Xz from by rw [EXz.out, EY.out]]; exact UZ0.out
    go_upto_region 10 with (first | refine wpList_loadA rfl 24 11 aggCt sizCt _ rfl bz 0 rfl Y13 LY.out UZ.out ?_ | (refine wpList_storeA rfl 24 11 sizCt _ _ rfl byy 0 rfl Y13 Xyy rfl LY.out LO.out CO.out FO.out OY.out ?_; intro hcs; clear hcs; rw [hwo']))
    clear UZ UZ0
    clear hwo' CO FO LO OY
    try clear Xyy
    obtain ⟨Xyy, hXX⟩ : ∃ X, X = Y13 := ⟨_, rfl⟩
    subst hXX
    have Uyy := U1
    have LXyy := LY
    have EXyy := EY
    clear U1 LY EY
    have k1 : wv12.cell? ⟨byy, 3, none⟩ = some (.int .u32 q2) := by have h := Uyy.out.1 3 (.int .u32 q2) (by rw [EXyy.out]; rfl); rw [Nat.zero_add] at h; exact h
    have k2 : wv12.cell? ⟨byy, 9, none⟩ = some (.int .u32 p) := by have h := Uyy.out.1 9 (.int .u32 p) (by rw [EXyy.out]; rfl); rw [Nat.zero_add] at h; exact h
    obtain ⟨Xot, hXot⟩ : ∃ X, X = (mF q p).cells (.slice none 0 0) (.slice none 0 0) := ⟨_, rfl⟩
    have LXot : Hid (Xot.length = 10) := by rw [hXot]; exact rfl
    have OXot : Hid (∀ u ∈ Xot, u.oneCell' = true) := by rw [hXot]; exact sg_one1 _ _ _ rfl rfl
    try rw [← hXot]
    obtain ⟨uv16, wv15, huot, hwot, cuot, fuot, ccot, bzot, lzot, ffot⟩ := newSg wv12 Xot LXot.out
    obtain ⟨bot, hbot⟩ : ∃ b, b = wv12.heap.size := ⟨_, rfl⟩
    rw [← hbot] at hwot cuot fuot ccot lzot ffot
    have EXot := hide hXot
    have D_x_ot : Hid (bx < bot) := by have h := Ux.out.2.2; unfold Hid; omega
    have D_yy_ot : Hid (byy < bot) := by have h := Uyy.out.2.2; unfold Hid; omega
    have D_fi_ot : Hid (bfi < bot) := by have h := Ufi.out.2.2; unfold Hid; omega
    have D_z_ot : Hid (bz < bot) := by have h := Uz.out.2.2; unfold Hid; omega
    have ZBot : Hid (w.heap.size ≤ bot) := by have h := BB.out.size; unfold Hid; omega
    replace Ux := hide (Ux.out.later bzot)
    replace Uyy := hide (Uyy.out.later bzot)
    replace Ufi := hide (Ufi.out.later bzot)
    replace Uz := hide (Uz.out.later bzot)
    replace BB := hide (later BB.out bzot)
    have Uot : Hid (Box wv15 bot Xot) := ⟨ccot, ffot, lzot⟩
    have CUot := hide cuot
    have FUot := hide fuot
    have huot' := huot.symm
    simp only [zSg0, Sg.cells] at huot'
    have hwot' := hwot.symm
    have hbot' := hbot.symm
    clear hXot huot hwot cuot fuot ccot bzot lzot hbot ffot
    have EV : Hid (Value.agg #[.int .i64 0, .int .i64 0, .int .u32 q, .int .u32 p, .int .i64 17, .int .i64 9, .int .i64 0, .bool false, .slice none 0 0, .slice none 0 0] = .agg Xot.toArray) := by rw [EXot.out]; exact rfl
    go_upto_region 11 with (refine wpList_storeA rfl 28 10 sizSg _ _ rfl bot 0 rfl Xot (zSg0.cells (.slice none 0 0) (.slice none 0 0)) EV.out LXot.out rfl CUot.out FUot.out OXot.out ?_; intro hcs; clear hcs; rw [hwot'])
    clear huot' hwot' hbot' CUot FUot OXot
    clear EV k1 k2
    have JD := Judge_any (gv := .slice none 0 0) (da := none) (dc := 0) (s := mF q p) (⟨4, f, p, p2, true, 9, g, p, g, q, qa⟩ : Ct) rfl (Nat.zero_le _) wv15
    rw [j2x.out] at JD
    rw [show (Value.slice none (mF q p).dat.length 0) = .slice none 0 0 from rfl, ← EXot.out] at JD
    rw [← EXx.out] at JD
    have HJD := hide JD
    clear JD
    go_wp2_with (first | refine wpList_loadA rfl 24 11 aggCt sizCt _ rfl bx 0 rfl Xx LXx.out Ux.out.1 ?_ | refine wpList_loadA rfl 28 10 aggSg sizSg _ rfl bot 0 rfl Xot LXot.out Uot.out.1 ?_)
    refine HJD.out.mono ?_
    rintro _ wv17 ⟨rfl, bz⟩
    replace Ux := hide (Ux.out.later bz)
    replace Uyy := hide (Uyy.out.later bz)
    replace Ufi := hide (Ufi.out.later bz)
    replace Uz := hide (Uz.out.later bz)
    replace Uot := hide (Uot.out.later bz)
    replace BB := hide (later BB.out bz)
    clear bz
    clear HJD
    obtain ⟨Xp, hXp⟩ : ∃ X, X = (⟨⟨4, f, p, p2, true, 9, q, p, g, q, qa⟩, 0, 0, false, false, 0, 0, true⟩ : Vd).cells := ⟨_, rfl⟩
    have LXp : Hid (Xp.length = 18) := by rw [hXp]; exact rfl
    have OXp : Hid (∀ u ∈ Xp, u.oneCell' = true) := by rw [hXp]; exact vd_one _
    try rw [← hXp]
    obtain ⟨uv19, wv18, hup, hwp, cup, fup, ccp, bzp, lzp, ffp⟩ := newVd wv17 Xp LXp.out
    obtain ⟨bp, hbp⟩ : ∃ b, b = wv17.heap.size := ⟨_, rfl⟩
    rw [← hbp] at hwp cup fup ccp lzp ffp
    have EXp := hide hXp
    have D_x_p : Hid (bx < bp) := by have h := Ux.out.2.2; unfold Hid; omega
    have D_yy_p : Hid (byy < bp) := by have h := Uyy.out.2.2; unfold Hid; omega
    have D_fi_p : Hid (bfi < bp) := by have h := Ufi.out.2.2; unfold Hid; omega
    have D_z_p : Hid (bz < bp) := by have h := Uz.out.2.2; unfold Hid; omega
    have D_ot_p : Hid (bot < bp) := by have h := Uot.out.2.2; unfold Hid; omega
    have ZBp : Hid (w.heap.size ≤ bp) := by have h := BB.out.size; unfold Hid; omega
    replace Ux := hide (Ux.out.later bzp)
    replace Uyy := hide (Uyy.out.later bzp)
    replace Ufi := hide (Ufi.out.later bzp)
    replace Uz := hide (Uz.out.later bzp)
    replace Uot := hide (Uot.out.later bzp)
    replace BB := hide (later BB.out bzp)
    have Up : Hid (Box wv18 bp Xp) := ⟨ccp, ffp, lzp⟩
    have CUp := hide cup
    have FUp := hide fup
    have hup' := hup.symm
    simp only [zVdL, zVd, zCt, Vd.cells] at hup'
    have hwp' := hwp.symm
    have hbp' := hbp.symm
    clear hXp hup hwp cup fup ccp bzp lzp hbp ffp
    go_upto_region 12 with (refine wpList_storeA rfl 32 18 sizVd _ _ rfl bp 0 rfl Xp zVdL rfl LXp.out rfl CUp.out FUp.out OXp.out ?_; intro hcs; clear hcs; rw [hwp'])
    clear hup' hwp' hbp' CUp FUp OXp
    have JD := Judge_any (gv := .slice none 0 0) (da := none) (dc := 0) (s := mF p q) (⟨4, g, q, q2, true, 9, p, q, f, p, pa⟩ : Ct) rfl (Nat.zero_le _) wv18
    rw [j2y.out] at JD
    rw [show (Value.slice none (mF p q).dat.length 0) = .slice none 0 0 from rfl, ← EXfi.out] at JD
    rw [← EXyy.out] at JD
    have HJD := hide JD
    clear JD
    go_wp2_with (first | refine wpList_loadA rfl 24 11 aggCt sizCt _ rfl byy 0 rfl Xyy LXyy.out Uyy.out.1 ?_ | refine wpList_loadA rfl 28 10 aggSg sizSg _ rfl bfi 0 rfl Xfi LXfi.out Ufi.out.1 ?_)
    refine HJD.out.mono ?_
    rintro _ wv20 ⟨rfl, bz⟩
    replace Ux := hide (Ux.out.later bz)
    replace Uyy := hide (Uyy.out.later bz)
    replace Ufi := hide (Ufi.out.later bz)
    replace Uz := hide (Uz.out.later bz)
    replace Uot := hide (Uot.out.later bz)
    replace Up := hide (Up.out.later bz)
    replace BB := hide (later BB.out bz)
    clear bz
    clear HJD
    obtain ⟨Xq, hXq⟩ : ∃ X, X = (⟨⟨4, g, q, q2, true, 9, p, q, f, p, pa⟩, 0, 0, false, false, 0, 0, true⟩ : Vd).cells := ⟨_, rfl⟩
    have LXq : Hid (Xq.length = 18) := by rw [hXq]; exact rfl
    have OXq : Hid (∀ u ∈ Xq, u.oneCell' = true) := by rw [hXq]; exact vd_one _
    try rw [← hXq]
    obtain ⟨uv22, wv21, huq, hwq, cuq, fuq, ccq, bzq, lzq, ffq⟩ := newVd wv20 Xq LXq.out
    obtain ⟨bq, hbq⟩ : ∃ b, b = wv20.heap.size := ⟨_, rfl⟩
    rw [← hbq] at hwq cuq fuq ccq lzq ffq
    have EXq := hide hXq
    have D_x_q : Hid (bx < bq) := by have h := Ux.out.2.2; unfold Hid; omega
    have D_yy_q : Hid (byy < bq) := by have h := Uyy.out.2.2; unfold Hid; omega
    have D_fi_q : Hid (bfi < bq) := by have h := Ufi.out.2.2; unfold Hid; omega
    have D_z_q : Hid (bz < bq) := by have h := Uz.out.2.2; unfold Hid; omega
    have D_ot_q : Hid (bot < bq) := by have h := Uot.out.2.2; unfold Hid; omega
    have D_p_q : Hid (bp < bq) := by have h := Up.out.2.2; unfold Hid; omega
    have ZBq : Hid (w.heap.size ≤ bq) := by have h := BB.out.size; unfold Hid; omega
    replace Ux := hide (Ux.out.later bzq)
    replace Uyy := hide (Uyy.out.later bzq)
    replace Ufi := hide (Ufi.out.later bzq)
    replace Uz := hide (Uz.out.later bzq)
    replace Uot := hide (Uot.out.later bzq)
    replace Up := hide (Up.out.later bzq)
    replace BB := hide (later BB.out bzq)
    have Uq : Hid (Box wv21 bq Xq) := ⟨ccq, ffq, lzq⟩
    have CUq := hide cuq
    have FUq := hide fuq
    have huq' := huq.symm
    simp only [zVdL, zVd, zCt, Vd.cells] at huq'
    have hwq' := hwq.symm
    have hbq' := hbq.symm
    clear hXq huq hwq cuq fuq ccq bzq lzq hbq ffq
    go_upto_region 13 with (refine wpList_storeA rfl 32 18 sizVd _ _ rfl bq 0 rfl Xq zVdL rfl LXq.out rfl CUq.out FUq.out OXq.out ?_; intro hcs; clear hcs; rw [hwq'])
    clear huq' hwq' hbq' CUq FUq OXq
    have k1 : wv21.cell? ⟨bp, 17, none⟩ = some (.bool true) := by have h := Up.out.1 17 (.bool true) (by rw [EXp.out]; rfl); rw [Nat.zero_add] at h; exact h
    have k2 : wv21.cell? ⟨bq, 17, none⟩ = some (.bool true) := by have h := Uq.out.1 17 (.bool true) (by rw [EXq.out]; rfl); rw [Nat.zero_add] at h; exact h
    go_upto_region 15 with fail
    clear k1 k2
    obtain ⟨NN, hNN⟩ : ∃ X, X = (⟨4, f, p, p2, true, 9, q, p, g, q, qa⟩ : Ct).cells := ⟨_, rfl⟩
    have LNN : Hid (NN.length = 11) := by rw [hNN]; exact rfl
    have UNN : Hid (CellsAt wv21 bp 0 NN) := by have h := Up.out.1; rw [EXp.out, Vd.parts] at h; rw [hNN]; exact (CellsAt.append.1 h).1
    have CN := Ended_any (⟨4, f, p, p2, true, 9, q, p, g, q, qa⟩ : Ct) wv21
    rw [n1.out, ← hNN] at CN
    have HCN := hide CN
    clear CN hNN
    go_wp2_with (refine wpList_loadA rfl 24 11 aggCt sizCt _ rfl bp 0 rfl NN LNN.out UNN.out ?_)
    clear UNN
    refine HCN.out.mono ?_
    rintro _ wv23 ⟨rfl, bz⟩
    replace Ux := hide (Ux.out.later bz)
    replace Uyy := hide (Uyy.out.later bz)
    replace Ufi := hide (Ufi.out.later bz)
    replace Uz := hide (Uz.out.later bz)
    replace Uot := hide (Uot.out.later bz)
    replace Up := hide (Up.out.later bz)
    replace Uq := hide (Uq.out.later bz)
    replace BB := hide (later BB.out bz)
    clear bz
    clear HCN
    obtain ⟨Y25, hY⟩ : ∃ X, X = (⟨7, f, p, p2, true, 9, q, p, g, q2, qa⟩ : Ct).cells := ⟨_, rfl⟩
    have LY : Hid (Y25.length = 11) := by rw [hY]; exact rfl
    have OY : Hid (∀ u ∈ Y25, u.oneCell' = true) := by rw [hY]; exact ct_one _
    obtain ⟨wv24, hwo⟩ : ∃ w1, w1 = wv23.setCells bx 0 Y25 := ⟨_, rfl⟩
    have bo : But (Only bx) wv23 wv24 := by rw [hwo]; exact But.cells bx Y25 0 wv23
    have CO := hide Ux.out.1
    have FO := hide Ux.out.2.1
    have LO := LXx
    have U1 : Hid (Box wv24 bx Y25) := by rw [hwo]; exact Ux.out.all (by rw [LY.out, LXx.out])
    replace Uyy := hide (Uyy.out.but bo (fun e => by have e : byy = bx := e; have := D_x_yy.out; omega))
    replace Ufi := hide (Ufi.out.but bo (fun e => by have e : bfi = bx := e; have := D_x_fi.out; omega))
    replace Uz := hide (Uz.out.but bo (fun e => by have e : bz = bx := e; have := D_x_z.out; omega))
    replace Uot := hide (Uot.out.but bo (fun e => by have e : bot = bx := e; have := D_x_ot.out; omega))
    replace Up := hide (Up.out.but bo (fun e => by have e : bp = bx := e; have := D_x_p.out; omega))
    replace Uq := hide (Uq.out.but bo (fun e => by have e : bq = bx := e; have := D_x_q.out; omega))
    replace BB : Hid (Below w.heap.size w wv24) := BB.out.trans (bo.below BB.out.size (fun g hg e => by have e : g = bx := e; have := ZBx.out; omega))
    have EY := hide hY
    have hwo' := hwo.symm
    clear hwo bo hY Ux LXx EXx
    rw [← EY.out]
    go_upto_region 16 with (refine wpList_storeA rfl 24 11 sizCt _ _ rfl bx 0 rfl Y25 Xx rfl LY.out LO.out CO.out FO.out OY.out ?_; intro hcs; clear hcs; rw [hwo'])
    clear hwo' CO FO LO OY
    try clear Xx
    obtain ⟨Xx, hXX⟩ : ∃ X, X = Y25 := ⟨_, rfl⟩
    subst hXX
    have Ux := U1
    have LXx := LY
    have EXx := EY
    clear U1 LY EY
    clear LNN
    obtain ⟨NN, hNN⟩ : ∃ X, X = (⟨4, g, q, q2, true, 9, p, q, f, p, pa⟩ : Ct).cells := ⟨_, rfl⟩
    have LNN : Hid (NN.length = 11) := by rw [hNN]; exact rfl
    have UNN : Hid (CellsAt wv24 bq 0 NN) := by have h := Uq.out.1; rw [EXq.out, Vd.parts] at h; rw [hNN]; exact (CellsAt.append.1 h).1
    have CN := Ended_any (⟨4, g, q, q2, true, 9, p, q, f, p, pa⟩ : Ct) wv24
    rw [n2.out, ← hNN] at CN
    have HCN := hide CN
    clear CN hNN
    go_wp2_with (refine wpList_loadA rfl 24 11 aggCt sizCt _ rfl bq 0 rfl NN LNN.out UNN.out ?_)
    clear UNN
    refine HCN.out.mono ?_
    rintro _ wv27 ⟨rfl, bz⟩
    replace Ux := hide (Ux.out.later bz)
    replace Uyy := hide (Uyy.out.later bz)
    replace Ufi := hide (Ufi.out.later bz)
    replace Uz := hide (Uz.out.later bz)
    replace Uot := hide (Uot.out.later bz)
    replace Up := hide (Up.out.later bz)
    replace Uq := hide (Uq.out.later bz)
    replace BB := hide (later BB.out bz)
    clear bz
    clear HCN
    obtain ⟨Y29, hY⟩ : ∃ X, X = (⟨7, g, q, q2, true, 9, p, q, f, p2, pa⟩ : Ct).cells := ⟨_, rfl⟩
    have LY : Hid (Y29.length = 11) := by rw [hY]; exact rfl
    have OY : Hid (∀ u ∈ Y29, u.oneCell' = true) := by rw [hY]; exact ct_one _
    obtain ⟨wv28, hwo⟩ : ∃ w1, w1 = wv27.setCells byy 0 Y29 := ⟨_, rfl⟩
    have bo : But (Only byy) wv27 wv28 := by rw [hwo]; exact But.cells byy Y29 0 wv27
    have CO := hide Uyy.out.1
    have FO := hide Uyy.out.2.1
    have LO := LXyy
    have U1 : Hid (Box wv28 byy Y29) := by rw [hwo]; exact Uyy.out.all (by rw [LY.out, LXyy.out])
    replace Ux := hide (Ux.out.but bo (fun e => by have e : bx = byy := e; have := D_x_yy.out; omega))
    replace Ufi := hide (Ufi.out.but bo (fun e => by have e : bfi = byy := e; have := D_yy_fi.out; omega))
    replace Uz := hide (Uz.out.but bo (fun e => by have e : bz = byy := e; have := D_yy_z.out; omega))
    replace Uot := hide (Uot.out.but bo (fun e => by have e : bot = byy := e; have := D_yy_ot.out; omega))
    replace Up := hide (Up.out.but bo (fun e => by have e : bp = byy := e; have := D_yy_p.out; omega))
    replace Uq := hide (Uq.out.but bo (fun e => by have e : bq = byy := e; have := D_yy_q.out; omega))
    replace BB : Hid (Below w.heap.size w wv28) := BB.out.trans (bo.below BB.out.size (fun g hg e => by have e : g = byy := e; have := ZByy.out; omega))
    have EY := hide hY
    have hwo' := hwo.symm
    clear hwo bo hY Uyy LXyy EXyy
    rw [← EY.out]
    go_upto_region 17 with (refine wpList_storeA rfl 24 11 sizCt _ _ rfl byy 0 rfl Y29 Xyy rfl LY.out LO.out CO.out FO.out OY.out ?_; intro hcs; clear hcs; rw [hwo'])
    clear hwo' CO FO LO OY
    try clear Xyy
    obtain ⟨Xyy, hXX⟩ : ∃ X, X = Y29 := ⟨_, rfl⟩
    subst hXX
    have Uyy := U1
    have LXyy := LY
    have EXyy := EY
    clear U1 LY EY
    clear LNN
    have k1 : wv28.cell? ⟨bx, 0, none⟩ = some (.int .i64 7) := by have h := Ux.out.1 0 (.int .i64 7) (by rw [EXx.out]; rfl); rw [Nat.zero_add] at h; exact h
    have k2 : wv28.cell? ⟨byy, 0, none⟩ = some (.int .i64 7) := by have h := Uyy.out.1 0 (.int .i64 7) (by rw [EXyy.out]; rfl); rw [Nat.zero_add] at h; exact h
    go_upto_region 19 with fail
    clear k1 k2
    have k1 : wv28.cell? ⟨byy, 3, none⟩ = some (.int .u32 q2) := by have h := Uyy.out.1 3 (.int .u32 q2) (by rw [EXyy.out]; rfl); rw [Nat.zero_add] at h; exact h
    have k2 : wv28.cell? ⟨byy, 9, none⟩ = some (.int .u32 p2) := by have h := Uyy.out.1 9 (.int .u32 p2) (by rw [EXyy.out]; rfl); rw [Nat.zero_add] at h; exact h
    have JD := Judge_any (gv := .slice none 0 0) (da := none) (dc := 0) (s := mA q2 p2 9) (⟨7, f, p, p2, true, 9, q, p, g, q2, qa⟩ : Ct) rfl (Nat.zero_le _) wv28
    rw [j3x.out] at JD
    rw [← EXx.out] at JD
    have HJD := hide JD
    clear JD
    go_wp2_with (refine wpList_loadA rfl 24 11 aggCt sizCt _ rfl bx 0 rfl Xx LXx.out Ux.out.1 ?_)
    clear k1 k2
    refine HJD.out.mono ?_
    rintro _ wv31 ⟨rfl, bz⟩
    replace Ux := hide (Ux.out.later bz)
    replace Uyy := hide (Uyy.out.later bz)
    replace Ufi := hide (Ufi.out.later bz)
    replace Uz := hide (Uz.out.later bz)
    replace Uot := hide (Uot.out.later bz)
    replace Up := hide (Up.out.later bz)
    replace Uq := hide (Uq.out.later bz)
    replace BB := hide (later BB.out bz)
    clear bz
    clear HJD
    obtain ⟨Y33, hY⟩ : ∃ X, X = (⟨⟨9, f, p2, p2, true, 9, q2, p2, g, q2, qa⟩, 0, 0, true, false, 0, 0, false⟩ : Vd).cells := ⟨_, rfl⟩
    have LY : Hid (Y33.length = 18) := by rw [hY]; exact rfl
    have OY : Hid (∀ u ∈ Y33, u.oneCell' = true) := by rw [hY]; exact vd_one _
    obtain ⟨wv32, hwo⟩ : ∃ w1, w1 = wv31.setCells bp 0 Y33 := ⟨_, rfl⟩
    have bo : But (Only bp) wv31 wv32 := by rw [hwo]; exact But.cells bp Y33 0 wv31
    have CO := hide Up.out.1
    have FO := hide Up.out.2.1
    have LO := LXp
    have U1 : Hid (Box wv32 bp Y33) := by rw [hwo]; exact Up.out.all (by rw [LY.out, LXp.out])
    replace Ux := hide (Ux.out.but bo (fun e => by have e : bx = bp := e; have := D_x_p.out; omega))
    replace Uyy := hide (Uyy.out.but bo (fun e => by have e : byy = bp := e; have := D_yy_p.out; omega))
    replace Ufi := hide (Ufi.out.but bo (fun e => by have e : bfi = bp := e; have := D_fi_p.out; omega))
    replace Uz := hide (Uz.out.but bo (fun e => by have e : bz = bp := e; have := D_z_p.out; omega))
    replace Uot := hide (Uot.out.but bo (fun e => by have e : bot = bp := e; have := D_ot_p.out; omega))
    replace Uq := hide (Uq.out.but bo (fun e => by have e : bq = bp := e; have := D_p_q.out; omega))
    replace BB : Hid (Below w.heap.size w wv32) := BB.out.trans (bo.below BB.out.size (fun g hg e => by have e : g = bp := e; have := ZBp.out; omega))
    have EY := hide hY
    have hwo' := hwo.symm
    clear hwo bo hY Up LXp EXp
    rw [← EY.out]
    go_upto_region 20 with (refine wpList_storeA rfl 32 18 sizVd _ _ rfl bp 0 rfl Y33 Xp rfl LY.out LO.out CO.out FO.out OY.out ?_; intro hcs; clear hcs; rw [hwo'])
    clear hwo' CO FO LO OY
    try clear Xp
    obtain ⟨Xp, hXX⟩ : ∃ X, X = Y33 := ⟨_, rfl⟩
    subst hXX
    have Up := U1
    have LXp := LY
    have EXp := EY
    clear U1 LY EY
    have k1 : wv32.cell? ⟨bx, 3, none⟩ = some (.int .u32 p2) := by have h := Ux.out.1 3 (.int .u32 p2) (by rw [EXx.out]; rfl); rw [Nat.zero_add] at h; exact h
    have k2 : wv32.cell? ⟨bx, 9, none⟩ = some (.int .u32 q2) := by have h := Ux.out.1 9 (.int .u32 q2) (by rw [EXx.out]; rfl); rw [Nat.zero_add] at h; exact h
    have JD := Judge_any (gv := .slice none 0 0) (da := none) (dc := 0) (s := mA p2 q2 9) (⟨7, g, q, q2, true, 9, p, q, f, p2, pa⟩ : Ct) rfl (Nat.zero_le _) wv32
    rw [j3y.out] at JD
    rw [← EXyy.out] at JD
    have HJD := hide JD
    clear JD
    go_wp2_with (refine wpList_loadA rfl 24 11 aggCt sizCt _ rfl byy 0 rfl Xyy LXyy.out Uyy.out.1 ?_)
    clear k1 k2
    refine HJD.out.mono ?_
    rintro _ wv35 ⟨rfl, bz⟩
    replace Ux := hide (Ux.out.later bz)
    replace Uyy := hide (Uyy.out.later bz)
    replace Ufi := hide (Ufi.out.later bz)
    replace Uz := hide (Uz.out.later bz)
    replace Uot := hide (Uot.out.later bz)
    replace Up := hide (Up.out.later bz)
    replace Uq := hide (Uq.out.later bz)
    replace BB := hide (later BB.out bz)
    clear bz
    clear HJD
    obtain ⟨Y37, hY⟩ : ∃ X, X = (⟨⟨9, g, q2, q2, true, 9, p2, q2, f, p2, pa⟩, 0, 0, true, false, 0, 0, false⟩ : Vd).cells := ⟨_, rfl⟩
    have LY : Hid (Y37.length = 18) := by rw [hY]; exact rfl
    have OY : Hid (∀ u ∈ Y37, u.oneCell' = true) := by rw [hY]; exact vd_one _
    obtain ⟨wv36, hwo⟩ : ∃ w1, w1 = wv35.setCells bq 0 Y37 := ⟨_, rfl⟩
    have bo : But (Only bq) wv35 wv36 := by rw [hwo]; exact But.cells bq Y37 0 wv35
    have CO := hide Uq.out.1
    have FO := hide Uq.out.2.1
    have LO := LXq
    have U1 : Hid (Box wv36 bq Y37) := by rw [hwo]; exact Uq.out.all (by rw [LY.out, LXq.out])
    replace Ux := hide (Ux.out.but bo (fun e => by have e : bx = bq := e; have := D_x_q.out; omega))
    replace Uyy := hide (Uyy.out.but bo (fun e => by have e : byy = bq := e; have := D_yy_q.out; omega))
    replace Ufi := hide (Ufi.out.but bo (fun e => by have e : bfi = bq := e; have := D_fi_q.out; omega))
    replace Uz := hide (Uz.out.but bo (fun e => by have e : bz = bq := e; have := D_z_q.out; omega))
    replace Uot := hide (Uot.out.but bo (fun e => by have e : bot = bq := e; have := D_ot_q.out; omega))
    replace Up := hide (Up.out.but bo (fun e => by have e : bp = bq := e; have := D_p_q.out; omega))
    replace BB : Hid (Below w.heap.size w wv36) := BB.out.trans (bo.below BB.out.size (fun g hg e => by have e : g = bq := e; have := ZBq.out; omega))
    have EY := hide hY
    have hwo' := hwo.symm
    clear hwo bo hY Uq LXq EXq
    rw [← EY.out]
    go_upto_region 21 with (refine wpList_storeA rfl 32 18 sizVd _ _ rfl bq 0 rfl Y37 Xq rfl LY.out LO.out CO.out FO.out OY.out ?_; intro hcs; clear hcs; rw [hwo'])
    clear hwo' CO FO LO OY
    try clear Xq
    obtain ⟨Xq, hXX⟩ : ∃ X, X = Y37 := ⟨_, rfl⟩
    subst hXX
    have Uq := U1
    have LXq := LY
    have EXq := EY
    clear U1 LY EY
    have k1 : wv36.cell? ⟨bp, 0, none⟩ = some (.int .i64 9) := by have h := Up.out.1 0 (.int .i64 9) (by rw [EXp.out]; rfl); rw [Nat.zero_add] at h; exact h
    have k2 : wv36.cell? ⟨bq, 0, none⟩ = some (.int .i64 9) := by have h := Uq.out.1 0 (.int .i64 9) (by rw [EXq.out]; rfl); rw [Nat.zero_add] at h; exact h
    go_wp2
    go_ret
    exact ⟨rfl, BB.out⟩
  | false =>
    have JD := Judge_any (gv := .slice none 0 0) (da := none) (dc := 0) (s := mF p q) (⟨3, g, q, q, false, 9, p, q, f, p, pa⟩ : Ct) rfl (Nat.zero_le _) wv7
    rw [j4.out] at JD
    rw [show (Value.slice none (mF p q).dat.length 0) = .slice none 0 0 from rfl, ← EXfi.out] at JD
    rw [← EXyy.out] at JD
    have HJD := hide JD
    clear JD
    go_wp2_with (first | refine wpList_loadA rfl 24 11 aggCt sizCt _ rfl byy 0 rfl Xyy LXyy.out Uyy.out.1 ?_ | refine wpList_loadA rfl 28 10 aggSg sizSg _ rfl bfi 0 rfl Xfi LXfi.out Ufi.out.1 ?_)
    refine HJD.out.mono ?_
    rintro _ wv9 ⟨rfl, bz⟩
    replace Ux := hide (Ux.out.later bz)
    replace Uyy := hide (Uyy.out.later bz)
    replace Ufi := hide (Ufi.out.later bz)
    replace BB := hide (later BB.out bz)
    clear bz
    clear HJD
    obtain ⟨Xq, hXq⟩ : ∃ X, X = (⟨⟨3, g, q, q, false, 9, p, q, f, p, pa⟩, 0, 0, false, false, 0, 0, true⟩ : Vd).cells := ⟨_, rfl⟩
    have LXq : Hid (Xq.length = 18) := by rw [hXq]; exact rfl
    have OXq : Hid (∀ u ∈ Xq, u.oneCell' = true) := by rw [hXq]; exact vd_one _
    try rw [← hXq]
    obtain ⟨uv11, wv10, huq, hwq, cuq, fuq, ccq, bzq, lzq, ffq⟩ := newVd wv9 Xq LXq.out
    obtain ⟨bq, hbq⟩ : ∃ b, b = wv9.heap.size := ⟨_, rfl⟩
    rw [← hbq] at hwq cuq fuq ccq lzq ffq
    have EXq := hide hXq
    have D_x_q : Hid (bx < bq) := by have h := Ux.out.2.2; unfold Hid; omega
    have D_yy_q : Hid (byy < bq) := by have h := Uyy.out.2.2; unfold Hid; omega
    have D_fi_q : Hid (bfi < bq) := by have h := Ufi.out.2.2; unfold Hid; omega
    have ZBq : Hid (w.heap.size ≤ bq) := by have h := BB.out.size; unfold Hid; omega
    replace Ux := hide (Ux.out.later bzq)
    replace Uyy := hide (Uyy.out.later bzq)
    replace Ufi := hide (Ufi.out.later bzq)
    replace BB := hide (later BB.out bzq)
    have Uq : Hid (Box wv10 bq Xq) := ⟨ccq, ffq, lzq⟩
    have CUq := hide cuq
    have FUq := hide fuq
    have huq' := huq.symm
    simp only [zVdL, zVd, zCt, Vd.cells] at huq'
    have hwq' := hwq.symm
    have hbq' := hbq.symm
    clear hXq huq hwq cuq fuq ccq bzq lzq hbq ffq
    go_upto_region 23 with (refine wpList_storeA rfl 32 18 sizVd _ _ rfl bq 0 rfl Xq zVdL rfl LXq.out rfl CUq.out FUq.out OXq.out ?_; intro hcs; clear hcs; rw [hwq'])
    clear huq' hwq' hbq' CUq FUq OXq
    have k1 : wv10.cell? ⟨bq, 17, none⟩ = some (.bool true) := by have h := Uq.out.1 17 (.bool true) (by rw [EXq.out]; rfl); rw [Nat.zero_add] at h; exact h
    go_upto_region 25 with fail
    clear k1
    obtain ⟨NN, hNN⟩ : ∃ X, X = (⟨3, g, q, q, false, 9, p, q, f, p, pa⟩ : Ct).cells := ⟨_, rfl⟩
    have LNN : Hid (NN.length = 11) := by rw [hNN]; exact rfl
    have UNN : Hid (CellsAt wv10 bq 0 NN) := by have h := Uq.out.1; rw [EXq.out, Vd.parts] at h; rw [hNN]; exact (CellsAt.append.1 h).1
    have CN := Ended_any (⟨3, g, q, q, false, 9, p, q, f, p, pa⟩ : Ct) wv10
    rw [n3.out, ← hNN] at CN
    have HCN := hide CN
    clear CN hNN
    go_wp2_with (refine wpList_loadA rfl 24 11 aggCt sizCt _ rfl bq 0 rfl NN LNN.out UNN.out ?_)
    clear UNN
    refine HCN.out.mono ?_
    rintro _ wv12 ⟨rfl, bz⟩
    replace Ux := hide (Ux.out.later bz)
    replace Uyy := hide (Uyy.out.later bz)
    replace Ufi := hide (Ufi.out.later bz)
    replace Uq := hide (Uq.out.later bz)
    replace BB := hide (later BB.out bz)
    clear bz
    clear HCN
    obtain ⟨Y14, hY⟩ : ∃ X, X = (⟨6, g, q, q, false, 9, p, q, f, p2, pa⟩ : Ct).cells := ⟨_, rfl⟩
    have LY : Hid (Y14.length = 11) := by rw [hY]; exact rfl
    have OY : Hid (∀ u ∈ Y14, u.oneCell' = true) := by rw [hY]; exact ct_one _
    obtain ⟨wv13, hwo⟩ : ∃ w1, w1 = wv12.setCells byy 0 Y14 := ⟨_, rfl⟩
    have bo : But (Only byy) wv12 wv13 := by rw [hwo]; exact But.cells byy Y14 0 wv12
    have CO := hide Uyy.out.1
    have FO := hide Uyy.out.2.1
    have LO := LXyy
    have U1 : Hid (Box wv13 byy Y14) := by rw [hwo]; exact Uyy.out.all (by rw [LY.out, LXyy.out])
    replace Ux := hide (Ux.out.but bo (fun e => by have e : bx = byy := e; have := D_x_yy.out; omega))
    replace Ufi := hide (Ufi.out.but bo (fun e => by have e : bfi = byy := e; have := D_yy_fi.out; omega))
    replace Uq := hide (Uq.out.but bo (fun e => by have e : bq = byy := e; have := D_yy_q.out; omega))
    replace BB : Hid (Below w.heap.size w wv13) := BB.out.trans (bo.below BB.out.size (fun g hg e => by have e : g = byy := e; have := ZByy.out; omega))
    have EY := hide hY
    have hwo' := hwo.symm
    clear hwo bo hY Uyy LXyy EXyy
    rw [← EY.out]
    go_upto_region 26 with (refine wpList_storeA rfl 24 11 sizCt _ _ rfl byy 0 rfl Y14 Xyy rfl LY.out LO.out CO.out FO.out OY.out ?_; intro hcs; clear hcs; rw [hwo'])
    clear hwo' CO FO LO OY
    try clear Xyy
    obtain ⟨Xyy, hXX⟩ : ∃ X, X = Y14 := ⟨_, rfl⟩
    subst hXX
    have Uyy := U1
    have LXyy := LY
    have EXyy := EY
    clear U1 LY EY
    clear LNN
    have k1 : wv13.cell? ⟨byy, 3, none⟩ = some (.int .u32 q) := by have h := Uyy.out.1 3 (.int .u32 q) (by rw [EXyy.out]; rfl); rw [Nat.zero_add] at h; exact h
    have k2 : wv13.cell? ⟨byy, 9, none⟩ = some (.int .u32 p2) := by have h := Uyy.out.1 9 (.int .u32 p2) (by rw [EXyy.out]; rfl); rw [Nat.zero_add] at h; exact h
    have JD := Judge_any (gv := .slice none 0 0) (da := none) (dc := 0) (s := mA q p2 9) (⟨4, f, p, p2, true, 9, g, p, g, q, qa⟩ : Ct) rfl (Nat.zero_le _) wv13
    rw [j5.out] at JD
    rw [← EXx.out] at JD
    have HJD := hide JD
    clear JD
    go_wp2_with (refine wpList_loadA rfl 24 11 aggCt sizCt _ rfl bx 0 rfl Xx LXx.out Ux.out.1 ?_)
    clear k1 k2
    refine HJD.out.mono ?_
    rintro _ wv16 ⟨rfl, bz⟩
    replace Ux := hide (Ux.out.later bz)
    replace Uyy := hide (Uyy.out.later bz)
    replace Ufi := hide (Ufi.out.later bz)
    replace Uq := hide (Uq.out.later bz)
    replace BB := hide (later BB.out bz)
    clear bz
    clear HJD
    obtain ⟨Xp, hXp⟩ : ∃ X, X = (⟨⟨5, f, p2, p2, true, 9, q, p2, g, q, qa⟩, 0, 0, true, false, 0, 0, false⟩ : Vd).cells := ⟨_, rfl⟩
    have LXp : Hid (Xp.length = 18) := by rw [hXp]; exact rfl
    have OXp : Hid (∀ u ∈ Xp, u.oneCell' = true) := by rw [hXp]; exact vd_one _
    try rw [← hXp]
    obtain ⟨uv18, wv17, hup, hwp, cup, fup, ccp, bzp, lzp, ffp⟩ := newVd wv16 Xp LXp.out
    obtain ⟨bp, hbp⟩ : ∃ b, b = wv16.heap.size := ⟨_, rfl⟩
    rw [← hbp] at hwp cup fup ccp lzp ffp
    have EXp := hide hXp
    have D_x_p : Hid (bx < bp) := by have h := Ux.out.2.2; unfold Hid; omega
    have D_yy_p : Hid (byy < bp) := by have h := Uyy.out.2.2; unfold Hid; omega
    have D_fi_p : Hid (bfi < bp) := by have h := Ufi.out.2.2; unfold Hid; omega
    have D_q_p : Hid (bq < bp) := by have h := Uq.out.2.2; unfold Hid; omega
    have ZBp : Hid (w.heap.size ≤ bp) := by have h := BB.out.size; unfold Hid; omega
    replace Ux := hide (Ux.out.later bzp)
    replace Uyy := hide (Uyy.out.later bzp)
    replace Ufi := hide (Ufi.out.later bzp)
    replace Uq := hide (Uq.out.later bzp)
    replace BB := hide (later BB.out bzp)
    have Up : Hid (Box wv17 bp Xp) := ⟨ccp, ffp, lzp⟩
    have CUp := hide cup
    have FUp := hide fup
    have hup' := hup.symm
    simp only [zVdL, zVd, zCt, Vd.cells] at hup'
    have hwp' := hwp.symm
    have hbp' := hbp.symm
    clear hXp hup hwp cup fup ccp bzp lzp hbp ffp
    go_upto_region 27 with (refine wpList_storeA rfl 32 18 sizVd _ _ rfl bp 0 rfl Xp zVdL rfl LXp.out rfl CUp.out FUp.out OXp.out ?_; intro hcs; clear hcs; rw [hwp'])
    clear hup' hwp' hbp' CUp FUp OXp
    have UNo := hide Up.out.1
    obtain ⟨Y20, hY⟩ : ∃ X, X = (⟨5, f, p2, p2, true, 9, q, p2, g, q, qa⟩ : Ct).cells := ⟨_, rfl⟩
    have LY : Hid (Y20.length = 11) := by rw [hY]; exact rfl
    have OY : Hid (∀ u ∈ Y20, u.oneCell' = true) := by rw [hY]; exact ct_one _
    obtain ⟨wv19, hwo⟩ : ∃ w1, w1 = wv17.setCells bx 0 Y20 := ⟨_, rfl⟩
    have bo : But (Only bx) wv17 wv19 := by rw [hwo]; exact But.cells bx Y20 0 wv17
    have CO := hide Ux.out.1
    have FO := hide Ux.out.2.1
    have LO := LXx
    have U1 : Hid (Box wv19 bx Y20) := by rw [hwo]; exact Ux.out.all (by rw [LY.out, LXx.out])
    replace Uyy := hide (Uyy.out.but bo (fun e => by have e : byy = bx := e; have := D_x_yy.out; omega))
    replace Ufi := hide (Ufi.out.but bo (fun e => by have e : bfi = bx := e; have := D_x_fi.out; omega))
    replace Uq := hide (Uq.out.but bo (fun e => by have e : bq = bx := e; have := D_x_q.out; omega))
    replace Up := hide (Up.out.but bo (fun e => by have e : bp = bx := e; have := D_x_p.out; omega))
    replace BB : Hid (Below w.heap.size w wv19) := BB.out.trans (bo.below BB.out.size (fun g hg e => by have e : g = bx := e; have := ZBx.out; omega))
    have EY := hide hY
    have hwo' := hwo.symm
    clear hwo bo hY Ux LXx EXx
    have UN : Hid (CellsAt wv17 bp 0 Y20) := by have h := UNo.out; rw [EXp.out, Vd.parts] at h; rw [EY.out]; exact (CellsAt.append.1 h).1
    go_upto_region 28 with (first | refine wpList_loadA rfl 24 11 aggCt sizCt _ rfl bp 0 rfl Y20 LY.out UN.out ?_ | (refine wpList_storeA rfl 24 11 sizCt _ _ rfl bx 0 rfl Y20 Xx rfl LY.out LO.out CO.out FO.out OY.out ?_; intro hcs; clear hcs; rw [hwo']))
    clear UN UNo
    clear hwo' CO FO LO OY
    try clear Xx
    obtain ⟨Xx, hXX⟩ : ∃ X, X = Y20 := ⟨_, rfl⟩
    subst hXX
    have Ux := U1
    have LXx := LY
    have EXx := EY
    clear U1 LY EY
    have k1 : wv19.cell? ⟨byy, 0, none⟩ = some (.int .i64 6) := by have h := Uyy.out.1 0 (.int .i64 6) (by rw [EXyy.out]; rfl); rw [Nat.zero_add] at h; exact h
    have k2 : wv19.cell? ⟨bx, 0, none⟩ = some (.int .i64 5) := by have h := Ux.out.1 0 (.int .i64 5) (by rw [EXx.out]; rfl); rw [Nat.zero_add] at h; exact h
    go_upto_region 30 with fail
    clear k1 k2
    have CN := Shut_any (⟨6, g, q, q, false, 9, p, q, f, p2, pa⟩ : Ct) wv19
    rw [t3.out.1, t3.out.2, ← EXyy.out] at CN
    have HCN := hide CN
    clear CN
    go_wp2_with (refine wpList_loadA rfl 24 11 aggCt sizCt _ rfl byy 0 rfl Xyy LXyy.out Uyy.out.1 ?_)
    refine HCN.out.mono ?_
    rintro _ wv22 ⟨rfl, bz⟩
    replace Ux := hide (Ux.out.later bz)
    replace Uyy := hide (Uyy.out.later bz)
    replace Ufi := hide (Ufi.out.later bz)
    replace Uq := hide (Uq.out.later bz)
    replace Up := hide (Up.out.later bz)
    replace BB := hide (later BB.out bz)
    clear bz
    clear HCN
    obtain ⟨Y24, hY⟩ : ∃ X, X = (⟨8, g, q, q2, true, 9, p, q, f, p2, pa⟩ : Ct).cells := ⟨_, rfl⟩
    have LY : Hid (Y24.length = 11) := by rw [hY]; exact rfl
    have OY : Hid (∀ u ∈ Y24, u.oneCell' = true) := by rw [hY]; exact ct_one _
    obtain ⟨wv23, hwo⟩ : ∃ w1, w1 = wv22.setCells byy 0 Y24 := ⟨_, rfl⟩
    have bo : But (Only byy) wv22 wv23 := by rw [hwo]; exact But.cells byy Y24 0 wv22
    have CO := hide Uyy.out.1
    have FO := hide Uyy.out.2.1
    have LO := LXyy
    have U1 : Hid (Box wv23 byy Y24) := by rw [hwo]; exact Uyy.out.all (by rw [LY.out, LXyy.out])
    replace Ux := hide (Ux.out.but bo (fun e => by have e : bx = byy := e; have := D_x_yy.out; omega))
    replace Ufi := hide (Ufi.out.but bo (fun e => by have e : bfi = byy := e; have := D_yy_fi.out; omega))
    replace Uq := hide (Uq.out.but bo (fun e => by have e : bq = byy := e; have := D_yy_q.out; omega))
    replace Up := hide (Up.out.but bo (fun e => by have e : bp = byy := e; have := D_yy_p.out; omega))
    replace BB : Hid (Below w.heap.size w wv23) := BB.out.trans (bo.below BB.out.size (fun g hg e => by have e : g = byy := e; have := ZByy.out; omega))
    have EY := hide hY
    have hwo' := hwo.symm
    clear hwo bo hY Uyy LXyy EXyy
    rw [← EY.out]
    go_upto_region 31 with (refine wpList_storeA rfl 24 11 sizCt _ _ rfl byy 0 rfl Y24 Xyy rfl LY.out LO.out CO.out FO.out OY.out ?_; intro hcs; clear hcs; rw [hwo'])
    clear hwo' CO FO LO OY
    try clear Xyy
    obtain ⟨Xyy, hXX⟩ : ∃ X, X = Y24 := ⟨_, rfl⟩
    subst hXX
    have Uyy := U1
    have LXyy := LY
    have EXyy := EY
    clear U1 LY EY
    have k1 : wv23.cell? ⟨byy, 3, none⟩ = some (.int .u32 q2) := by have h := Uyy.out.1 3 (.int .u32 q2) (by rw [EXyy.out]; rfl); rw [Nat.zero_add] at h; exact h
    have k2 : wv23.cell? ⟨byy, 9, none⟩ = some (.int .u32 p2) := by have h := Uyy.out.1 9 (.int .u32 p2) (by rw [EXyy.out]; rfl); rw [Nat.zero_add] at h; exact h
    have JD := Judge_any (gv := .slice none 0 0) (da := none) (dc := 0) (s := mF q p2) (⟨5, f, p2, p2, true, 9, q, p2, g, q, qa⟩ : Ct) rfl (Nat.zero_le _) wv23
    rw [j6.out] at JD
    rw [← EXx.out] at JD
    have HJD := hide JD
    clear JD
    go_wp2_with (refine wpList_loadA rfl 24 11 aggCt sizCt _ rfl bx 0 rfl Xx LXx.out Ux.out.1 ?_)
    clear k1 k2
    refine HJD.out.mono ?_
    rintro _ wv26 ⟨rfl, bz⟩
    replace Ux := hide (Ux.out.later bz)
    replace Uyy := hide (Uyy.out.later bz)
    replace Ufi := hide (Ufi.out.later bz)
    replace Uq := hide (Uq.out.later bz)
    replace Up := hide (Up.out.later bz)
    replace BB := hide (later BB.out bz)
    clear bz
    clear HJD
    obtain ⟨Y28, hY⟩ : ∃ X, X = (⟨⟨5, f, p2, p2, true, 9, q, p2, g, q, qa⟩, 0, 0, false, false, 0, 0, true⟩ : Vd).cells := ⟨_, rfl⟩
    have LY : Hid (Y28.length = 18) := by rw [hY]; exact rfl
    have OY : Hid (∀ u ∈ Y28, u.oneCell' = true) := by rw [hY]; exact vd_one _
    obtain ⟨wv27, hwo⟩ : ∃ w1, w1 = wv26.setCells bp 0 Y28 := ⟨_, rfl⟩
    have bo : But (Only bp) wv26 wv27 := by rw [hwo]; exact But.cells bp Y28 0 wv26
    have CO := hide Up.out.1
    have FO := hide Up.out.2.1
    have LO := LXp
    have U1 : Hid (Box wv27 bp Y28) := by rw [hwo]; exact Up.out.all (by rw [LY.out, LXp.out])
    replace Ux := hide (Ux.out.but bo (fun e => by have e : bx = bp := e; have := D_x_p.out; omega))
    replace Uyy := hide (Uyy.out.but bo (fun e => by have e : byy = bp := e; have := D_yy_p.out; omega))
    replace Ufi := hide (Ufi.out.but bo (fun e => by have e : bfi = bp := e; have := D_fi_p.out; omega))
    replace Uq := hide (Uq.out.but bo (fun e => by have e : bq = bp := e; have := D_q_p.out; omega))
    replace BB : Hid (Below w.heap.size w wv27) := BB.out.trans (bo.below BB.out.size (fun g hg e => by have e : g = bp := e; have := ZBp.out; omega))
    have EY := hide hY
    have hwo' := hwo.symm
    clear hwo bo hY Up LXp EXp
    rw [← EY.out]
    go_upto_region 32 with (refine wpList_storeA rfl 32 18 sizVd _ _ rfl bp 0 rfl Y28 Xp rfl LY.out LO.out CO.out FO.out OY.out ?_; intro hcs; clear hcs; rw [hwo'])
    clear hwo' CO FO LO OY
    try clear Xp
    obtain ⟨Xp, hXX⟩ : ∃ X, X = Y28 := ⟨_, rfl⟩
    subst hXX
    have Up := U1
    have LXp := LY
    have EXp := EY
    clear U1 LY EY
    have k1 : wv27.cell? ⟨bp, 17, none⟩ = some (.bool true) := by have h := Up.out.1 17 (.bool true) (by rw [EXp.out]; rfl); rw [Nat.zero_add] at h; exact h
    go_upto_region 34 with fail
    clear k1
    obtain ⟨NN, hNN⟩ : ∃ X, X = (⟨5, f, p2, p2, true, 9, q, p2, g, q, qa⟩ : Ct).cells := ⟨_, rfl⟩
    have LNN : Hid (NN.length = 11) := by rw [hNN]; exact rfl
    have UNN : Hid (CellsAt wv27 bp 0 NN) := by have h := Up.out.1; rw [EXp.out, Vd.parts] at h; rw [hNN]; exact (CellsAt.append.1 h).1
    have CN := Ended_any (⟨5, f, p2, p2, true, 9, q, p2, g, q, qa⟩ : Ct) wv27
    rw [n4.out, ← hNN] at CN
    have HCN := hide CN
    clear CN hNN
    go_wp2_with (refine wpList_loadA rfl 24 11 aggCt sizCt _ rfl bp 0 rfl NN LNN.out UNN.out ?_)
    clear UNN
    refine HCN.out.mono ?_
    rintro _ wv30 ⟨rfl, bz⟩
    replace Ux := hide (Ux.out.later bz)
    replace Uyy := hide (Uyy.out.later bz)
    replace Ufi := hide (Ufi.out.later bz)
    replace Uq := hide (Uq.out.later bz)
    replace Up := hide (Up.out.later bz)
    replace BB := hide (later BB.out bz)
    clear bz
    clear HCN
    obtain ⟨Y32, hY⟩ : ∃ X, X = (⟨9, f, p2, p2, true, 9, q, p2, g, q2, qa⟩ : Ct).cells := ⟨_, rfl⟩
    have LY : Hid (Y32.length = 11) := by rw [hY]; exact rfl
    have OY : Hid (∀ u ∈ Y32, u.oneCell' = true) := by rw [hY]; exact ct_one _
    obtain ⟨wv31, hwo⟩ : ∃ w1, w1 = wv30.setCells bx 0 Y32 := ⟨_, rfl⟩
    have bo : But (Only bx) wv30 wv31 := by rw [hwo]; exact But.cells bx Y32 0 wv30
    have CO := hide Ux.out.1
    have FO := hide Ux.out.2.1
    have LO := LXx
    have U1 : Hid (Box wv31 bx Y32) := by rw [hwo]; exact Ux.out.all (by rw [LY.out, LXx.out])
    replace Uyy := hide (Uyy.out.but bo (fun e => by have e : byy = bx := e; have := D_x_yy.out; omega))
    replace Ufi := hide (Ufi.out.but bo (fun e => by have e : bfi = bx := e; have := D_x_fi.out; omega))
    replace Uq := hide (Uq.out.but bo (fun e => by have e : bq = bx := e; have := D_x_q.out; omega))
    replace Up := hide (Up.out.but bo (fun e => by have e : bp = bx := e; have := D_x_p.out; omega))
    replace BB : Hid (Below w.heap.size w wv31) := BB.out.trans (bo.below BB.out.size (fun g hg e => by have e : g = bx := e; have := ZBx.out; omega))
    have EY := hide hY
    have hwo' := hwo.symm
    clear hwo bo hY Ux LXx EXx
    rw [← EY.out]
    go_upto_region 35 with (refine wpList_storeA rfl 24 11 sizCt _ _ rfl bx 0 rfl Y32 Xx rfl LY.out LO.out CO.out FO.out OY.out ?_; intro hcs; clear hcs; rw [hwo'])
    clear hwo' CO FO LO OY
    try clear Xx
    obtain ⟨Xx, hXX⟩ : ∃ X, X = Y32 := ⟨_, rfl⟩
    subst hXX
    have Ux := U1
    have LXx := LY
    have EXx := EY
    clear U1 LY EY
    clear LNN
    have k1 : wv31.cell? ⟨bx, 3, none⟩ = some (.int .u32 p2) := by have h := Ux.out.1 3 (.int .u32 p2) (by rw [EXx.out]; rfl); rw [Nat.zero_add] at h; exact h
    have k2 : wv31.cell? ⟨bx, 9, none⟩ = some (.int .u32 q2) := by have h := Ux.out.1 9 (.int .u32 q2) (by rw [EXx.out]; rfl); rw [Nat.zero_add] at h; exact h
    have JD := Judge_any (gv := .slice none 0 0) (da := none) (dc := 0) (s := mA p2 q2 9) (⟨8, g, q, q2, true, 9, p, q, f, p2, pa⟩ : Ct) rfl (Nat.zero_le _) wv31
    rw [← EXyy.out] at JD
    have HJD := hide JD
    clear JD
    go_wp2_with (refine wpList_loadA rfl 24 11 aggCt sizCt _ rfl byy 0 rfl Xyy LXyy.out Uyy.out.1 ?_)
    clear k1 k2
    refine HJD.out.mono ?_
    rintro _ wv34 ⟨rfl, bz⟩
    replace Ux := hide (Ux.out.later bz)
    replace Uyy := hide (Uyy.out.later bz)
    replace Ufi := hide (Ufi.out.later bz)
    replace Uq := hide (Uq.out.later bz)
    replace Up := hide (Up.out.later bz)
    replace BB := hide (later BB.out bz)
    clear bz
    clear HJD
    obtain ⟨Y36, hY⟩ : ∃ X, X = (judge (⟨8, g, q, q2, true, 9, p, q, f, p2, pa⟩ : Ct) (mA p2 q2 9)).cells := ⟨_, rfl⟩
    have LY : Hid (Y36.length = 18) := by rw [hY]; exact rfl
    have OY : Hid (∀ u ∈ Y36, u.oneCell' = true) := by rw [hY]; exact vd_one _
    obtain ⟨wv35, hwo⟩ : ∃ w1, w1 = wv34.setCells bq 0 Y36 := ⟨_, rfl⟩
    have bo : But (Only bq) wv34 wv35 := by rw [hwo]; exact But.cells bq Y36 0 wv34
    have CO := hide Uq.out.1
    have FO := hide Uq.out.2.1
    have LO := LXq
    have U1 : Hid (Box wv35 bq Y36) := by rw [hwo]; exact Uq.out.all (by rw [LY.out, LXq.out])
    replace Ux := hide (Ux.out.but bo (fun e => by have e : bx = bq := e; have := D_x_q.out; omega))
    replace Uyy := hide (Uyy.out.but bo (fun e => by have e : byy = bq := e; have := D_yy_q.out; omega))
    replace Ufi := hide (Ufi.out.but bo (fun e => by have e : bfi = bq := e; have := D_fi_q.out; omega))
    replace Up := hide (Up.out.but bo (fun e => by have e : bp = bq := e; have := D_q_p.out; omega))
    replace BB : Hid (Below w.heap.size w wv35) := BB.out.trans (bo.below BB.out.size (fun g hg e => by have e : g = bq := e; have := ZBq.out; omega))
    have EY := hide hY
    have hwo' := hwo.symm
    clear hwo bo hY Uq LXq EXq
    rw [← EY.out]
    go_upto_region 36 with (refine wpList_storeA rfl 32 18 sizVd _ _ rfl bq 0 rfl Y36 Xq rfl LY.out LO.out CO.out FO.out OY.out ?_; intro hcs; clear hcs; rw [hwo'])
    clear hwo' CO FO LO OY
    try clear Xq
    obtain ⟨Xq, hXX⟩ : ∃ X, X = Y36 := ⟨_, rfl⟩
    subst hXX
    have Uq := U1
    have LXq := LY
    have EXq := EY
    clear U1 LY EY
    have k1 : wv35.cell? ⟨bx, 0, none⟩ = some (.int .i64 9) := by have h := Ux.out.1 0 (.int .i64 9) (by rw [EXx.out]; rfl); rw [Nat.zero_add] at h; exact h
    have k2 : wv35.cell? ⟨bq, 12, none⟩ = some (.int .i64 (judge (⟨8, g, q, q2, true, 9, p, q, f, p2, pa⟩ : Ct) (mA p2 q2 9)).en) := by have h := Uq.out.1 12 (.int .i64 (judge (⟨8, g, q, q2, true, 9, p, q, f, p2, pa⟩ : Ct) (mA p2 q2 9)).en) (by rw [EXq.out]; rfl); rw [Nat.zero_add] at h; exact h
    rw [j7.out] at k2
    go_wp2
    go_ret
    exact ⟨rfl, BB.out⟩
end Go.Proofs.Ytgdcdgofahhfdaa
