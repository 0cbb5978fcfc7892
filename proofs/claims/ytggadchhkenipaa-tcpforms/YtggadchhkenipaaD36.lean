
/-
  TcpForms: the walk.
-/
import Derived.Test.YtggadchhkenipaaD35
namespace Go.Proofs.Ytggadchhkenipaa
open Go.RowKit Go.Shelf

theorem teB_max (x y : I4) (s : Sg) : (teB x y s).length ≤ 1100 := by
  unfold teB
  split
  · rename_i h
    obtain ⟨dl, mb⟩ := teE_zero h
    obtain ⟨_, _, _, _, _, h3⟩ := mbS_true mb
    have := (otB_len s h3).1
    have := tsB_len x y s
    omega
  · simp
theorem CellsAt.one {W : World} {s : Nat} {vs : List Value} (h : CellsAt W s 0 vs) {k : Nat} (hk : k < vs.length) (v : Value) : CellsAt (W.setCell ⟨s, k, none⟩ v) s 0 (vs.set k v) := by
  intro i u hu
  rw [Nat.zero_add]
  by_cases e : i = k
  · subst e
    rw [List.getElem?_set_self hk] at hu
    cases hu
    have := h i _ (List.getElem?_eq_getElem hk)
    rw [Nat.zero_add] at this
    exact World.cell?_setCell_same _ _ _ this
  · rw [List.getElem?_set_ne (fun h => e h.symm)] at hu
    have := h i u hu
    rw [Nat.zero_add] at this
    rw [setCell_out (by simpa using e)]
    exact this
theorem sg_put (s : Sg) (gv dv gw dw : Value) : ((s.cells gv dv).set 9 dw).set 8 gw = s.cells gw dw := rfl
set_option maxRecDepth 100000 in
set_option maxHeartbeats 16000000 in
theorem tForms_walk (x y : I4) (s : Sg) (gv dv : Value) (rv : Value) (r : List Int) (w : World) (hx : x.Ok) (hy : y.Ok) (hs : SgIn w s gv dv) (hr : IsB w.heap.size w rv r) (hR : Bytes r) (lr : r.length ≤ 140737488351232) :
    Calls Try.prog 5 #[x.val, y.val, .agg (s.cells gv dv).toArray, rv] w fun e w' => e = .returned (.bool true) ∧ Below w.heap.size w w' := by
  obtain ⟨w1, w2, s1, s2, hs1, hw1, hs2, hw2, c1, c2, b2, l1, l2, _⟩ := twoI w x y
  obtain ⟨w3, b, hsb, hwb, c3, f3, b3, l3⟩ := boxS w2 s gv dv
  obtain ⟨ga, gc, rfl⟩ := hs.got.shape
  obtain ⟨da, dc, rfl, _⟩ := hs.dat.shape
  obtain ⟨ra, rc, rfl, _⟩ := hr.shape
  obtain ⟨rn, hrn⟩ : ∃ rn, rn = r.length := ⟨_, rfl⟩
  have HRN := hide hrn
  rw [← hrn] at hr lr ⊢
  obtain ⟨dn, hdn⟩ : ∃ dn, dn = s.dat.length := ⟨_, rfl⟩
  have HDN := hide hdn
  obtain ⟨gn, hgn⟩ : ∃ gn, gn = s.got.length := ⟨_, rfl⟩
  have HGN := hide hgn
  rw [← hdn, ← hgn] at hs c3 hwb ⊢
  obtain ⟨X, hX⟩ : ∃ X, X = x.vals := ⟨_, rfl⟩
  obtain ⟨Y, hY⟩ : ∃ Y, Y = y.vals := ⟨_, rfl⟩
  obtain ⟨Z, hZ⟩ : ∃ Z, Z = s.cells (.slice ga gn gc) (.slice da dn dc) := ⟨_, rfl⟩
  have LX : Hid (X.length = 4) := by rw [hX]; exact rfl
  have LY : Hid (Y.length = 4) := by rw [hY]; exact rfl
  have LZ : Hid (Z.length = 10) := by rw [hZ]; exact rfl
  have OZ : Hid (∀ u ∈ Z, u.oneCell' = true) := by rw [hZ]; exact sg_one _ _ _ rfl rfl
  rw [← hX] at c1
  rw [← hY] at c2
  rw [← hZ] at c3
  have XV : Hid (x.val = .agg X.toArray ∧ y.val = .agg Y.toArray ∧ Value.agg (s.cells (.slice ga gn gc) (.slice da dn dc)).toArray = .agg Z.toArray) := by rw [hX, hY, hZ]; exact ⟨rfl, rfl, rfl⟩
  have XO := hide hx
  have YO := hide hy
  have HS := hide hs
  have HR0 := hide hr
  have RB := hide hR
  have B3 := hide (later b2 b3)
  have HZV := hide hZ
  have U3 : Hid (Up w3 (fun W => (CellsAt W s1 0 X ∧ CellsAt W s2 0 Y) ∧ CellsAt W b 0 Z)) := (((c1.up l1).and (c2.up l2)).next b3).and (c3.up l3)
  have SB : Hid (w.heap.size ≤ w3.heap.size ∧ b < w3.heap.size) := ⟨B3.out.size, l3⟩
  rw [show (Value.agg (s.cells (.slice ga gn gc) (.slice da dn dc)).toArray) = .agg #[.int .i64 s.src, .int .i64 s.dst, .int .u32 s.seq, .int .u32 s.ack, .int .i64 s.flg, .int .i64 s.wnd, .int .i64 s.mss, .bool s.sak, .slice ga gn gc, .slice da dn dc] from rfl]
  rw [show x.val = .agg #[.int .u8 x.a, .int .u8 x.b, .int .u8 x.c, .int .u8 x.d] from rfl, show y.val = .agg #[.int .u8 y.a, .int .u8 y.b, .int .u8 y.c, .int .u8 y.d] from rfl]
  have hs1' := hs1.symm
  have hs2' := hs2.symm
  have hw1' := hw1.symm
  have hw2' := hw2.symm
  have hsb' := hsb.symm
  have hwb' := hwb.symm
  clear c1 c2 b2 c3 f3 b3 hs1 hs2 hw1 hw2 hsb hwb hX hY hZ hx hy hs hr hR hrn hdn hgn
  go_enter Try.func5, Try.ntmps5
  go_upto_region 1 with fail
  clear hs1' hs2' hw1' hw2' hsb' hwb'
  go_wp2_with fail
  refine (tAwake_any w3).mono ?_
  rintro _ w4 ⟨rfl, b4⟩
  have B4 := hide (later B3.out b4)
  have U4 := hide (U3.out.next b4)
  have Z34 : Hid (w3.heap.size ≤ w4.heap.size) := b4.size
  clear b4 U3 B3
  -- o
  obtain ⟨u5, w5, hu5, hw5, cu5, fu5, c5, b5, l5, f5⟩ := newS w4 Z LZ.out
  obtain ⟨so, hso⟩ : ∃ so, so = w4.heap.size := ⟨_, rfl⟩
  rw [← hso] at hw5 cu5 fu5 c5 l5 f5
  have SO : Hid (so = w4.heap.size) := hso
  have U5 := hide (U4.out.next b5)
  have B5 := hide b5
  have CU5 := hide cu5
  have FU5 := hide fu5
  have C5 := hide c5
  have F5 := hide f5
  have L5 := hide l5
  have C3 := hide U4.out.now.2
  have hu5' := hu5.symm
  simp only [zSC, zSg, Sg.cells] at hu5'
  have hw5' := hw5.symm
  have hso' := hso.symm
  clear hu5 hw5 hso cu5 fu5 c5 b5 l5 f5
  go_upto_region 3 with (first | refine wpList_loadA rfl 26 10 aggSg sizSg _ rfl b 0 rfl Z LZ.out C3.out ?_ | (refine wpList_storeA rfl 26 10 sizSg _ _ rfl so 0 rfl Z zSC rfl LZ.out rfl CU5.out FU5.out OZ.out ?_; intro _; rw [hw5']))
  clear hu5' hw5' hso' CU5 FU5 C3
  -- o.Data
  have x9 : w5.cell? ⟨b, 9, none⟩ = some (.slice da dn dc) := U5.out.now.2 9 _ (by rw [HZV.out]; rfl)
  have ID5 : Hid (IsB w5.heap.size w5 (.slice da dn dc) s.dat) := (HS.out.dat.later B4.out).later B5.out
  have LD5 : Hid (([] : List Int).length + s.dat.length ≤ 140737488355328) := by have := HS.out.datl; unfold Hid; rw [List.length_nil]; omega
  have EL5 : Hid (([] : List Int) ++ s.dat = s.dat) := rfl
  have GN5 : Hid (Gro w5.heap.size w5 (.slice none 0 0) []) := Gro.nil _ _
  have NN5 : Hid (w5.heap.size ≤ w5.heap.size) := Nat.le_refl _
  go_wp2_with (at_builtin; refine wpList_growB rfl (.const (.slice none 0 0)) (.tmp 28) rfl rfl w5.heap.size (.slice none 0 0) _ [] s.dat rfl rfl GN5.out ID5.out NN5.out LD5.out s.dat EL5.out ?_)
  intro a6 k6 w6 hc6 g6 b6
  rw [← HDN.out] at hc6 g6 ⊢
  have c6 : CellsAt w6 so 0 Z := C5.out.later L5.out b6
  have N57z := b6.size
  have y9 : w6.cell? ⟨so, 9, none⟩ = some (.slice da dn dc) := c6 9 _ (by rw [HZV.out]; rfl)
  have f6 : ∀ j, w6.frozen? ⟨so, j, none⟩ = false := fun j => (b6.frozen (p := ⟨so, j, none⟩) L5.out).trans (F5.out j)
  have fy9 : w6.frozen? ⟨so, 9, none⟩ = false := f6 9
  obtain ⟨w7, hw7⟩ : ∃ w7, w7 = w6.setCell ⟨so, 9, none⟩ (.slice a6 dn k6) := ⟨_, rfl⟩
  have bo7 : But (Only so) w6 w7 := by rw [hw7]; exact (But.refl (Only so) w6).cellb (b := so) rfl 9 _
  have c7 : CellsAt w7 so 0 (Z.set 9 (.slice a6 dn k6)) := by rw [hw7]; exact c6.one (by rw [LZ.out]; decide) _
  have f7 : ∀ j, w7.frozen? ⟨so, j, none⟩ = false := fun j => by rw [hw7, World.frozen?_setCell]; exact f6 j
  have l7 : so < w7.heap.size := Nat.lt_of_lt_of_le L5.out (Nat.le_trans b6.size bo7.size)
  have b46 : Below w4.heap.size w4 w6 := later B5.out b6
  have b47 : Below w4.heap.size w4 w7 := b46.trans (bo7.below b46.size (fun g hg e => by have e : g = so := e; have := SO.out; omega))
  have g7 : Gro w5.heap.size w7 (.slice a6 dn k6) s.dat := g6.off bo7 (fun g x y e e2 => by have := (g6.lies g x y e).1; have := L5.out; omega)
  have N57 : Hid (w5.heap.size ≤ w7.heap.size) := Nat.le_trans N57z bo7.size
  have B47 := hide b47
  have G7 := hide g7
  have C7 := hide c7
  have F7 := hide f7
  have L7 := hide l7
  have LI7 : Hid (∀ g x y, (.slice a6 dn k6 : Value) = .slice (some ⟨g, 0, none⟩) x y → w5.heap.size ≤ g ∧ g < w7.heap.size) := fun g x y e => g7.lies g x y e
  have hw7' := hw7.symm
  clear hc6 N57z g6 b6 c6 f6 hw7 bo7 c7 f7 l7 b46 b47 g7 ID5 LD5 EL5 GN5 NN5 C5 F5
  go_upto_region 4 with fail
  clear x9 y9 fy9 hw7'
  -- o.Got
  have U7 := hide (U4.out.next B47.out)
  have x8 : w7.cell? ⟨b, 8, none⟩ = some (.slice ga gn gc) := U7.out.now.2 8 _ (by rw [HZV.out]; rfl)
  have CG7 : Hid (CG (fun g => g < w.heap.size) w7 (.slice ga gn gc) s.got) := (HS.out.got.later B4.out).later B47.out
  obtain ⟨gw, w8, hrun, cg8, b8⟩ := app_spans CG7.out HS.out.gotl
  obtain ⟨a8, k8, rfl⟩ := cg8.shape
  rw [← HGN.out] at cg8 hrun
  have HRUN := hide hrun
  have c8 : CellsAt w8 so 0 (Z.set 9 (.slice a6 dn k6)) := C7.out.later L7.out b8
  have y8 : w8.cell? ⟨so, 8, none⟩ = some (.slice ga gn gc) := c8 8 _ (by rw [HZV.out]; rfl)
  have f8 : ∀ j, w8.frozen? ⟨so, j, none⟩ = false := fun j => (b8.frozen (p := ⟨so, j, none⟩) L7.out).trans (F7.out j)
  have fy8 : w8.frozen? ⟨so, 8, none⟩ = false := f8 8
  obtain ⟨w9, hw9⟩ : ∃ w9, w9 = w8.setCell ⟨so, 8, none⟩ (.slice a8 gn k8) := ⟨_, rfl⟩
  have bo9 : But (Only so) w8 w9 := by rw [hw9]; exact (But.refl (Only so) w8).cellb (b := so) rfl 8 _
  obtain ⟨O, hO⟩ : ∃ O, O = s.cells (.slice a8 gn k8) (.slice a6 dn k6) := ⟨_, rfl⟩
  have c9 : CellsAt w9 so 0 O := by
    have h := c8.one (k := 8) (by rw [List.length_set, LZ.out]; decide) (.slice a8 gn k8)
    rw [HZV.out, sg_put, ← hO] at h
    rw [hw9]
    exact h
  have l9 : so < w9.heap.size := Nat.lt_of_lt_of_le L7.out (Nat.le_trans b8.size bo9.size)
  have b48 : Below w4.heap.size w4 w8 := later B47.out b8
  have b49 : Below w4.heap.size w4 w9 := b48.trans (bo9.below b48.size (fun g hg e => by have e : g = so := e; have := SO.out; omega))
  have g9 : Gro w5.heap.size w9 (.slice a6 dn k6) s.dat := (G7.out.later b8).off bo9 (fun g x y e e2 => by have := (LI7.out g x y e).1; have := L5.out; omega)
  have n58 := N57.out
  have cg9 : CG (fun g => w7.heap.size ≤ g ∧ g < w9.heap.size) w9 (.slice a8 gn k8) s.got := (cg8.own (P' := fun g => w7.heap.size ≤ g ∧ g < w9.heap.size) (fun g h1 h2 => ⟨h2, Nat.lt_of_lt_of_le h1 bo9.size⟩)).but bo9 (fun g hg e => by have e : g = so := e; have := L7.out; have := hg.1; omega)
  have B9 := hide (later B4.out b49)
  have U9 : Hid (Up w9 (fun W => (CellsAt W s1 0 X ∧ CellsAt W s2 0 Y) ∧ CellsAt W b 0 Z ∧ CellsAt W so 0 O ∧ Gro w5.heap.size W (.slice a6 dn k6) s.dat ∧ CG (fun g => w7.heap.size ≤ g ∧ g < w9.heap.size) W (.slice a8 gn k8) s.got)) := by
    have k := U4.out.next b49
    intro W hW
    have k2 := k W hW
    exact ⟨k2.1, k2.2, c9.later l9 hW, g9.later hW, cg9.later hW⟩
  have LO : Hid (O.length = 10) := by rw [hO]; exact rfl
  have OV := hide hO
  have Z79 : Hid (w7.heap.size ≤ w9.heap.size ∧ so < w5.heap.size ∧ w5.heap.size ≤ w7.heap.size ∧ w4.heap.size ≤ so) := ⟨Nat.le_trans b8.size bo9.size, L5.out, n58, by rw [SO.out]; exact Nat.le_refl _⟩
  have EN := tEnc_any (P := fun g => w7.heap.size ≤ g ∧ g < w9.heap.size) x y XO.out YO.out s HS.out.ok (.slice a8 gn k8) (.slice a6 dn k6) w9 cg9 g9.isB
  rw [XV.out.1, XV.out.2.1, ← hO] at EN
  obtain ⟨E, hE⟩ : ∃ E, E = teE s := ⟨_, rfl⟩
  obtain ⟨L, hL⟩ : ∃ L, L = teB x y s := ⟨_, rfl⟩
  rw [← hE, ← hL] at EN
  have HEN := hide EN
  have HE := hide hE
  have HL := hide hL
  have LL : Hid (L.length ≤ 1100) := by rw [hL]; exact teB_max _ _ _
  have C1 := hide U9.out.now.1.1
  have C2 := hide U9.out.now.1.2
  have C9 := hide c9
  have hw9' := hw9.symm
  clear N57 cg8 hrun b8 c8 f8 hw9 bo9 c9 l9 b48 b49 g9 n58 cg9 hO EN hE hL U7 CG7 C7 F7 L7 G7 U4 U5 B5 B47
  go_upto_region 5 with (at_builtin; refine wpList_runV rfl (exec_app _ _ 23 23 rfl (.slice none 0 0) (.slice ga gn gc) rfl rfl 23 rfl HRUN.out) ?_)
  clear x8 y8 fy8 hw9' HRUN
  go_wp2_with (first | refine wpList_loadA rfl 35 4 aggI sizI _ rfl s1 0 rfl X LX.out C1.out ?_ | refine wpList_loadA rfl 35 4 aggI sizI _ rfl s2 0 rfl Y LY.out C2.out ?_ | refine wpList_loadA rfl 26 10 aggSg sizSg _ rfl so 0 rfl O LO.out C9.out ?_)
  refine HEN.out.mono ?_
  rintro _ w10 ⟨xv, rfl, g10, b10⟩
  obtain ⟨xa, xc, rfl, _⟩ := g10.isB.shape
  obtain ⟨xn, hxn⟩ : ∃ xn, xn = L.length := ⟨_, rfl⟩
  rw [← hxn] at g10 ⊢
  have HXN := hide hxn
  have B10 := hide (later B9.out b10)
  have U10 := hide ((U9.out.next b10).and g10.up)
  have Z10 : Hid (w9.heap.size ≤ w10.heap.size) := b10.size
  have XLI : Hid (∀ g x y, (.slice xa xn xc : Value) = .slice (some ⟨g, 0, none⟩) x y → w9.heap.size ≤ g ∧ g < w10.heap.size) := fun g x y e => g10.lies g x y e
  have RE := rEncT_any (P := fun g => g < w.heap.size) x y XO.out YO.out s HS.out.ok (.slice ga gn gc) (.slice da dn dc) w10 (HS.out.got.later B10.out) (HS.out.dat.later B10.out) (by have := HS.out.datl; omega)
  rw [XV.out.1, XV.out.2.1, XV.out.2.2, ← HE.out, ← HL.out] at RE
  have HRE := hide RE
  have C1 := hide U10.out.now.1.1.1
  have C2 := hide U10.out.now.1.1.2
  have C3 := hide U10.out.now.1.2.1
  clear HEN b10 g10 hxn RE C9 U9
  go_upto_region 6 with fail
  go_wp2_with (first | refine wpList_loadA rfl 35 4 aggI sizI _ rfl s1 0 rfl X LX.out C1.out ?_ | refine wpList_loadA rfl 35 4 aggI sizI _ rfl s2 0 rfl Y LY.out C2.out ?_ | refine wpList_loadA rfl 26 10 aggSg sizSg _ rfl b 0 rfl Z LZ.out C3.out ?_)
  refine HRE.out.mono ?_
  rintro _ w11 ⟨yv, rfl, g11, b11⟩
  obtain ⟨ya, yc, rfl, _⟩ := g11.isB.shape
  rw [← HXN.out] at g11 ⊢
  have B11 := hide (later B10.out b11)
  have U11 := hide ((U10.out.next b11).and g11.isB.up)
  have Z11 : Hid (w10.heap.size ≤ w11.heap.size) := b11.size
  clear HRE b11 g11 C3 U10
  -- raw
  have IR11 := hide (HR0.out.later B11.out)
  have LD11 : Hid (([] : List Int).length + r.length ≤ 140737488355328) := by unfold Hid; rw [← HRN.out, List.length_nil]; omega
  have EL11 : Hid (([] : List Int) ++ r = r) := rfl
  have GN11 : Hid (Gro w11.heap.size w11 (.slice none 0 0) []) := Gro.nil _ _
  have NN11 : Hid (w11.heap.size ≤ w11.heap.size) := Nat.le_refl _
  go_upto_region 7 with fail
  go_wp2_with (at_builtin; refine wpList_growB rfl (.const (.slice none 0 0)) (.tmp 49) rfl rfl w11.heap.size (.slice none 0 0) _ [] r rfl rfl GN11.out IR11.out NN11.out LD11.out r EL11.out ?_)
  intro ka kc w12 _ g12 b12
  rw [← HRN.out] at g12 ⊢
  have B12 := hide (later B11.out b12)
  have U12 := hide ((U11.out.next b12).and g12.up)
  have Z12 : Hid (w11.heap.size ≤ w12.heap.size) := b12.size
  have KLI : Hid (∀ g x y, (.slice ka rn kc : Value) = .slice (some ⟨g, 0, none⟩) x y → w11.heap.size ≤ g ∧ g < w12.heap.size) := fun g x y e => g12.lies g x y e
  have DE := tDec_any x y XO.out YO.out (.slice ka rn kc) r w12 g12.isB RB.out (by rw [← HRN.out]; omega)
  rw [XV.out.1, XV.out.2.1] at DE
  have MG := tdS_got x y r
  have MD := tdS_dat (x := x) (y := y) RB.out
  obtain ⟨M, hM⟩ : ∃ M, M = tdS x y r := ⟨_, rfl⟩
  obtain ⟨F, hF⟩ : ∃ F, F = tdE x y r := ⟨_, rfl⟩
  rw [← hM, ← hF] at DE
  rw [← hM] at MG MD
  have HMG := hide MG
  have HMD := hide MD
  have HM := hide hM
  have HF := hide hF
  have HDE := hide DE
  have C1 := hide U12.out.now.1.1.1.1.1
  have C2 := hide U12.out.now.1.1.1.1.2
  clear g12 b12 DE hM hF MG MD IR11 LD11 EL11 GN11 NN11 U11
  go_upto_region 8 with fail
  go_wp2_with (first | refine wpList_loadA rfl 35 4 aggI sizI _ rfl s1 0 rfl X LX.out C1.out ?_ | refine wpList_loadA rfl 35 4 aggI sizI _ rfl s2 0 rfl Y LY.out C2.out ?_)
  refine HDE.out.mono ?_
  rintro _ w13 ⟨pg, pd, rfl, g13, d13, b13⟩
  obtain ⟨pga, pgc, rfl⟩ := g13.shape
  obtain ⟨pa, pc, rfl, _⟩ := d13.isB.shape
  obtain ⟨pn, hpn⟩ : ∃ pn, pn = M.dat.length := ⟨_, rfl⟩
  rw [← hpn] at d13 ⊢
  have HPN := hide hpn
  obtain ⟨D, hD⟩ : ∃ D, D = M.cells (.slice pga M.got.length pgc) (.slice pa pn pc) := ⟨_, rfl⟩
  have LD : Hid (D.length = 10) := by rw [hD]; exact rfl
  have OD : Hid (∀ u ∈ D, u.oneCell' = true) := by rw [hD]; exact sg_one _ _ _ rfl rfl
  have D9 : D[9]? = some (.slice pa pn pc) := by rw [hD]; rfl
  have HD9 := hide D9
  have HDV := hide hD
  rw [← hD]
  obtain ⟨u14, w14, hu14, hw14, cu14, fu14, c14, b14, l14, _⟩ := newS w13 D LD.out
  obtain ⟨sp, hsp⟩ : ∃ sp, sp = w13.heap.size := ⟨_, rfl⟩
  rw [← hsp] at hw14 cu14 fu14 c14 l14
  have SP : Hid (sp = w13.heap.size) := hsp
  have B14 := hide (later (later B12.out b13) b14)
  have U14 := hide (((((U12.out.next b13).and d13.up).next b14)).and (c14.up l14))
  have G14 := hide (g13.later b14)
  have PLI : Hid (∀ g x y, (.slice pa pn pc : Value) = .slice (some ⟨g, 0, none⟩) x y → w12.heap.size ≤ g ∧ g < w13.heap.size) := fun g x y e => d13.lies g x y e
  have Z13 : Hid (w12.heap.size ≤ w13.heap.size) := b13.size
  have CU14 := hide cu14
  have FU14 := hide fu14
  have hu14' := hu14.symm
  simp only [zSC, zSg, Sg.cells] at hu14'
  have hw14' := hw14.symm
  have hsp' := hsp.symm
  have RD := rDecT_any x y XO.out YO.out (.slice ra rn rc) r w14 (HR0.out.later B14.out) RB.out (by rw [← HRN.out]; omega)
  rw [← HM.out, ← HF.out, XV.out.1, XV.out.2.1] at RD
  have HRD := hide RD
  clear hu14 hw14 hsp cu14 fu14 c14 b13 b14 l14 g13 d13 HDE U12 C1 C2 hD hpn D9 RD
  have C1 := hide U14.out.now.1.1.1.1.1.1.1
  have C2 := hide U14.out.now.1.1.1.1.1.1.2
  go_upto_region 9 with (refine wpList_storeA rfl 26 10 sizSg _ _ rfl sp 0 rfl D zSC rfl LD.out rfl CU14.out FU14.out OD.out ?_; intro _; rw [hw14'])
  clear hu14' hw14' hsp' CU14 FU14
  go_wp2_with (first | refine wpList_loadA rfl 35 4 aggI sizI _ rfl s1 0 rfl X LX.out C1.out ?_ | refine wpList_loadA rfl 35 4 aggI sizI _ rfl s2 0 rfl Y LY.out C2.out ?_)
  refine HRD.out.mono ?_
  rintro _ w15 ⟨qg, qd, rfl, g15, d15, b15⟩
  obtain ⟨qga, qgc, rfl⟩ := g15.shape
  obtain ⟨qa, qc, rfl, _⟩ := d15.shape
  obtain ⟨D2, hD2⟩ : ∃ D, D = M.cells (.slice qga M.got.length qgc) (.slice qa M.dat.length qc) := ⟨_, rfl⟩
  have LD2 : Hid (D2.length = 10) := by rw [hD2]; exact rfl
  have OD2 : Hid (∀ u ∈ D2, u.oneCell' = true) := by rw [hD2]; exact sg_one _ _ _ rfl rfl
  rw [← hD2]
  obtain ⟨u16, w16, hu16, hw16, cu16, fu16, c16, b16, l16, _⟩ := newS w15 D2 LD2.out
  obtain ⟨sq, hsq⟩ : ∃ sq, sq = w15.heap.size := ⟨_, rfl⟩
  rw [← hsq] at hw16 cu16 fu16 c16 l16
  have b146 := later b15 b16
  have B16 := hide (later B14.out b146)
  have U16 := hide (U14.out.next b146)
  have C16 := hide c16
  have CU16 := hide cu16
  have FU16 := hide fu16
  have SM := SameT_true M (.slice pga M.got.length pgc) (.slice pa pn pc) (.slice qga M.got.length qgc) (.slice qa M.dat.length qc) w16 (G14.out.later b146) (g15.later b16) U16.out.now.1.2.isB (d15.later b16) (by have := HMG.out; omega)
  rw [← HDV.out, ← hD2] at SM
  have HSM := hide SM
  have hu16' := hu16.symm
  simp only [zSC, zSg, Sg.cells] at hu16'
  have hw16' := hw16.symm
  have hsq' := hsq.symm
  clear hu16 hw16 hsq cu16 fu16 c16 b15 b16 b146 l16 g15 d15 HRD U14 C1 C2 hD2 SM G14
  go_upto_region 10 with (refine wpList_storeA rfl 26 10 sizSg _ _ rfl sq 0 rfl D2 zSC rfl LD2.out rfl CU16.out FU16.out OD2.out ?_; intro _; rw [hw16'])
  clear hu16' hw16' hsq' CU16 FU16
  have CP := hide U16.out.now.2
  go_wp2_with (first | refine wpList_loadA rfl 26 10 aggSg sizSg _ rfl sp 0 rfl D LD.out CP.out ?_ | refine wpList_loadA rfl 26 10 aggSg sizSg _ rfl sq 0 rfl D2 LD2.out C16.out ?_)
  refine HSM.out.mono ?_
  rintro _ w17 ⟨rfl, b17⟩
  have B17 := hide (later B16.out b17)
  have U17 := hide (U16.out.next b17)
  clear b17 HSM CP C16 U16
  have t1 := conv_str U17.out.now.1.1.1.1.2.isB
  have t2 := conv_str U17.out.now.1.1.1.2
  obtain ⟨S1, hS1⟩ : ∃ S1, S1 = strB L := ⟨_, rfl⟩
  rw [← hS1] at t1 t2
  clear hS1
  go_upto_region 12 with fail
  clear t1 t2
  have pz : (pn : Int) ≤ 1024 := by have := HPN.out; have := HMD.out; omega
  have xz : (xn : Int) ≤ 1100 := by have := HXN.out; have := LL.out; omega
  have BwZ : Hid (w.heap.size ≤ w9.heap.size ∧ w.heap.size ≤ w12.heap.size ∧ w.heap.size ≤ w4.heap.size) := ⟨B9.out.size, B12.out.size, B4.out.size⟩
  go_wp2
  go_loopw [22] (fun vi wr => ∃ (k : Nat) (Q : List Int), vi = .int .i64 (k : Int) ∧ k ≤ pn ∧ Hid (Q.length = pn) ∧ Hid (Gro w12.heap.size wr (.slice pa pn pc) Q) ∧ Hid (But (fun g => w12.heap.size ≤ g ∧ g < w13.heap.size) w17 wr)) (fun vi _ => pn - (intOf vi).toNat)
  case atStart => exact ⟨0, M.dat, rfl, Nat.zero_le _, HPN.out.symm, U17.out.now.1.2, But.refl _ _⟩
  case round =>
    obtain ⟨k, Q, rfl, hk, hQ, GQ, Bt⟩ := hrel
    have l17 : sp < w17.heap.size := U17.out.now.2.lt (by rw [LD.out]; decide)
    have x9 : wr.cell? ⟨sp, 9, none⟩ = some (.slice pa pn pc) := by
      have h := U17.out.now.2.but l17 Bt.out (fun e => by have := e.2; have := SP.out; omega)
      exact h 9 _ HD9.out
    by_cases hlt : k < pn
    · obtain ⟨qq, rfl, hq, hc, hf⟩ := GQ.out.block (by rw [hQ.out]; omega)
      have cq := hc k (by rw [hQ.out]; exact hlt)
      have fq := hf k
      have HQQ := hide (PLI.out qq _ _ rfl)
      have sqq : sp ≠ qq := fun e => by have := HQQ.out.2; have := SP.out; omega
      obtain ⟨z, ez⟩ : ∃ z, Q[k]?.getD 0 = z := ⟨_, rfl⟩
      rw [ez] at cq
      have kz : (k : Int) < (pn : Int) := by omega
      clear ez hc hf hq hk l17
      go_upto_region 15 with fail
      go_region
      go_wp2
      go_roundw
      case rel => exact ⟨k + 1, Q.set k ((z + 1) % 256), by go_num, by omega, by show _ = _; rw [List.length_set]; exact hQ.out, (GQ.out.store hQ.out.symm k _).later ⟨rfl, rfl, rfl, Nat.le_refl _, fun _ _ => rfl⟩, (Bt.out.setCell (p := ⟨qq, k, none⟩) (.inr HQQ.out) _).drew⟩
      case measure => simp [intOf]; omega
    · obtain ⟨wz, hwz⟩ : ∃ wz, wz = wr := ⟨_, rfl⟩
      rw [← hwz] at Bt x9 ⊢
      obtain ⟨zz7, zz5, zz57, zz4⟩ := Z79.out
      have zz10 := Z10.out
      have zz11 := Z11.out
      have zz12 := Z12.out
      have zz3 := Z34.out
      obtain ⟨zw3, zb⟩ := SB.out
      have k17 := U17.out.now
      have GX := hide (k17.1.1.1.1.2.away Bt.out (fun g x y e k => by have := (XLI.out g x y e).2; have := k.1; omega))
      have GK := hide (k17.1.1.2.away Bt.out (fun g x y e k => by have := (KLI.out g x y e).2; have := k.1; omega))
      have GD := hide (k17.1.1.1.1.1.2.2.2.1.away Bt.out (fun g x y e k => by have := (LI7.out g x y e).2; have := k.1; omega))
      have GG9 := hide (k17.1.1.1.1.1.2.2.2.2.but Bt.out (fun g h k => by have := h.2; have := k.1; omega))
      have lo : so < w17.heap.size := k17.1.1.1.1.1.2.2.1.lt (by rw [LO.out]; decide)
      have lb : b < w17.heap.size := k17.1.1.1.1.1.2.1.lt (by rw [LZ.out]; decide)
      have CO := hide (k17.1.1.1.1.1.2.2.1.but lo Bt.out (fun e => by have := e.1; omega))
      have CZ := hide (k17.1.1.1.1.1.2.1.but lb Bt.out (fun e => by have := e.1; omega))
      have LOZ : Hid (so < wz.heap.size ∧ b < wz.heap.size) := ⟨Nat.lt_of_lt_of_le lo Bt.out.size, Nat.lt_of_lt_of_le lb Bt.out.size⟩
      have BZ := hide (B17.out.trans (Bt.out.below B17.out.size (fun g hg e => by have := e.1; have := BwZ.out.2.1; omega)))
      have kz : ¬ (k : Int) < (pn : Int) := by omega
      clear GQ Bt hQ hlt hk hwz U17 lo lb k17 l17 zz7 zz5 zz57 zz4 zz10 zz11 zz12 zz3 zw3 zb
      go_wp2
      clear x9
      go_loopw [23] (fun vi wq => ∃ (j : Nat) (T : List Int), vi = .int .i64 (j : Int) ∧ j ≤ xn ∧ Hid (T.length = xn) ∧ Hid (Gro w9.heap.size wq (.slice xa xn xc) T) ∧ Hid (But (fun g => w9.heap.size ≤ g ∧ g < w10.heap.size) wz wq)) (fun vi _ => xn - (intOf vi).toNat)
      case atStart => exact ⟨0, L, rfl, Nat.zero_le _, HXN.out.symm, GX.out, But.refl _ _⟩
      case round =>
        obtain ⟨j, T, rfl, hj, hT, GT, Bt⟩ := hrel
        by_cases hjl : j < xn
        · obtain ⟨qq, rfl, hq, hc, hf⟩ := GT.out.block (by rw [hT.out]; omega)
          have cq := hc j (by rw [hT.out]; exact hjl)
          have fq := hf j
          have HQQ := hide (XLI.out qq _ _ rfl)
          obtain ⟨z, ez⟩ : ∃ z, T[j]?.getD 0 = z := ⟨_, rfl⟩
          rw [ez] at cq
          have jz : (j : Int) < (xn : Int) := by omega
          clear ez hc hf hq hj
          go_wp2
          go_roundw
          case rel => exact ⟨j + 1, T.set j ((z + 1) % 256), by go_num, by omega, by show _ = _; rw [List.length_set]; exact hT.out, GT.out.store hT.out.symm j _, Bt.out.setCell (p := ⟨qq, j, none⟩) (.inr HQQ.out) _⟩
          case measure => simp [intOf]; omega
        · have BE : Below w.heap.size w wr := BZ.out.trans (Bt.out.below BZ.out.size (fun g hg e => by have := e.1; have := BwZ.out.1; omega))
          obtain ⟨zz7, zz5, zz57, zz4⟩ := Z79.out
          have zz10 := Z10.out
          have zz11 := Z11.out
          have zz3 := Z34.out
          obtain ⟨zw3, zb⟩ := SB.out
          have CO2 := hide (CO.out.but LOZ.out.1 Bt.out (fun e => by have := e.1; omega))
          have CZ2 := hide (CZ.out.but LOZ.out.2 Bt.out (fun e => by have := e.1; omega))
          have GD2 := GD.out.away Bt.out (fun g x y e k => by have := (LI7.out g x y e).2; have := k.1; omega)
          have GG2 := GG9.out.but Bt.out (fun g h k => by have := h.2; have := k.1; omega)
          have GK2 := hide (GK.out.away Bt.out (fun g x y e k => by have := (KLI.out g x y e).1; have := k.2; omega))
          have SM := SameT_true s (.slice a8 gn k8) (.slice a6 dn k6) (.slice ga gn gc) (.slice da dn dc) wr GG2 (HS.out.got.later BE) GD2.isB (HS.out.dat.later BE) (by have := HS.out.gotl; omega)
          rw [← OV.out, XV.out.2.2] at SM
          have HSM := hide SM
          have BEH := hide BE
          have jz : ¬ (j : Int) < (xn : Int) := by omega
          clear BE GT Bt hj hjl hT SM GD2 GG2 zz7 zz5 zz57 zz4 zz10 zz11 zz3 zw3 zb
          go_upto_region 20 with fail
          go_wp2_with (first | refine wpList_loadA rfl 26 10 aggSg sizSg _ rfl so 0 rfl O LO.out CO2.out ?_ | refine wpList_loadA rfl 26 10 aggSg sizSg _ rfl b 0 rfl Z LZ.out CZ2.out ?_)
          refine HSM.out.mono ?_
          rintro _ w20 ⟨rfl, b20⟩
          have B20 := hide (later BEH.out b20)
          have t3 := conv_str (GK2.out.later b20).isB
          have t4 := conv_str (HR0.out.later B20.out)
          obtain ⟨S3, hS3⟩ : ∃ S3, S3 = strB r := ⟨_, rfl⟩
          rw [← hS3] at t3 t4
          clear hS3 b20 HSM
          go_wp2
          go_ret
          exact ⟨rfl, B20.out⟩
end Go.Proofs.Ytggadchhkenipaa
