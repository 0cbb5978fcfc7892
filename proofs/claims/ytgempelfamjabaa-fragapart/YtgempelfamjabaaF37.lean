
/-
  The chapter's example: awake.
-/
import Derived.Test.YtgempelfamjabaaF36
namespace Go.Proofs.Ytgempelfamjabaa
open Go.RowKit Go.Shelf

/-- Put behind a block that is made first -/
theorem put_got2 {ρ : Nat → Nat × Nat} {w w1 : World} {b : Nat} {G : List (Nat × Gm)} {Q : Nat → Prop} (h : FrAt ρ w b G) (hok : OkS (absG G)) (p : Pk) (ov : Value) (ho : CB (fun g => ρ g = (0, 9)) w ov p.opts) (hol : p.opts.length ≤ 140737488355328) (bv : Value) (D : List Int) (hd : CB Q w bv D) (hdl : D.length ≤ 140737488355328) (hp0 : -9223372036854775808 ≤ p.off) (hp1 : p.off ≤ 9223372036854775807) (buf now : Int) (r : Option (Pk × List Int × List Int) × List Int × List Gm) (hr : putS p D buf now (absG G) = r) (hw1 : w1 = w.alloc (.cells zWh.toArray 49)) :
    Calls Try.prog 17 #[.pointer (some ⟨b, 0, none⟩), .agg (p.cells ov).toArray, bv, .int .i64 buf, .int .i64 now] w1 fun e w' => ∃ v, e = .returned v ∧ ∃ (ρ' : Nat → Nat × Nat) (G' : List (Nat × Gm)) (hv dv bv : Value) (ga : Option Addr) (gc : Nat), v = .tuple #[.agg (whC (outP r.1) hv dv bv).toArray, .bool r.1.isSome, .slice ga r.2.1.length gc] ∧ PutGot w1 w' (cutR ρ w.heap.size) ρ' b G' r hv dv bv (.slice ga r.2.1.length gc) := by
  have b1 : Below w.heap.size w w1 := by rw [hw1]; exact later_alloc _ _
  exact put_got (h.cut.later b1) hok p ov ((ho.own (P' := fun g => cutR ρ w.heap.size g = (0, 9)) (fun g hg e => by rw [cutR_lt hg]; exact e)).later b1) hol bv D (hd.later b1) hdl hp0 hp1 buf now r hr
theorem okr1 : OkS exr1.2.2 := OkS.nil.put _ _ _ _
theorem okr2 : OkS exr2.2.2 := okr1.put _ _ _ _
theorem okr3 : OkS exr3.2.2 := okr2.put _ _ _ _
theorem okr4 : OkS exr4.2.2 := okr3.put _ _ _ _
/-- between two calls of Put: what was there ahead of the datagrams is as it was -/
structure AwM (wS : World) (b : Nat) (ρ : Nat → Nat × Nat) (G : List (Nat × Gm)) (W : World) : Prop where
  fr : FrAt ρ W b G
  low : ∀ g, g < wS.heap.size → ρ g = (0, 9)
  bel : Below wS.heap.size wS W
theorem AwM.step {wS W W' : World} {b : Nat} {ρ ρ' : Nat → Nat × Nat} {G G' : List (Nat × Gm)} (h : AwM wS b ρ G W) (hf : FrAt ρ' W' b G') (ho : ∀ g, g < W.heap.size → ρ' g = ρ g) (hb : But (fun g => ρ g ≠ (0, 9) ∧ g < W.heap.size) W.drew W') : AwM wS b ρ' G' W' := by
  have z := h.bel.size
  refine ⟨hf, fun g hg => by rw [ho g (by omega)]; exact h.low g hg, h.bel.trans (((later_drew W).mono z).trans (hb.below (show wS.heap.size ≤ W.drew.heap.size from z) (fun g hg e => e.1 (h.low g hg))))⟩
theorem absG_nil {G : List (Nat × Gm)} (h : (absG G).length = 0) : G.length = 0 := by unfold absG at h; rwa [List.length_map] at h
theorem three {L : List Pi} {a b c : Pk × List Int} (h : L.map Pi.ab = [a, b, c]) : ∃ x y z, L = [x, y, z] ∧ x.ab = a ∧ y.ab = b ∧ z.ab = c := by
  obtain ⟨x, L1, rfl, hx, h1⟩ := List.map_eq_cons_iff.1 h
  obtain ⟨y, L2, rfl, hy, h2⟩ := List.map_eq_cons_iff.1 h1
  obtain ⟨z, L3, rfl, hz, h3⟩ := List.map_eq_cons_iff.1 h2
  obtain rfl := List.map_eq_nil_iff.1 h3
  exact ⟨x, y, z, rfl, hx, hy, hz⟩
theorem pi_parts {W : World} {lg o : Nat} {x : Pi} {p : Pk} (h : CellsAt W lg o x.cells) (e : x.p = p) : CellsAt W lg o (p.cells x.hv) ∧ W.cell? ⟨lg, o + 16, none⟩ = some x.dv := by
  unfold Pi.cells at h
  rw [CellsAt.append] at h
  subst e
  exact ⟨h.1, h.2 0 _ rfl⟩
set_option maxRecDepth 100000 in
set_option maxHeartbeats 32000000 in
theorem awake_any (w : World) : Calls Try.prog 9 #[] w fun e w' => e = .returned (.bool true) ∧ Below w.heap.size w w' := by
  obtain ⟨w1, hmk, g1, b1, l1⟩ := mkB w 100 (by decide)
  obtain ⟨gb, hgb⟩ : ∃ gb, gb = w.heap.size := ⟨_, rfl⟩
  rw [← hgb] at hmk g1 l1
  obtain ⟨g', e', hg', hcell, hfz⟩ := g1.block (by rw [List.length_replicate]; decide)
  cases e'
  have x99 : w1.cell? ⟨gb, 99, none⟩ = some (.int .u8 0) := by rw [hcell 99 (by rw [List.length_replicate]; decide)]; rfl
  have f99 := hfz 99
  obtain ⟨w2, hw2⟩ : ∃ w2, w2 = w1.setCell ⟨gb, 99, none⟩ (.int .u8 7) := ⟨_, rfl⟩
  have g2 : Gro w.heap.size w2 (.slice (some ⟨gb, 0, none⟩) 100 100) exB := by rw [hw2, ← hgb]; exact g1.store (by rw [List.length_replicate]) 99 7
  have b2 : Below w.heap.size w w2 := by rw [hw2]; exact b1.setCell (p := ⟨gb, 99, none⟩) (by show w.heap.size ≤ gb; omega) _
  have z2 : w2.heap.size = w1.heap.size := by rw [hw2]; simp
  -- the packet
  obtain ⟨s2, hs2⟩ : ∃ s2, s2 = w2.heap.size := ⟨_, rfl⟩
  obtain ⟨XP, hXP⟩ : ∃ XP, XP = exP.cells (.slice none 0 0) := ⟨_, rfl⟩
  have LXP : Hid (XP.length = 16) := by rw [hXP]; exact rfl
  obtain ⟨w3, hw3⟩ : ∃ w3, w3 = w2.alloc (.cells (zF.cells (.slice none 0 0)).toArray 26) := ⟨_, rfl⟩
  have b3 : Below w2.heap.size w2 w3 := by rw [hw3]; exact later_alloc _ _
  have c3 : CellsAt w3 s2 0 (zF.cells (.slice none 0 0)) := by rw [hw3, hs2]; exact CellsAt.new w2 _ _
  have f3 : ∀ y, w3.frozen? ⟨s2, y, none⟩ = false := by rw [hw3, hs2]; exact fun y => frozen_new w2 _ _ _
  obtain ⟨w4, hw4⟩ : ∃ w4, w4 = w3.setCells s2 0 (exP.cells (.slice none 0 0)) := ⟨_, rfl⟩
  have b4 : But (Only s2) w3 w4 := by rw [hw4]; exact But.cells s2 _ 0 w3
  have c4 : CellsAt w4 s2 0 XP := by rw [hw4, hXP]; exact c3.stored rfl
  have z3 := b3.size
  have lw2 : w.heap.size ≤ w2.heap.size := b2.size
  have B4 : Below w.heap.size w w4 := (later b2 b3).trans (b4.below (by omega) (fun g hg e => by have e : g = s2 := e; omega))
  have D4 : CB (fun g => g < s2) w4 (.slice (some ⟨gb, 0, none⟩) 100 100) exB := (((g2.cn.own (P' := fun g => g < s2) (fun g hg _ => by omega)).later b3).but b4 (fun g e e2 => by have e2 : g = s2 := e2; omega))
  have HC3 := hide c3
  have HF3 := hide f3
  have SP := split_any (P := fun _ => False) (Q := fun g => g < s2) exP (.slice none 0 0) w4 (Cn.nil _ _ _) (fun x hx => by cases hx) (by decide) (.slice (some ⟨gb, 0, none⟩) 100 100) exB D4 (by decide) 68 (by decide)
  rw [← hXP, show spE exP exB.length 68 = 0 from ex_spl.1, ex_spl.2] at SP
  have HSP := hide SP
  have HMK := hide hmk
  have hw2' := hw2.symm
  have hw3' : w2.alloc (.cells #[.int .u8 0, .int .u8 0, .int .u8 0, .int .u8 0, .int .u8 0, .int .u8 0, .int .u8 0, .int .u8 0, .int .i64 0, .int .i64 0, .int .i64 0, .int .i64 0, .bool false, .bool false, .int .i64 0, .slice none 0 0] 26) = w3 := by rw [hw3]; rfl
  have hw4' := hw4.symm
  have HXP := hide hXP
  have HB4 := hide B4
  have HD4 := hide D4
  have HC4 := hide c4
  have l4 : s2 < w4.heap.size := c4.lt (by rw [LXP.out]; decide)
  have HL4 := hide l4
  have hs2' := hs2.symm
  clear hmk g1 b1 l1 hg' hcell hfz hw2 g2 b2 z2 hw3 b3 c3 f3 z3 lw2 hw4 b4 c4 B4 D4 SP hXP hs2 l4 hgb
  go_enter Try.func9, Try.ntmps9
  go_wp2_with (first | refine wpList_runV rfl (exec_mkB _ _ 100 _ rfl rfl rfl HMK.out) ?_ | (refine wpList_storeA rfl 26 16 sizP _ _ rfl s2 0 rfl (exP.cells (.slice none 0 0)) (zF.cells (.slice none 0 0)) rfl rfl rfl HC3.out HF3.out (pkV_one exP _ rfl) ?_; intro _; rw [hw4']) | refine wpList_loadA rfl 26 16 aggP sizP _ rfl s2 0 rfl XP LXP.out HC4.out ?_)
  refine HSP.out.mono ?_
  rintro _ wS ⟨lv, rfl, τ, L, PA, hab, bS⟩
  obtain ⟨x0, x1, x2, rfl, e0, e1, e2⟩ := three hab
  obtain ⟨la, lc, rfl⟩ := PA.shape
  obtain ⟨lg, rfl, hlg, _, _, hrow⟩ := PA.row.at (show 0 < [x0, x1, x2].length by simp)
  obtain ⟨ha0, hc0, eh0⟩ := (PA.hv 0 x0 rfl).shape
  obtain ⟨ea0, ec0, ed0⟩ := (PA.dv 0 x0 rfl).shape
  have ep0 : x0.p = ex0 := congrArg Prod.fst e0
  have eD0 : x0.D = exB.take 48 := congrArg Prod.snd e0
  rw [ep0, show ex0.opts.length = 0 from rfl] at eh0
  rw [eD0, show (exB.take 48).length = 48 by decide] at ed0
  have HO0 := (PA.hv 0 x0 rfl).cn.own (P' := fun g => g < wS.heap.size) (fun g hg _ => hg)
  have HD0 := (PA.dv 0 x0 rfl).cn.own (P' := fun g => g < wS.heap.size) (fun g hg _ => hg)
  rw [ep0, eh0] at HO0
  rw [eD0, ed0] at HD0
  obtain ⟨XK0, hXK0⟩ : ∃ X, X = x0.cells := ⟨_, rfl⟩
  have CK0 : Hid (CellsAt wS lg 0 XK0) := by rw [hXK0]; exact hrow 0 (by simp)
  have LK0 : Hid (XK0.length = 17) := by rw [hXK0]; exact rfl
  have XP0 : Hid (∀ W, CellsAt W lg 0 XK0 → CellsAt W lg 0 (ex0.cells (.slice ha0 0 hc0)) ∧ W.cell? ⟨lg, 16, none⟩ = some (.slice ea0 48 ec0)) := fun W h => by
    rw [hXK0] at h
    have := pi_parts h ep0
    rw [eh0, ed0] at this
    exact this
  replace HO0 := hide HO0
  replace HD0 := hide HD0
  clear hXK0 eh0 ed0 ep0 eD0
  obtain ⟨ha1, hc1, eh1⟩ := (PA.hv 1 x1 rfl).shape
  obtain ⟨ea1, ec1, ed1⟩ := (PA.dv 1 x1 rfl).shape
  have ep1 : x1.p = ex1 := congrArg Prod.fst e1
  have eD1 : x1.D = (exB.drop 48).take 48 := congrArg Prod.snd e1
  rw [ep1, show ex1.opts.length = 0 from rfl] at eh1
  rw [eD1, show ((exB.drop 48).take 48).length = 48 by decide] at ed1
  have HO1 := (PA.hv 1 x1 rfl).cn.own (P' := fun g => g < wS.heap.size) (fun g hg _ => hg)
  have HD1 := (PA.dv 1 x1 rfl).cn.own (P' := fun g => g < wS.heap.size) (fun g hg _ => hg)
  rw [ep1, eh1] at HO1
  rw [eD1, ed1] at HD1
  obtain ⟨XK1, hXK1⟩ : ∃ X, X = x1.cells := ⟨_, rfl⟩
  have CK1 : Hid (CellsAt wS lg 17 XK1) := by rw [hXK1]; exact hrow 1 (by simp)
  have LK1 : Hid (XK1.length = 17) := by rw [hXK1]; exact rfl
  have XP1 : Hid (∀ W, CellsAt W lg 17 XK1 → CellsAt W lg 17 (ex1.cells (.slice ha1 0 hc1)) ∧ W.cell? ⟨lg, 33, none⟩ = some (.slice ea1 48 ec1)) := fun W h => by
    rw [hXK1] at h
    have := pi_parts h ep1
    rw [eh1, ed1] at this
    exact this
  replace HO1 := hide HO1
  replace HD1 := hide HD1
  clear hXK1 eh1 ed1 ep1 eD1
  obtain ⟨ha2, hc2, eh2⟩ := (PA.hv 2 x2 rfl).shape
  obtain ⟨ea2, ec2, ed2⟩ := (PA.dv 2 x2 rfl).shape
  have ep2 : x2.p = ex2 := congrArg Prod.fst e2
  have eD2 : x2.D = exB.drop 96 := congrArg Prod.snd e2
  rw [ep2, show ex2.opts.length = 0 from rfl] at eh2
  rw [eD2, show (exB.drop 96).length = 4 by decide] at ed2
  have HO2 := (PA.hv 2 x2 rfl).cn.own (P' := fun g => g < wS.heap.size) (fun g hg _ => hg)
  have HD2 := (PA.dv 2 x2 rfl).cn.own (P' := fun g => g < wS.heap.size) (fun g hg _ => hg)
  rw [ep2, eh2] at HO2
  rw [eD2, ed2] at HD2
  obtain ⟨XK2, hXK2⟩ : ∃ X, X = x2.cells := ⟨_, rfl⟩
  have CK2 : Hid (CellsAt wS lg 34 XK2) := by rw [hXK2]; exact hrow 2 (by simp)
  have LK2 : Hid (XK2.length = 17) := by rw [hXK2]; exact rfl
  have XP2 : Hid (∀ W, CellsAt W lg 34 XK2 → CellsAt W lg 34 (ex2.cells (.slice ha2 0 hc2)) ∧ W.cell? ⟨lg, 50, none⟩ = some (.slice ea2 4 ec2)) := fun W h => by
    rw [hXK2] at h
    have := pi_parts h ep2
    rw [eh2, ed2] at this
    exact this
  replace HO2 := hide HO2
  replace HD2 := hide HD2
  clear hXK2 eh2 ed2 ep2 eD2
  have HBS := hide (later HB4.out bS)
  have HPS := hide (HC4.out.later HL4.out bS)
  have HDS := hide ((HD4.out.own (P' := fun g => g < w4.heap.size) (fun g hg _ => hg)).later bS)
  have LS2 : Hid (s2 < wS.heap.size) := Nat.lt_of_lt_of_le HL4.out bS.size
  have HLG := hide hlg
  have HW4S := hide bS.size
  clear PA hab bS hrow HSP HC4 HD4 HB4 HC3 HF3 hw2' hw3' hw4' hs2' x99 f99 e0 e1 e2 HL4 hlg HMK
  go_wp2_with fail
  refine (fNew_any wS).mono ?_
  rintro _ w5 ⟨rfl, cN, fN, bN⟩
  obtain ⟨b, hb⟩ : ∃ b, b = wS.heap.size := ⟨_, rfl⟩
  rw [← hb] at cN fN ⊢
  have HB := hide hb
  have AM0 : Hid (AwM wS b (fun g => if g = b then (b, 0) else (0, 9)) [] w5) := ⟨FrAt.new cN fN, fun g hg => if_neg (by omega), bN⟩
  have k14 : w5.cell? ⟨lg, 31, none⟩ = some (.int .i64 48) := (XP1.out w5 ((CK1.out.later HLG.out bN))).1 14 _ rfl
  have k13 : w5.cell? ⟨lg, 30, none⟩ = some (.bool true) := (XP1.out w5 ((CK1.out.later HLG.out bN))).1 13 _ rfl
  have k50 : w5.cell? ⟨lg, 50, none⟩ = some (.slice ea2 4 ec2) := (XP2.out w5 ((CK2.out.later HLG.out bN))).2
  clear cN fN bN hb
  go_upto_region 8 with fail
  clear k14 k13 k50
  obtain ⟨rr, hrr⟩ : ∃ rr, rr = exr1 := ⟨_, rfl⟩
  have HRR := hide hrr
  clear hrr
  have FD := AM0.out.fr.later (later_drew w5)
  have LGD : lg < w5.drew.heap.size := Nat.lt_of_lt_of_le HLG.out AM0.out.bel.size
  have RL : (fun g => if g = b then (b, 0) else (0, 9)) lg = (0, 9) := AM0.out.low lg HLG.out
  have SB : CellsAt w5.drew lg 34 XK2 := CK2.out.later HLG.out (later AM0.out.bel (later_drew w5))
  have HOW : CB (fun g => (fun g => if g = b then (b, 0) else (0, 9)) g = (0, 9)) w5.drew (.slice ha2 0 hc2) ex2.opts := (HO2.out.own (fun g _ e => AM0.out.low g e)).later (later AM0.out.bel (later_drew w5))
  have HDW := HD2.out.later (later AM0.out.bel (later_drew w5))
  have PG1 := hide (put_got FD OkS.nil ex2 _ HOW (by decide) _ _ HDW (by decide) (by decide) (by decide) 3 0 rr (by rw [HRR.out, show absG [] = [] from rfl]; rfl))
  have PG2 := hide (fun (W1 : World) (h : W1 = w5.drew.alloc (.cells zWh.toArray 49)) => put_got2 FD OkS.nil ex2 _ HOW (by decide) _ _ HDW (by decide) (by decide) (by decide) 3 0 rr (by rw [HRR.out, show absG [] = [] from rfl]; rfl) h)
  go_cut [6, 7, 8] from 67 to 80 (fun v6 v7 v8 wx => ∃ (s6 : Nat) (ρ' : Nat → Nat × Nat) (G' : List (Nat × Gm)) (ga : Option Addr) (gc : Nat), v6 = .pointer (some ⟨s6, 0, none⟩) ∧ v7 = .bool rr.1.isSome ∧ v8 = .slice ga rr.2.1.length gc ∧ Hid (PutAft w5.drew wx (fun g => if g = b then (b, 0) else (0, 9)) ρ' b G' rr s6 (.slice ga rr.2.1.length gc)))
  case first =>
    refine regionJ (fun _ => true) (fun W => CellsAt W lg 34 XK2) (by kernel_rfl) ?_
    refine takeJ (i := 0) (v := .pointer (some ⟨b, 0, none⟩)) 68 rfl rfl (by kernel_rfl) (by kernel_rfl) (by kernel_rfl) (by kernel_rfl) (fun _ _ _ h => h) (.inl ⟨by rfl, fun W hW => exec_move _ _ rfl rfl⟩) (SB) ?_
    try simp only [Act.put, List.setIfInBounds_toArray, List.set_cons_zero, List.set_cons_succ]
    refine takeJ (i := 1) (v := .slice (some ⟨lg, 0, none⟩) 3 lc) 69 rfl rfl (by kernel_rfl) (by kernel_rfl) (by kernel_rfl) (by kernel_rfl) (fun _ _ _ h => h) (.inl ⟨by rfl, fun W hW => exec_move _ _ rfl rfl⟩) (SB) ?_
    try simp only [Act.put, List.setIfInBounds_toArray, List.set_cons_zero, List.set_cons_succ]
    refine takeJ (i := 2) (v := .pointer (some ⟨lg, 34, none⟩)) 70 rfl rfl (by kernel_rfl) (by kernel_rfl) (by kernel_rfl) (by kernel_rfl) (fun _ _ _ h => h) (.inl ⟨by rfl, fun W hW => exec_ixPi _ _ lg 3 lc 2 2 rfl rfl rfl rfl (by decide)⟩) (SB) ?_
    try simp only [Act.put, List.setIfInBounds_toArray, List.set_cons_zero, List.set_cons_succ]
    refine takeJ (i := 3) (v := .pointer (some ⟨lg, 34, none⟩)) 71 rfl rfl (by kernel_rfl) (by kernel_rfl) (by kernel_rfl) (by kernel_rfl) (fun _ _ _ h => h) (.inl ⟨by rfl, fun W hW => exec_fieldO 34 _ 0 lg 34 34 rfl rfl (fun w => by kernel_rfl)⟩) (SB) ?_
    try simp only [Act.put, List.setIfInBounds_toArray, List.set_cons_zero, List.set_cons_succ]
    refine takeJ (i := 4) (v := .agg (ex2.cells (.slice ha2 0 hc2)).toArray) 72 rfl rfl (by kernel_rfl) (by kernel_rfl) (by kernel_rfl) (by kernel_rfl) (fun _ _ _ h => h) (.inl ⟨by rfl, fun W hW => exec_loadA 26 16 aggP sizP _ rfl lg 34 rfl _ rfl ((XP2.out W hW).1)⟩) (SB) ?_
    try simp only [Act.put, List.setIfInBounds_toArray, List.set_cons_zero, List.set_cons_succ]
    refine takeJ (i := 5) (v := .slice (some ⟨lg, 0, none⟩) 3 lc) 73 rfl rfl (by kernel_rfl) (by kernel_rfl) (by kernel_rfl) (by kernel_rfl) (fun _ _ _ h => h) (.inl ⟨by rfl, fun W hW => exec_move _ _ rfl rfl⟩) (SB) ?_
    try simp only [Act.put, List.setIfInBounds_toArray, List.set_cons_zero, List.set_cons_succ]
    refine takeJ (i := 6) (v := .pointer (some ⟨lg, 34, none⟩)) 74 rfl rfl (by kernel_rfl) (by kernel_rfl) (by kernel_rfl) (by kernel_rfl) (fun _ _ _ h => h) (.inl ⟨by rfl, fun W hW => exec_ixPi _ _ lg 3 lc 2 2 rfl rfl rfl rfl (by decide)⟩) (SB) ?_
    try simp only [Act.put, List.setIfInBounds_toArray, List.set_cons_zero, List.set_cons_succ]
    refine takeJ (i := 7) (v := .pointer (some ⟨lg, 50, none⟩)) 75 rfl rfl (by kernel_rfl) (by kernel_rfl) (by kernel_rfl) (by kernel_rfl) (fun _ _ _ h => h) (.inl ⟨by rfl, fun W hW => exec_fieldO 34 _ 1 lg 34 50 rfl rfl (fun w => by kernel_rfl)⟩) (SB) ?_
    try simp only [Act.put, List.setIfInBounds_toArray, List.set_cons_zero, List.set_cons_succ]
    refine takeJ (i := 8) (v := .slice ea2 4 ec2) 76 rfl rfl (by kernel_rfl) (by kernel_rfl) (by kernel_rfl) (by kernel_rfl) (fun _ _ _ h => h) (.inl ⟨by rfl, fun W hW => exec_load1 24 oneS _ rfl lg 50 rfl (.slice ea2 4 ec2) ((XP2.out W hW).2)⟩) (SB) ?_
    try simp only [Act.put, List.setIfInBounds_toArray, List.set_cons_zero, List.set_cons_succ]
    refine allJ (rs := [9, 14]) (by kernel_rfl) (by simp) (fun q hq => ?_)
    rcases List.mem_cons.1 hq with rfl | hq
    · refine opJ_call 9 77 rfl rfl (by rfl) 17 #[.pointer (some ⟨b, 0, none⟩), .agg (ex2.cells (.slice ha2 0 hc2)).toArray, .slice ea2 4 ec2, .int .i64 3, .int .i64 0] (exec_callF _ _ _ _ rfl (map5 rfl rfl rfl rfl rfl) (enters_of Try.func17 (by kernel_rfl) rfl)) _ PG1.out ?_
      rintro _ w8 ⟨_, G', hv, dv, bv, ga, gc, rfl, PG⟩
      have S8 := SB.but LGD PG.but (fun e => e.1 RL)
      refine ⟨fun _ => S8, ?_⟩
      simp only [Act.put, List.setIfInBounds_toArray, List.set_cons_zero, List.set_cons_succ]
      refine takeJ (i := 10) (v := .tuple #[.agg (whC (outP rr.1) hv dv bv).toArray, .bool rr.1.isSome, .slice ga rr.2.1.length gc]) 67 rfl rfl (by kernel_rfl) (by kernel_rfl) (by kernel_rfl) (by kernel_rfl) (fun _ _ _ h => h) (.inl ⟨by rfl, fun W hW => exec_move _ _ rfl rfl⟩) (S8) ?_
      try simp only [Act.put, List.setIfInBounds_toArray, List.set_cons_zero, List.set_cons_succ]
      refine takeJ (i := 11) (v := .agg (whC (outP rr.1) hv dv bv).toArray) 78 rfl rfl (by kernel_rfl) (by kernel_rfl) (by kernel_rfl) (by kernel_rfl) (fun _ _ _ h => h) (.inl ⟨by rfl, fun W hW => exec_ext _ 0 [.agg (whC (outP rr.1) hv dv bv).toArray, .bool rr.1.isSome, .slice ga rr.2.1.length gc] _ rfl rfl rfl⟩) (S8) ?_
      try simp only [Act.put, List.setIfInBounds_toArray, List.set_cons_zero, List.set_cons_succ]
      refine takeJ (i := 12) (v := .bool rr.1.isSome) 79 rfl rfl (by kernel_rfl) (by kernel_rfl) (by kernel_rfl) (by kernel_rfl) (fun _ _ _ h => h) (.inl ⟨by rfl, fun W hW => exec_ext _ 1 [.agg (whC (outP rr.1) hv dv bv).toArray, .bool rr.1.isSome, .slice ga rr.2.1.length gc] _ rfl rfl rfl⟩) (S8) ?_
      try simp only [Act.put, List.setIfInBounds_toArray, List.set_cons_zero, List.set_cons_succ]
      refine takeJ (i := 13) (v := .slice ga rr.2.1.length gc) 80 rfl rfl (by kernel_rfl) (by kernel_rfl) (by kernel_rfl) (by kernel_rfl) (fun _ _ _ h => h) (.inl ⟨by rfl, fun W hW => exec_ext _ 2 [.agg (whC (outP rr.1) hv dv bv).toArray, .bool rr.1.isSome, .slice ga rr.2.1.length gc] _ rfl rfl rfl⟩) (S8) ?_
      try simp only [Act.put, List.setIfInBounds_toArray, List.set_cons_zero, List.set_cons_succ]
      obtain ⟨w9, wz, ρ2, hw9, c9, f9, hwz, AF⟩ := PG.aft
      have HW9 := hide hw9
      have HWZ := hide hwz
      have one9 := PG.one
      obtain ⟨s6, hs6⟩ : ∃ s6, s6 = w8.heap.size := ⟨_, rfl⟩
      rw [← hs6] at c9 f9 hwz AF HWZ
      have S9 := CellsAt.later (W' := w9) S8 (Nat.lt_of_lt_of_le LGD PG.but.size) (by rw [HW9.out]; exact later_alloc _ _)
      have SZ := SB.but LGD AF.but (fun e => e.1 RL)
      refine nextJ (w' := w9) 14 6 (.pointer (some ⟨s6, 0, none⟩)) (by kernel_rfl) rfl rfl (by rfl) ((by rw [HW9.out, hs6]; exact exec_allocWh rfl)) (S9) ?_
      try simp only [Act.put, List.setIfInBounds_toArray, List.set_cons_zero, List.set_cons_succ]
      refine storeJ (w' := wz) 15 (by kernel_rfl) rfl rfl (by rfl) ((by rw [HWZ.out]; exact exec_storeA 49 18 sizWh _ _ rfl s6 0 rfl _ zWh rfl rfl rfl c9 f9 one9)) ((fun _ => SZ)) ?_
      try simp only [Act.put, List.setIfInBounds_toArray, List.set_cons_zero, List.set_cons_succ]
      refine takeJ (i := 16) (v := .bool rr.1.isSome) 7 rfl rfl (by kernel_rfl) (by kernel_rfl) (by kernel_rfl) (by kernel_rfl) (fun _ _ _ h => h) (.inl ⟨by rfl, fun W hW => exec_assign _ _ rfl rfl⟩) (SZ) ?_
      try simp only [Act.put, List.setIfInBounds_toArray, List.set_cons_zero, List.set_cons_succ]
      refine takeJ (i := 17) (v := .slice ga rr.2.1.length gc) 8 rfl rfl (by kernel_rfl) (by kernel_rfl) (by kernel_rfl) (by kernel_rfl) (fun _ _ _ h => h) (.inl ⟨by rfl, fun W hW => exec_assign _ _ rfl rfl⟩) (SZ) ?_
      try simp only [Act.put, List.setIfInBounds_toArray, List.set_cons_zero, List.set_cons_succ]
      refine doneJ (by kernel_rfl) ?_ _
      have AFH := hide AF
      clear AF PG S8 S9 SZ hw9 c9 f9 hwz HW9 HWZ one9 hs6
      go_wp2
      go_meet
      exact ⟨s6, _, G', ga, gc, rfl, rfl, rfl, AFH⟩
    · obtain rfl : q = 14 := by simpa using hq
      obtain ⟨w7, hw7⟩ : ∃ w7, w7 = w5.drew.alloc (.cells zWh.toArray 49) := ⟨_, rfl⟩
      have HW7 := hide hw7
      refine opJ_val (w' := w7) 14 6 (.pointer (some ⟨w5.drew.heap.size, 0, none⟩)) rfl rfl (by rfl) (by rw [HW7.out]; exact exec_allocWh rfl) ?_
      have S7 := CellsAt.later (W' := w7) SB LGD (by rw [HW7.out]; exact later_alloc _ _)
      refine ⟨fun _ => S7, ?_⟩
      simp only [Act.put, List.setIfInBounds_toArray, List.set_cons_zero, List.set_cons_succ]
      refine callJ 9 77 (by kernel_rfl) rfl rfl (by rfl) 17 #[.pointer (some ⟨b, 0, none⟩), .agg (ex2.cells (.slice ha2 0 hc2)).toArray, .slice ea2 4 ec2, .int .i64 3, .int .i64 0] (exec_callF _ _ _ _ rfl (map5 rfl rfl rfl rfl rfl) (enters_of Try.func17 (by kernel_rfl) rfl)) _ (PG2.out w7 HW7.out) ?_
      rintro _ w8 ⟨ρ2, G', hv, dv, bv, ga, gc, rfl, PG⟩
      have S8 := S7.but (Nat.lt_of_lt_of_le LGD (show w5.drew.heap.size ≤ w7.heap.size by rw [HW7.out]; simp)) PG.but (fun e => e.1 (by rw [cutR_lt LGD]; exact RL))
      refine ⟨S8, ?_⟩
      simp only [Act.put, List.setIfInBounds_toArray, List.set_cons_zero, List.set_cons_succ]
      refine takeJ (i := 10) (v := .tuple #[.agg (whC (outP rr.1) hv dv bv).toArray, .bool rr.1.isSome, .slice ga rr.2.1.length gc]) 67 rfl rfl (by kernel_rfl) (by kernel_rfl) (by kernel_rfl) (by kernel_rfl) (fun _ _ _ h => h) (.inl ⟨by rfl, fun W hW => exec_move _ _ rfl rfl⟩) (S8) ?_
      try simp only [Act.put, List.setIfInBounds_toArray, List.set_cons_zero, List.set_cons_succ]
      refine takeJ (i := 11) (v := .agg (whC (outP rr.1) hv dv bv).toArray) 78 rfl rfl (by kernel_rfl) (by kernel_rfl) (by kernel_rfl) (by kernel_rfl) (fun _ _ _ h => h) (.inl ⟨by rfl, fun W hW => exec_ext _ 0 [.agg (whC (outP rr.1) hv dv bv).toArray, .bool rr.1.isSome, .slice ga rr.2.1.length gc] _ rfl rfl rfl⟩) (S8) ?_
      try simp only [Act.put, List.setIfInBounds_toArray, List.set_cons_zero, List.set_cons_succ]
      refine takeJ (i := 12) (v := .bool rr.1.isSome) 79 rfl rfl (by kernel_rfl) (by kernel_rfl) (by kernel_rfl) (by kernel_rfl) (fun _ _ _ h => h) (.inl ⟨by rfl, fun W hW => exec_ext _ 1 [.agg (whC (outP rr.1) hv dv bv).toArray, .bool rr.1.isSome, .slice ga rr.2.1.length gc] _ rfl rfl rfl⟩) (S8) ?_
      try simp only [Act.put, List.setIfInBounds_toArray, List.set_cons_zero, List.set_cons_succ]
      refine takeJ (i := 13) (v := .slice ga rr.2.1.length gc) 80 rfl rfl (by kernel_rfl) (by kernel_rfl) (by kernel_rfl) (by kernel_rfl) (fun _ _ _ h => h) (.inl ⟨by rfl, fun W hW => exec_ext _ 2 [.agg (whC (outP rr.1) hv dv bv).toArray, .bool rr.1.isSome, .slice ga rr.2.1.length gc] _ rfl rfl rfl⟩) (S8) ?_
      try simp only [Act.put, List.setIfInBounds_toArray, List.set_cons_zero, List.set_cons_succ]
      obtain ⟨c9, f9, wz, hwz, AF⟩ := PG.aft2 HW7.out
      have HWZ := hide hwz
      have one9 := PG.one
      have SZ := SB.but LGD AF.but (fun e => e.1 RL)
      refine storeJ (w' := wz) 15 (by kernel_rfl) rfl rfl (by rfl) ((by rw [HWZ.out]; exact exec_storeA 49 18 sizWh _ _ rfl w5.drew.heap.size 0 rfl _ zWh rfl rfl rfl c9 f9 one9)) ((fun _ => SZ)) ?_
      try simp only [Act.put, List.setIfInBounds_toArray, List.set_cons_zero, List.set_cons_succ]
      refine takeJ (i := 16) (v := .bool rr.1.isSome) 7 rfl rfl (by kernel_rfl) (by kernel_rfl) (by kernel_rfl) (by kernel_rfl) (fun _ _ _ h => h) (.inl ⟨by rfl, fun W hW => exec_assign _ _ rfl rfl⟩) (SZ) ?_
      try simp only [Act.put, List.setIfInBounds_toArray, List.set_cons_zero, List.set_cons_succ]
      refine takeJ (i := 17) (v := .slice ga rr.2.1.length gc) 8 rfl rfl (by kernel_rfl) (by kernel_rfl) (by kernel_rfl) (by kernel_rfl) (fun _ _ _ h => h) (.inl ⟨by rfl, fun W hW => exec_assign _ _ rfl rfl⟩) (SZ) ?_
      try simp only [Act.put, List.setIfInBounds_toArray, List.set_cons_zero, List.set_cons_succ]
      refine doneJ (by kernel_rfl) ?_ _
      have AFH := hide AF
      clear AF PG S7 S8 SZ hw7 HW7 c9 f9 hwz HWZ one9
      go_wp2
      go_meet
      exact ⟨_, _, G', ga, gc, rfl, rfl, rfl, AFH⟩
  obtain ⟨sA, ρA, GA, ga, gc, rfl, rfl, rfl, AFH⟩ := hcut
  obtain ⟨wA, hwA⟩ : ∃ w9, w9 = wc := ⟨_, rfl⟩
  rw [← hwA] at AFH ⊢
  have AF := AFH.out
  clear hwA PG2
  have AMA : Hid (AwM wS b ρA GA wA) := AM0.out.step AF.fr AF.old AF.but
  have ABA : Hid (absG GA = exr1.2.2) := by rw [← HRR.out]; exact AF.ab
  rw [show rr.1.isSome = false by rw [HRR.out, exr1_ok.1]; rfl, show rr.2.1.length = 0 by rw [HRR.out, exr1_ok.2]; rfl]
  clear AFH
  clear FD LGD RL SB HOW HDW PG1 AF HRR
  go_upto_region 9 with fail
  obtain ⟨rr, hrr⟩ : ∃ rr, rr = exr2 := ⟨_, rfl⟩
  have HRR := hide hrr
  clear hrr
  have FD := AMA.out.fr.later (later_drew wA)
  have LGD : lg < wA.drew.heap.size := Nat.lt_of_lt_of_le HLG.out AMA.out.bel.size
  have RL : (ρA) lg = (0, 9) := AMA.out.low lg HLG.out
  have SB : CellsAt wA.drew lg 0 XK0 := CK0.out.later HLG.out (later AMA.out.bel (later_drew wA))
  have HOW : CB (fun g => (ρA) g = (0, 9)) wA.drew (.slice ha0 0 hc0) ex0.opts := (HO0.out.own (fun g _ e => AMA.out.low g e)).later (later AMA.out.bel (later_drew wA))
  have HDW := HD0.out.later (later AMA.out.bel (later_drew wA))
  have PG1 := hide (put_got FD (by rw [ABA.out]; exact okr1) ex0 _ HOW (by decide) _ _ HDW (by decide) (by decide) (by decide) 1 0 rr (by rw [HRR.out, ABA.out]; rfl))
  have PG2 := hide (fun (W1 : World) (h : W1 = wA.drew.alloc (.cells zWh.toArray 49)) => put_got2 FD (by rw [ABA.out]; exact okr1) ex0 _ HOW (by decide) _ _ HDW (by decide) (by decide) (by decide) 1 0 rr (by rw [HRR.out, ABA.out]; rfl) h)
  go_cut [9, 10, 11] from 81 to 94 (fun v6 v7 v8 wx => ∃ (s6 : Nat) (ρ' : Nat → Nat × Nat) (G' : List (Nat × Gm)) (ga : Option Addr) (gc : Nat), v6 = .pointer (some ⟨s6, 0, none⟩) ∧ v7 = .bool rr.1.isSome ∧ v8 = .slice ga rr.2.1.length gc ∧ Hid (PutAft wA.drew wx (ρA) ρ' b G' rr s6 (.slice ga rr.2.1.length gc)))
  case first =>
    refine regionJ (fun _ => true) (fun W => CellsAt W lg 0 XK0) (by kernel_rfl) ?_
    refine takeJ (i := 0) (v := .pointer (some ⟨b, 0, none⟩)) 82 rfl rfl (by kernel_rfl) (by kernel_rfl) (by kernel_rfl) (by kernel_rfl) (fun _ _ _ h => h) (.inl ⟨by rfl, fun W hW => exec_move _ _ rfl rfl⟩) (SB) ?_
    try simp only [Act.put, List.setIfInBounds_toArray, List.set_cons_zero, List.set_cons_succ]
    refine takeJ (i := 1) (v := .slice (some ⟨lg, 0, none⟩) 3 lc) 83 rfl rfl (by kernel_rfl) (by kernel_rfl) (by kernel_rfl) (by kernel_rfl) (fun _ _ _ h => h) (.inl ⟨by rfl, fun W hW => exec_move _ _ rfl rfl⟩) (SB) ?_
    try simp only [Act.put, List.setIfInBounds_toArray, List.set_cons_zero, List.set_cons_succ]
    refine takeJ (i := 2) (v := .pointer (some ⟨lg, 0, none⟩)) 84 rfl rfl (by kernel_rfl) (by kernel_rfl) (by kernel_rfl) (by kernel_rfl) (fun _ _ _ h => h) (.inl ⟨by rfl, fun W hW => exec_ixPi _ _ lg 3 lc 0 0 rfl rfl rfl rfl (by decide)⟩) (SB) ?_
    try simp only [Act.put, List.setIfInBounds_toArray, List.set_cons_zero, List.set_cons_succ]
    refine takeJ (i := 3) (v := .pointer (some ⟨lg, 0, none⟩)) 85 rfl rfl (by kernel_rfl) (by kernel_rfl) (by kernel_rfl) (by kernel_rfl) (fun _ _ _ h => h) (.inl ⟨by rfl, fun W hW => exec_fieldO 34 _ 0 lg 0 0 rfl rfl (fun w => by kernel_rfl)⟩) (SB) ?_
    try simp only [Act.put, List.setIfInBounds_toArray, List.set_cons_zero, List.set_cons_succ]
    refine takeJ (i := 4) (v := .agg (ex0.cells (.slice ha0 0 hc0)).toArray) 86 rfl rfl (by kernel_rfl) (by kernel_rfl) (by kernel_rfl) (by kernel_rfl) (fun _ _ _ h => h) (.inl ⟨by rfl, fun W hW => exec_loadA 26 16 aggP sizP _ rfl lg 0 rfl _ rfl ((XP0.out W hW).1)⟩) (SB) ?_
    try simp only [Act.put, List.setIfInBounds_toArray, List.set_cons_zero, List.set_cons_succ]
    refine takeJ (i := 5) (v := .slice (some ⟨lg, 0, none⟩) 3 lc) 87 rfl rfl (by kernel_rfl) (by kernel_rfl) (by kernel_rfl) (by kernel_rfl) (fun _ _ _ h => h) (.inl ⟨by rfl, fun W hW => exec_move _ _ rfl rfl⟩) (SB) ?_
    try simp only [Act.put, List.setIfInBounds_toArray, List.set_cons_zero, List.set_cons_succ]
    refine takeJ (i := 6) (v := .pointer (some ⟨lg, 0, none⟩)) 88 rfl rfl (by kernel_rfl) (by kernel_rfl) (by kernel_rfl) (by kernel_rfl) (fun _ _ _ h => h) (.inl ⟨by rfl, fun W hW => exec_ixPi _ _ lg 3 lc 0 0 rfl rfl rfl rfl (by decide)⟩) (SB) ?_
    try simp only [Act.put, List.setIfInBounds_toArray, List.set_cons_zero, List.set_cons_succ]
    refine takeJ (i := 7) (v := .pointer (some ⟨lg, 16, none⟩)) 89 rfl rfl (by kernel_rfl) (by kernel_rfl) (by kernel_rfl) (by kernel_rfl) (fun _ _ _ h => h) (.inl ⟨by rfl, fun W hW => exec_fieldO 34 _ 1 lg 0 16 rfl rfl (fun w => by kernel_rfl)⟩) (SB) ?_
    try simp only [Act.put, List.setIfInBounds_toArray, List.set_cons_zero, List.set_cons_succ]
    refine takeJ (i := 8) (v := .slice ea0 48 ec0) 90 rfl rfl (by kernel_rfl) (by kernel_rfl) (by kernel_rfl) (by kernel_rfl) (fun _ _ _ h => h) (.inl ⟨by rfl, fun W hW => exec_load1 24 oneS _ rfl lg 16 rfl (.slice ea0 48 ec0) ((XP0.out W hW).2)⟩) (SB) ?_
    try simp only [Act.put, List.setIfInBounds_toArray, List.set_cons_zero, List.set_cons_succ]
    refine allJ (rs := [9, 14]) (by kernel_rfl) (by simp) (fun q hq => ?_)
    rcases List.mem_cons.1 hq with rfl | hq
    · refine opJ_call 9 91 rfl rfl (by rfl) 17 #[.pointer (some ⟨b, 0, none⟩), .agg (ex0.cells (.slice ha0 0 hc0)).toArray, .slice ea0 48 ec0, .int .i64 1, .int .i64 0] (exec_callF _ _ _ _ rfl (map5 rfl rfl rfl rfl rfl) (enters_of Try.func17 (by kernel_rfl) rfl)) _ PG1.out ?_
      rintro _ w8 ⟨_, G', hv, dv, bv, ga, gc, rfl, PG⟩
      have S8 := SB.but LGD PG.but (fun e => e.1 RL)
      refine ⟨fun _ => S8, ?_⟩
      simp only [Act.put, List.setIfInBounds_toArray, List.set_cons_zero, List.set_cons_succ]
      refine takeJ (i := 10) (v := .tuple #[.agg (whC (outP rr.1) hv dv bv).toArray, .bool rr.1.isSome, .slice ga rr.2.1.length gc]) 81 rfl rfl (by kernel_rfl) (by kernel_rfl) (by kernel_rfl) (by kernel_rfl) (fun _ _ _ h => h) (.inl ⟨by rfl, fun W hW => exec_move _ _ rfl rfl⟩) (S8) ?_
      try simp only [Act.put, List.setIfInBounds_toArray, List.set_cons_zero, List.set_cons_succ]
      refine takeJ (i := 11) (v := .agg (whC (outP rr.1) hv dv bv).toArray) 92 rfl rfl (by kernel_rfl) (by kernel_rfl) (by kernel_rfl) (by kernel_rfl) (fun _ _ _ h => h) (.inl ⟨by rfl, fun W hW => exec_ext _ 0 [.agg (whC (outP rr.1) hv dv bv).toArray, .bool rr.1.isSome, .slice ga rr.2.1.length gc] _ rfl rfl rfl⟩) (S8) ?_
      try simp only [Act.put, List.setIfInBounds_toArray, List.set_cons_zero, List.set_cons_succ]
      refine takeJ (i := 12) (v := .bool rr.1.isSome) 93 rfl rfl (by kernel_rfl) (by kernel_rfl) (by kernel_rfl) (by kernel_rfl) (fun _ _ _ h => h) (.inl ⟨by rfl, fun W hW => exec_ext _ 1 [.agg (whC (outP rr.1) hv dv bv).toArray, .bool rr.1.isSome, .slice ga rr.2.1.length gc] _ rfl rfl rfl⟩) (S8) ?_
      try simp only [Act.put, List.setIfInBounds_toArray, List.set_cons_zero, List.set_cons_succ]
      refine takeJ (i := 13) (v := .slice ga rr.2.1.length gc) 94 rfl rfl (by kernel_rfl) (by kernel_rfl) (by kernel_rfl) (by kernel_rfl) (fun _ _ _ h => h) (.inl ⟨by rfl, fun W hW => exec_ext _ 2 [.agg (whC (outP rr.1) hv dv bv).toArray, .bool rr.1.isSome, .slice ga rr.2.1.length gc] _ rfl rfl rfl⟩) (S8) ?_
      try simp only [Act.put, List.setIfInBounds_toArray, List.set_cons_zero, List.set_cons_succ]
      obtain ⟨w9, wz, ρ2, hw9, c9, f9, hwz, AF⟩ := PG.aft
      have HW9 := hide hw9
      have HWZ := hide hwz
      have one9 := PG.one
      obtain ⟨s6, hs6⟩ : ∃ s6, s6 = w8.heap.size := ⟨_, rfl⟩
      rw [← hs6] at c9 f9 hwz AF HWZ
      have S9 := CellsAt.later (W' := w9) S8 (Nat.lt_of_lt_of_le LGD PG.but.size) (by rw [HW9.out]; exact later_alloc _ _)
      have SZ := SB.but LGD AF.but (fun e => e.1 RL)
      refine nextJ (w' := w9) 14 9 (.pointer (some ⟨s6, 0, none⟩)) (by kernel_rfl) rfl rfl (by rfl) ((by rw [HW9.out, hs6]; exact exec_allocWh rfl)) (S9) ?_
      try simp only [Act.put, List.setIfInBounds_toArray, List.set_cons_zero, List.set_cons_succ]
      refine storeJ (w' := wz) 15 (by kernel_rfl) rfl rfl (by rfl) ((by rw [HWZ.out]; exact exec_storeA 49 18 sizWh _ _ rfl s6 0 rfl _ zWh rfl rfl rfl c9 f9 one9)) ((fun _ => SZ)) ?_
      try simp only [Act.put, List.setIfInBounds_toArray, List.set_cons_zero, List.set_cons_succ]
      refine takeJ (i := 16) (v := .bool rr.1.isSome) 10 rfl rfl (by kernel_rfl) (by kernel_rfl) (by kernel_rfl) (by kernel_rfl) (fun _ _ _ h => h) (.inl ⟨by rfl, fun W hW => exec_assign _ _ rfl rfl⟩) (SZ) ?_
      try simp only [Act.put, List.setIfInBounds_toArray, List.set_cons_zero, List.set_cons_succ]
      refine takeJ (i := 17) (v := .slice ga rr.2.1.length gc) 11 rfl rfl (by kernel_rfl) (by kernel_rfl) (by kernel_rfl) (by kernel_rfl) (fun _ _ _ h => h) (.inl ⟨by rfl, fun W hW => exec_assign _ _ rfl rfl⟩) (SZ) ?_
      try simp only [Act.put, List.setIfInBounds_toArray, List.set_cons_zero, List.set_cons_succ]
      refine doneJ (by kernel_rfl) ?_ _
      have AFH := hide AF
      clear AF PG S8 S9 SZ hw9 c9 f9 hwz HW9 HWZ one9 hs6
      go_wp2
      go_meet
      exact ⟨s6, _, G', ga, gc, rfl, rfl, rfl, AFH⟩
    · obtain rfl : q = 14 := by simpa using hq
      obtain ⟨w7, hw7⟩ : ∃ w7, w7 = wA.drew.alloc (.cells zWh.toArray 49) := ⟨_, rfl⟩
      have HW7 := hide hw7
      refine opJ_val (w' := w7) 14 9 (.pointer (some ⟨wA.drew.heap.size, 0, none⟩)) rfl rfl (by rfl) (by rw [HW7.out]; exact exec_allocWh rfl) ?_
      have S7 := CellsAt.later (W' := w7) SB LGD (by rw [HW7.out]; exact later_alloc _ _)
      refine ⟨fun _ => S7, ?_⟩
      simp only [Act.put, List.setIfInBounds_toArray, List.set_cons_zero, List.set_cons_succ]
      refine callJ 9 91 (by kernel_rfl) rfl rfl (by rfl) 17 #[.pointer (some ⟨b, 0, none⟩), .agg (ex0.cells (.slice ha0 0 hc0)).toArray, .slice ea0 48 ec0, .int .i64 1, .int .i64 0] (exec_callF _ _ _ _ rfl (map5 rfl rfl rfl rfl rfl) (enters_of Try.func17 (by kernel_rfl) rfl)) _ (PG2.out w7 HW7.out) ?_
      rintro _ w8 ⟨ρ2, G', hv, dv, bv, ga, gc, rfl, PG⟩
      have S8 := S7.but (Nat.lt_of_lt_of_le LGD (show wA.drew.heap.size ≤ w7.heap.size by rw [HW7.out]; simp)) PG.but (fun e => e.1 (by rw [cutR_lt LGD]; exact RL))
      refine ⟨S8, ?_⟩
      simp only [Act.put, List.setIfInBounds_toArray, List.set_cons_zero, List.set_cons_succ]
      refine takeJ (i := 10) (v := .tuple #[.agg (whC (outP rr.1) hv dv bv).toArray, .bool rr.1.isSome, .slice ga rr.2.1.length gc]) 81 rfl rfl (by kernel_rfl) (by kernel_rfl) (by kernel_rfl) (by kernel_rfl) (fun _ _ _ h => h) (.inl ⟨by rfl, fun W hW => exec_move _ _ rfl rfl⟩) (S8) ?_
      try simp only [Act.put, List.setIfInBounds_toArray, List.set_cons_zero, List.set_cons_succ]
      refine takeJ (i := 11) (v := .agg (whC (outP rr.1) hv dv bv).toArray) 92 rfl rfl (by kernel_rfl) (by kernel_rfl) (by kernel_rfl) (by kernel_rfl) (fun _ _ _ h => h) (.inl ⟨by rfl, fun W hW => exec_ext _ 0 [.agg (whC (outP rr.1) hv dv bv).toArray, .bool rr.1.isSome, .slice ga rr.2.1.length gc] _ rfl rfl rfl⟩) (S8) ?_
      try simp only [Act.put, List.setIfInBounds_toArray, List.set_cons_zero, List.set_cons_succ]
      refine takeJ (i := 12) (v := .bool rr.1.isSome) 93 rfl rfl (by kernel_rfl) (by kernel_rfl) (by kernel_rfl) (by kernel_rfl) (fun _ _ _ h => h) (.inl ⟨by rfl, fun W hW => exec_ext _ 1 [.agg (whC (outP rr.1) hv dv bv).toArray, .bool rr.1.isSome, .slice ga rr.2.1.length gc] _ rfl rfl rfl⟩) (S8) ?_
      try simp only [Act.put, List.setIfInBounds_toArray, List.set_cons_zero, List.set_cons_succ]
      refine takeJ (i := 13) (v := .slice ga rr.2.1.length gc) 94 rfl rfl (by kernel_rfl) (by kernel_rfl) (by kernel_rfl) (by kernel_rfl) (fun _ _ _ h => h) (.inl ⟨by rfl, fun W hW => exec_ext _ 2 [.agg (whC (outP rr.1) hv dv bv).toArray, .bool rr.1.isSome, .slice ga rr.2.1.length gc] _ rfl rfl rfl⟩) (S8) ?_
      try simp only [Act.put, List.setIfInBounds_toArray, List.set_cons_zero, List.set_cons_succ]
      obtain ⟨c9, f9, wz, hwz, AF⟩ := PG.aft2 HW7.out
      have HWZ := hide hwz
      have one9 := PG.one
      have SZ := SB.but LGD AF.but (fun e => e.1 RL)
      refine storeJ (w' := wz) 15 (by kernel_rfl) rfl rfl (by rfl) ((by rw [HWZ.out]; exact exec_storeA 49 18 sizWh _ _ rfl wA.drew.heap.size 0 rfl _ zWh rfl rfl rfl c9 f9 one9)) ((fun _ => SZ)) ?_
      try simp only [Act.put, List.setIfInBounds_toArray, List.set_cons_zero, List.set_cons_succ]
      refine takeJ (i := 16) (v := .bool rr.1.isSome) 10 rfl rfl (by kernel_rfl) (by kernel_rfl) (by kernel_rfl) (by kernel_rfl) (fun _ _ _ h => h) (.inl ⟨by rfl, fun W hW => exec_assign _ _ rfl rfl⟩) (SZ) ?_
      try simp only [Act.put, List.setIfInBounds_toArray, List.set_cons_zero, List.set_cons_succ]
      refine takeJ (i := 17) (v := .slice ga rr.2.1.length gc) 11 rfl rfl (by kernel_rfl) (by kernel_rfl) (by kernel_rfl) (by kernel_rfl) (fun _ _ _ h => h) (.inl ⟨by rfl, fun W hW => exec_assign _ _ rfl rfl⟩) (SZ) ?_
      try simp only [Act.put, List.setIfInBounds_toArray, List.set_cons_zero, List.set_cons_succ]
      refine doneJ (by kernel_rfl) ?_ _
      have AFH := hide AF
      clear AF PG S7 S8 SZ hw7 HW7 c9 f9 hwz HWZ one9
      go_wp2
      go_meet
      exact ⟨_, _, G', ga, gc, rfl, rfl, rfl, AFH⟩
  obtain ⟨sB, ρB, GB, ga, gc, rfl, rfl, rfl, AFH⟩ := hcut
  obtain ⟨wB, hwB⟩ : ∃ w9, w9 = wc := ⟨_, rfl⟩
  rw [← hwB] at AFH ⊢
  have AF := AFH.out
  clear hwB PG2
  have AMB : Hid (AwM wS b ρB GB wB) := AMA.out.step AF.fr AF.old AF.but
  have ABB : Hid (absG GB = exr2.2.2) := by rw [← HRR.out]; exact AF.ab
  rw [show rr.1.isSome = false by rw [HRR.out, exr2_ok.1]; rfl, show rr.2.1.length = 0 by rw [HRR.out, exr2_ok.2]; rfl]
  clear AFH
  clear FD LGD RL SB HOW HDW PG1 AF HRR
  go_upto_region 10 with fail
  obtain ⟨rr, hrr⟩ : ∃ rr, rr = exr3 := ⟨_, rfl⟩
  have HRR := hide hrr
  clear hrr
  have FD := AMB.out.fr.later (later_drew wB)
  have LGD : lg < wB.drew.heap.size := Nat.lt_of_lt_of_le HLG.out AMB.out.bel.size
  have RL : (ρB) lg = (0, 9) := AMB.out.low lg HLG.out
  have SB : CellsAt wB.drew lg 17 XK1 := CK1.out.later HLG.out (later AMB.out.bel (later_drew wB))
  have HOW : CB (fun g => (ρB) g = (0, 9)) wB.drew (.slice ha1 0 hc1) ex1.opts := (HO1.out.own (fun g _ e => AMB.out.low g e)).later (later AMB.out.bel (later_drew wB))
  have HDW := HD1.out.later (later AMB.out.bel (later_drew wB))
  have PG1 := hide (put_got FD (by rw [ABB.out]; exact okr2) ex1 _ HOW (by decide) _ _ HDW (by decide) (by decide) (by decide) 2 0 rr (by rw [HRR.out, ABB.out]; rfl))
  have PG2 := hide (fun (W1 : World) (h : W1 = wB.drew.alloc (.cells zWh.toArray 49)) => put_got2 FD (by rw [ABB.out]; exact okr2) ex1 _ HOW (by decide) _ _ HDW (by decide) (by decide) (by decide) 2 0 rr (by rw [HRR.out, ABB.out]; rfl) h)
  go_cut [12, 13, 14] from 95 to 108 (fun v6 v7 v8 wx => ∃ (s6 : Nat) (ρ' : Nat → Nat × Nat) (G' : List (Nat × Gm)) (ga : Option Addr) (gc : Nat), v6 = .pointer (some ⟨s6, 0, none⟩) ∧ v7 = .bool rr.1.isSome ∧ v8 = .slice ga rr.2.1.length gc ∧ Hid (PutAft wB.drew wx (ρB) ρ' b G' rr s6 (.slice ga rr.2.1.length gc)))
  case first =>
    refine regionJ (fun _ => true) (fun W => CellsAt W lg 17 XK1) (by kernel_rfl) ?_
    refine takeJ (i := 0) (v := .pointer (some ⟨b, 0, none⟩)) 96 rfl rfl (by kernel_rfl) (by kernel_rfl) (by kernel_rfl) (by kernel_rfl) (fun _ _ _ h => h) (.inl ⟨by rfl, fun W hW => exec_move _ _ rfl rfl⟩) (SB) ?_
    try simp only [Act.put, List.setIfInBounds_toArray, List.set_cons_zero, List.set_cons_succ]
    refine takeJ (i := 1) (v := .slice (some ⟨lg, 0, none⟩) 3 lc) 97 rfl rfl (by kernel_rfl) (by kernel_rfl) (by kernel_rfl) (by kernel_rfl) (fun _ _ _ h => h) (.inl ⟨by rfl, fun W hW => exec_move _ _ rfl rfl⟩) (SB) ?_
    try simp only [Act.put, List.setIfInBounds_toArray, List.set_cons_zero, List.set_cons_succ]
    refine takeJ (i := 2) (v := .pointer (some ⟨lg, 17, none⟩)) 98 rfl rfl (by kernel_rfl) (by kernel_rfl) (by kernel_rfl) (by kernel_rfl) (fun _ _ _ h => h) (.inl ⟨by rfl, fun W hW => exec_ixPi _ _ lg 3 lc 1 1 rfl rfl rfl rfl (by decide)⟩) (SB) ?_
    try simp only [Act.put, List.setIfInBounds_toArray, List.set_cons_zero, List.set_cons_succ]
    refine takeJ (i := 3) (v := .pointer (some ⟨lg, 17, none⟩)) 99 rfl rfl (by kernel_rfl) (by kernel_rfl) (by kernel_rfl) (by kernel_rfl) (fun _ _ _ h => h) (.inl ⟨by rfl, fun W hW => exec_fieldO 34 _ 0 lg 17 17 rfl rfl (fun w => by kernel_rfl)⟩) (SB) ?_
    try simp only [Act.put, List.setIfInBounds_toArray, List.set_cons_zero, List.set_cons_succ]
    refine takeJ (i := 4) (v := .agg (ex1.cells (.slice ha1 0 hc1)).toArray) 100 rfl rfl (by kernel_rfl) (by kernel_rfl) (by kernel_rfl) (by kernel_rfl) (fun _ _ _ h => h) (.inl ⟨by rfl, fun W hW => exec_loadA 26 16 aggP sizP _ rfl lg 17 rfl _ rfl ((XP1.out W hW).1)⟩) (SB) ?_
    try simp only [Act.put, List.setIfInBounds_toArray, List.set_cons_zero, List.set_cons_succ]
    refine takeJ (i := 5) (v := .slice (some ⟨lg, 0, none⟩) 3 lc) 101 rfl rfl (by kernel_rfl) (by kernel_rfl) (by kernel_rfl) (by kernel_rfl) (fun _ _ _ h => h) (.inl ⟨by rfl, fun W hW => exec_move _ _ rfl rfl⟩) (SB) ?_
    try simp only [Act.put, List.setIfInBounds_toArray, List.set_cons_zero, List.set_cons_succ]
    refine takeJ (i := 6) (v := .pointer (some ⟨lg, 17, none⟩)) 102 rfl rfl (by kernel_rfl) (by kernel_rfl) (by kernel_rfl) (by kernel_rfl) (fun _ _ _ h => h) (.inl ⟨by rfl, fun W hW => exec_ixPi _ _ lg 3 lc 1 1 rfl rfl rfl rfl (by decide)⟩) (SB) ?_
    try simp only [Act.put, List.setIfInBounds_toArray, List.set_cons_zero, List.set_cons_succ]
    refine takeJ (i := 7) (v := .pointer (some ⟨lg, 33, none⟩)) 103 rfl rfl (by kernel_rfl) (by kernel_rfl) (by kernel_rfl) (by kernel_rfl) (fun _ _ _ h => h) (.inl ⟨by rfl, fun W hW => exec_fieldO 34 _ 1 lg 17 33 rfl rfl (fun w => by kernel_rfl)⟩) (SB) ?_
    try simp only [Act.put, List.setIfInBounds_toArray, List.set_cons_zero, List.set_cons_succ]
    refine takeJ (i := 8) (v := .slice ea1 48 ec1) 104 rfl rfl (by kernel_rfl) (by kernel_rfl) (by kernel_rfl) (by kernel_rfl) (fun _ _ _ h => h) (.inl ⟨by rfl, fun W hW => exec_load1 24 oneS _ rfl lg 33 rfl (.slice ea1 48 ec1) ((XP1.out W hW).2)⟩) (SB) ?_
    try simp only [Act.put, List.setIfInBounds_toArray, List.set_cons_zero, List.set_cons_succ]
    refine allJ (rs := [9, 14]) (by kernel_rfl) (by simp) (fun q hq => ?_)
    rcases List.mem_cons.1 hq with rfl | hq
    · refine opJ_call 9 105 rfl rfl (by rfl) 17 #[.pointer (some ⟨b, 0, none⟩), .agg (ex1.cells (.slice ha1 0 hc1)).toArray, .slice ea1 48 ec1, .int .i64 2, .int .i64 0] (exec_callF _ _ _ _ rfl (map5 rfl rfl rfl rfl rfl) (enters_of Try.func17 (by kernel_rfl) rfl)) _ PG1.out ?_
      rintro _ w8 ⟨_, G', hv, dv, bv, ga, gc, rfl, PG⟩
      have S8 := SB.but LGD PG.but (fun e => e.1 RL)
      refine ⟨fun _ => S8, ?_⟩
      simp only [Act.put, List.setIfInBounds_toArray, List.set_cons_zero, List.set_cons_succ]
      refine takeJ (i := 10) (v := .tuple #[.agg (whC (outP rr.1) hv dv bv).toArray, .bool rr.1.isSome, .slice ga rr.2.1.length gc]) 95 rfl rfl (by kernel_rfl) (by kernel_rfl) (by kernel_rfl) (by kernel_rfl) (fun _ _ _ h => h) (.inl ⟨by rfl, fun W hW => exec_move _ _ rfl rfl⟩) (S8) ?_
      try simp only [Act.put, List.setIfInBounds_toArray, List.set_cons_zero, List.set_cons_succ]
      refine takeJ (i := 11) (v := .agg (whC (outP rr.1) hv dv bv).toArray) 106 rfl rfl (by kernel_rfl) (by kernel_rfl) (by kernel_rfl) (by kernel_rfl) (fun _ _ _ h => h) (.inl ⟨by rfl, fun W hW => exec_ext _ 0 [.agg (whC (outP rr.1) hv dv bv).toArray, .bool rr.1.isSome, .slice ga rr.2.1.length gc] _ rfl rfl rfl⟩) (S8) ?_
      try simp only [Act.put, List.setIfInBounds_toArray, List.set_cons_zero, List.set_cons_succ]
      refine takeJ (i := 12) (v := .bool rr.1.isSome) 107 rfl rfl (by kernel_rfl) (by kernel_rfl) (by kernel_rfl) (by kernel_rfl) (fun _ _ _ h => h) (.inl ⟨by rfl, fun W hW => exec_ext _ 1 [.agg (whC (outP rr.1) hv dv bv).toArray, .bool rr.1.isSome, .slice ga rr.2.1.length gc] _ rfl rfl rfl⟩) (S8) ?_
      try simp only [Act.put, List.setIfInBounds_toArray, List.set_cons_zero, List.set_cons_succ]
      refine takeJ (i := 13) (v := .slice ga rr.2.1.length gc) 108 rfl rfl (by kernel_rfl) (by kernel_rfl) (by kernel_rfl) (by kernel_rfl) (fun _ _ _ h => h) (.inl ⟨by rfl, fun W hW => exec_ext _ 2 [.agg (whC (outP rr.1) hv dv bv).toArray, .bool rr.1.isSome, .slice ga rr.2.1.length gc] _ rfl rfl rfl⟩) (S8) ?_
      try simp only [Act.put, List.setIfInBounds_toArray, List.set_cons_zero, List.set_cons_succ]
      obtain ⟨w9, wz, ρ2, hw9, c9, f9, hwz, AF⟩ := PG.aft
      have HW9 := hide hw9
      have HWZ := hide hwz
      have one9 := PG.one
      obtain ⟨s6, hs6⟩ : ∃ s6, s6 = w8.heap.size := ⟨_, rfl⟩
      rw [← hs6] at c9 f9 hwz AF HWZ
      have S9 := CellsAt.later (W' := w9) S8 (Nat.lt_of_lt_of_le LGD PG.but.size) (by rw [HW9.out]; exact later_alloc _ _)
      have SZ := SB.but LGD AF.but (fun e => e.1 RL)
      refine nextJ (w' := w9) 14 12 (.pointer (some ⟨s6, 0, none⟩)) (by kernel_rfl) rfl rfl (by rfl) ((by rw [HW9.out, hs6]; exact exec_allocWh rfl)) (S9) ?_
      try simp only [Act.put, List.setIfInBounds_toArray, List.set_cons_zero, List.set_cons_succ]
      refine storeJ (w' := wz) 15 (by kernel_rfl) rfl rfl (by rfl) ((by rw [HWZ.out]; exact exec_storeA 49 18 sizWh _ _ rfl s6 0 rfl _ zWh rfl rfl rfl c9 f9 one9)) ((fun _ => SZ)) ?_
      try simp only [Act.put, List.setIfInBounds_toArray, List.set_cons_zero, List.set_cons_succ]
      refine takeJ (i := 16) (v := .bool rr.1.isSome) 13 rfl rfl (by kernel_rfl) (by kernel_rfl) (by kernel_rfl) (by kernel_rfl) (fun _ _ _ h => h) (.inl ⟨by rfl, fun W hW => exec_assign _ _ rfl rfl⟩) (SZ) ?_
      try simp only [Act.put, List.setIfInBounds_toArray, List.set_cons_zero, List.set_cons_succ]
      refine takeJ (i := 17) (v := .slice ga rr.2.1.length gc) 14 rfl rfl (by kernel_rfl) (by kernel_rfl) (by kernel_rfl) (by kernel_rfl) (fun _ _ _ h => h) (.inl ⟨by rfl, fun W hW => exec_assign _ _ rfl rfl⟩) (SZ) ?_
      try simp only [Act.put, List.setIfInBounds_toArray, List.set_cons_zero, List.set_cons_succ]
      refine doneJ (by kernel_rfl) ?_ _
      have AFH := hide AF
      clear AF PG S8 S9 SZ hw9 c9 f9 hwz HW9 HWZ one9 hs6
      go_wp2
      go_meet
      exact ⟨s6, _, G', ga, gc, rfl, rfl, rfl, AFH⟩
    · obtain rfl : q = 14 := by simpa using hq
      obtain ⟨w7, hw7⟩ : ∃ w7, w7 = wB.drew.alloc (.cells zWh.toArray 49) := ⟨_, rfl⟩
      have HW7 := hide hw7
      refine opJ_val (w' := w7) 14 12 (.pointer (some ⟨wB.drew.heap.size, 0, none⟩)) rfl rfl (by rfl) (by rw [HW7.out]; exact exec_allocWh rfl) ?_
      have S7 := CellsAt.later (W' := w7) SB LGD (by rw [HW7.out]; exact later_alloc _ _)
      refine ⟨fun _ => S7, ?_⟩
      simp only [Act.put, List.setIfInBounds_toArray, List.set_cons_zero, List.set_cons_succ]
      refine callJ 9 105 (by kernel_rfl) rfl rfl (by rfl) 17 #[.pointer (some ⟨b, 0, none⟩), .agg (ex1.cells (.slice ha1 0 hc1)).toArray, .slice ea1 48 ec1, .int .i64 2, .int .i64 0] (exec_callF _ _ _ _ rfl (map5 rfl rfl rfl rfl rfl) (enters_of Try.func17 (by kernel_rfl) rfl)) _ (PG2.out w7 HW7.out) ?_
      rintro _ w8 ⟨ρ2, G', hv, dv, bv, ga, gc, rfl, PG⟩
      have S8 := S7.but (Nat.lt_of_lt_of_le LGD (show wB.drew.heap.size ≤ w7.heap.size by rw [HW7.out]; simp)) PG.but (fun e => e.1 (by rw [cutR_lt LGD]; exact RL))
      refine ⟨S8, ?_⟩
      simp only [Act.put, List.setIfInBounds_toArray, List.set_cons_zero, List.set_cons_succ]
      refine takeJ (i := 10) (v := .tuple #[.agg (whC (outP rr.1) hv dv bv).toArray, .bool rr.1.isSome, .slice ga rr.2.1.length gc]) 95 rfl rfl (by kernel_rfl) (by kernel_rfl) (by kernel_rfl) (by kernel_rfl) (fun _ _ _ h => h) (.inl ⟨by rfl, fun W hW => exec_move _ _ rfl rfl⟩) (S8) ?_
      try simp only [Act.put, List.setIfInBounds_toArray, List.set_cons_zero, List.set_cons_succ]
      refine takeJ (i := 11) (v := .agg (whC (outP rr.1) hv dv bv).toArray) 106 rfl rfl (by kernel_rfl) (by kernel_rfl) (by kernel_rfl) (by kernel_rfl) (fun _ _ _ h => h) (.inl ⟨by rfl, fun W hW => exec_ext _ 0 [.agg (whC (outP rr.1) hv dv bv).toArray, .bool rr.1.isSome, .slice ga rr.2.1.length gc] _ rfl rfl rfl⟩) (S8) ?_
      try simp only [Act.put, List.setIfInBounds_toArray, List.set_cons_zero, List.set_cons_succ]
      refine takeJ (i := 12) (v := .bool rr.1.isSome) 107 rfl rfl (by kernel_rfl) (by kernel_rfl) (by kernel_rfl) (by kernel_rfl) (fun _ _ _ h => h) (.inl ⟨by rfl, fun W hW => exec_ext _ 1 [.agg (whC (outP rr.1) hv dv bv).toArray, .bool rr.1.isSome, .slice ga rr.2.1.length gc] _ rfl rfl rfl⟩) (S8) ?_
      try simp only [Act.put, List.setIfInBounds_toArray, List.set_cons_zero, List.set_cons_succ]
      refine takeJ (i := 13) (v := .slice ga rr.2.1.length gc) 108 rfl rfl (by kernel_rfl) (by kernel_rfl) (by kernel_rfl) (by kernel_rfl) (fun _ _ _ h => h) (.inl ⟨by rfl, fun W hW => exec_ext _ 2 [.agg (whC (outP rr.1) hv dv bv).toArray, .bool rr.1.isSome, .slice ga rr.2.1.length gc] _ rfl rfl rfl⟩) (S8) ?_
      try simp only [Act.put, List.setIfInBounds_toArray, List.set_cons_zero, List.set_cons_succ]
      obtain ⟨c9, f9, wz, hwz, AF⟩ := PG.aft2 HW7.out
      have HWZ := hide hwz
      have one9 := PG.one
      have SZ := SB.but LGD AF.but (fun e => e.1 RL)
      refine storeJ (w' := wz) 15 (by kernel_rfl) rfl rfl (by rfl) ((by rw [HWZ.out]; exact exec_storeA 49 18 sizWh _ _ rfl wB.drew.heap.size 0 rfl _ zWh rfl rfl rfl c9 f9 one9)) ((fun _ => SZ)) ?_
      try simp only [Act.put, List.setIfInBounds_toArray, List.set_cons_zero, List.set_cons_succ]
      refine takeJ (i := 16) (v := .bool rr.1.isSome) 13 rfl rfl (by kernel_rfl) (by kernel_rfl) (by kernel_rfl) (by kernel_rfl) (fun _ _ _ h => h) (.inl ⟨by rfl, fun W hW => exec_assign _ _ rfl rfl⟩) (SZ) ?_
      try simp only [Act.put, List.setIfInBounds_toArray, List.set_cons_zero, List.set_cons_succ]
      refine takeJ (i := 17) (v := .slice ga rr.2.1.length gc) 14 rfl rfl (by kernel_rfl) (by kernel_rfl) (by kernel_rfl) (by kernel_rfl) (fun _ _ _ h => h) (.inl ⟨by rfl, fun W hW => exec_assign _ _ rfl rfl⟩) (SZ) ?_
      try simp only [Act.put, List.setIfInBounds_toArray, List.set_cons_zero, List.set_cons_succ]
      refine doneJ (by kernel_rfl) ?_ _
      have AFH := hide AF
      clear AF PG S7 S8 SZ hw7 HW7 c9 f9 hwz HWZ one9
      go_wp2
      go_meet
      exact ⟨_, _, G', ga, gc, rfl, rfl, rfl, AFH⟩
  obtain ⟨sC, ρC, GC, ga, gc, rfl, rfl, rfl, AFH⟩ := hcut
  obtain ⟨wC, hwC⟩ : ∃ w9, w9 = wc := ⟨_, rfl⟩
  rw [← hwC] at AFH ⊢
  have AF := AFH.out
  clear hwC PG2
  have AMC : Hid (AwM wS b ρC GC wC) := AMB.out.step AF.fr AF.old AF.but
  have ABC : Hid (absG GC = exr3.2.2) := by rw [← HRR.out]; exact AF.ab
  rw [show rr.1.isSome = true by rw [HRR.out, exr3_ok.1]; rfl, show rr.2.1.length = 0 by rw [HRR.out, exr3_ok.2]; rfl]
  obtain ⟨hv3, dv3, bv3, τ3, t3, C3, RB3, RN3, _, HV3⟩ := AF.x
  rw [HRR.out, exr3_ok.1] at C3 RB3 RN3 HV3
  have L3 := AF.hs6
  clear AFH
  clear FD LGD RL SB HOW HDW PG1 AF HRR
  go_upto_region 11 with fail
  obtain ⟨rr, hrr⟩ : ∃ rr, rr = exr4 := ⟨_, rfl⟩
  have HRR := hide hrr
  clear hrr
  have FD := AMC.out.fr.later (later_drew wC)
  have LGD : lg < wC.drew.heap.size := Nat.lt_of_lt_of_le HLG.out AMC.out.bel.size
  have RL : (ρC) lg = (0, 9) := AMC.out.low lg HLG.out
  have SB : CellsAt wC.drew lg 0 XK0 := CK0.out.later HLG.out (later AMC.out.bel (later_drew wC))
  have HOW : CB (fun g => (ρC) g = (0, 9)) wC.drew (.slice ha0 0 hc0) ex0.opts := (HO0.out.own (fun g _ e => AMC.out.low g e)).later (later AMC.out.bel (later_drew wC))
  have HDW := HD0.out.later (later AMC.out.bel (later_drew wC))
  have PG1 := hide (put_got FD (by rw [ABC.out]; exact okr3) ex0 _ HOW (by decide) _ _ HDW (by decide) (by decide) (by decide) 1 0 rr (by rw [HRR.out, ABC.out]; rfl))
  refine regionJ (fun _ => true) (fun W => CellsAt W lg 0 XK0) (by kernel_rfl) ?_
  refine takeJ (i := 0) (v := .pointer (some ⟨b, 0, none⟩)) 110 rfl rfl (by kernel_rfl) (by kernel_rfl) (by kernel_rfl) (by kernel_rfl) (fun _ _ _ h => h) (.inl ⟨by rfl, fun W hW => exec_move _ _ rfl rfl⟩) (SB) ?_
  try simp only [Act.put, List.setIfInBounds_toArray, List.set_cons_zero, List.set_cons_succ]
  refine takeJ (i := 1) (v := .slice (some ⟨lg, 0, none⟩) 3 lc) 111 rfl rfl (by kernel_rfl) (by kernel_rfl) (by kernel_rfl) (by kernel_rfl) (fun _ _ _ h => h) (.inl ⟨by rfl, fun W hW => exec_move _ _ rfl rfl⟩) (SB) ?_
  try simp only [Act.put, List.setIfInBounds_toArray, List.set_cons_zero, List.set_cons_succ]
  refine takeJ (i := 2) (v := .pointer (some ⟨lg, 0, none⟩)) 112 rfl rfl (by kernel_rfl) (by kernel_rfl) (by kernel_rfl) (by kernel_rfl) (fun _ _ _ h => h) (.inl ⟨by rfl, fun W hW => exec_ixPi _ _ lg 3 lc 0 0 rfl rfl rfl rfl (by decide)⟩) (SB) ?_
  try simp only [Act.put, List.setIfInBounds_toArray, List.set_cons_zero, List.set_cons_succ]
  refine takeJ (i := 3) (v := .pointer (some ⟨lg, 0, none⟩)) 113 rfl rfl (by kernel_rfl) (by kernel_rfl) (by kernel_rfl) (by kernel_rfl) (fun _ _ _ h => h) (.inl ⟨by rfl, fun W hW => exec_fieldO 34 _ 0 lg 0 0 rfl rfl (fun w => by kernel_rfl)⟩) (SB) ?_
  try simp only [Act.put, List.setIfInBounds_toArray, List.set_cons_zero, List.set_cons_succ]
  refine takeJ (i := 4) (v := .agg (ex0.cells (.slice ha0 0 hc0)).toArray) 114 rfl rfl (by kernel_rfl) (by kernel_rfl) (by kernel_rfl) (by kernel_rfl) (fun _ _ _ h => h) (.inl ⟨by rfl, fun W hW => exec_loadA 26 16 aggP sizP _ rfl lg 0 rfl _ rfl ((XP0.out W hW).1)⟩) (SB) ?_
  try simp only [Act.put, List.setIfInBounds_toArray, List.set_cons_zero, List.set_cons_succ]
  refine takeJ (i := 5) (v := .slice (some ⟨lg, 0, none⟩) 3 lc) 115 rfl rfl (by kernel_rfl) (by kernel_rfl) (by kernel_rfl) (by kernel_rfl) (fun _ _ _ h => h) (.inl ⟨by rfl, fun W hW => exec_move _ _ rfl rfl⟩) (SB) ?_
  try simp only [Act.put, List.setIfInBounds_toArray, List.set_cons_zero, List.set_cons_succ]
  refine takeJ (i := 6) (v := .pointer (some ⟨lg, 0, none⟩)) 116 rfl rfl (by kernel_rfl) (by kernel_rfl) (by kernel_rfl) (by kernel_rfl) (fun _ _ _ h => h) (.inl ⟨by rfl, fun W hW => exec_ixPi _ _ lg 3 lc 0 0 rfl rfl rfl rfl (by decide)⟩) (SB) ?_
  try simp only [Act.put, List.setIfInBounds_toArray, List.set_cons_zero, List.set_cons_succ]
  refine takeJ (i := 7) (v := .pointer (some ⟨lg, 16, none⟩)) 117 rfl rfl (by kernel_rfl) (by kernel_rfl) (by kernel_rfl) (by kernel_rfl) (fun _ _ _ h => h) (.inl ⟨by rfl, fun W hW => exec_fieldO 34 _ 1 lg 0 16 rfl rfl (fun w => by kernel_rfl)⟩) (SB) ?_
  try simp only [Act.put, List.setIfInBounds_toArray, List.set_cons_zero, List.set_cons_succ]
  refine takeJ (i := 8) (v := .slice ea0 48 ec0) 118 rfl rfl (by kernel_rfl) (by kernel_rfl) (by kernel_rfl) (by kernel_rfl) (fun _ _ _ h => h) (.inl ⟨by rfl, fun W hW => exec_load1 24 oneS _ rfl lg 16 rfl (.slice ea0 48 ec0) ((XP0.out W hW).2)⟩) (SB) ?_
  try simp only [Act.put, List.setIfInBounds_toArray, List.set_cons_zero, List.set_cons_succ]
  refine callJ 9 119 (by kernel_rfl) rfl rfl (by rfl) 17 #[.pointer (some ⟨b, 0, none⟩), .agg (ex0.cells (.slice ha0 0 hc0)).toArray, .slice ea0 48 ec0, .int .i64 1, .int .i64 0] (exec_callF _ _ _ _ rfl (map5 rfl rfl rfl rfl rfl) (enters_of Try.func17 (by kernel_rfl) rfl)) _ PG1.out ?_
  rintro _ wD ⟨ρD, GD, hv, dv, bv, ga, gc, rfl, AF⟩
  have S8 := SB.but LGD AF.but (fun e => e.1 RL)
  refine ⟨S8, ?_⟩
  simp only [Act.put, List.setIfInBounds_toArray, List.set_cons_zero, List.set_cons_succ]
  refine takeJ (i := 10) (v := .tuple #[.agg (whC (outP rr.1) hv dv bv).toArray, .bool rr.1.isSome, .slice ga rr.2.1.length gc]) 109 rfl rfl (by kernel_rfl) (by kernel_rfl) (by kernel_rfl) (by kernel_rfl) (fun _ _ _ h => h) (.inl ⟨by rfl, fun W hW => exec_move _ _ rfl rfl⟩) (S8) ?_
  try simp only [Act.put, List.setIfInBounds_toArray, List.set_cons_zero, List.set_cons_succ]
  refine takeJ (i := 11) (v := .agg (whC (outP rr.1) hv dv bv).toArray) 120 rfl rfl (by kernel_rfl) (by kernel_rfl) (by kernel_rfl) (by kernel_rfl) (fun _ _ _ h => h) (.inl ⟨by rfl, fun W hW => exec_ext _ 0 [.agg (whC (outP rr.1) hv dv bv).toArray, .bool rr.1.isSome, .slice ga rr.2.1.length gc] _ rfl rfl rfl⟩) (S8) ?_
  try simp only [Act.put, List.setIfInBounds_toArray, List.set_cons_zero, List.set_cons_succ]
  refine takeJ (i := 12) (v := .bool rr.1.isSome) 121 rfl rfl (by kernel_rfl) (by kernel_rfl) (by kernel_rfl) (by kernel_rfl) (fun _ _ _ h => h) (.inl ⟨by rfl, fun W hW => exec_ext _ 1 [.agg (whC (outP rr.1) hv dv bv).toArray, .bool rr.1.isSome, .slice ga rr.2.1.length gc] _ rfl rfl rfl⟩) (S8) ?_
  try simp only [Act.put, List.setIfInBounds_toArray, List.set_cons_zero, List.set_cons_succ]
  refine takeJ (i := 13) (v := .slice ga rr.2.1.length gc) 122 rfl rfl (by kernel_rfl) (by kernel_rfl) (by kernel_rfl) (by kernel_rfl) (fun _ _ _ h => h) (.inl ⟨by rfl, fun W hW => exec_ext _ 2 [.agg (whC (outP rr.1) hv dv bv).toArray, .bool rr.1.isSome, .slice ga rr.2.1.length gc] _ rfl rfl rfl⟩) (S8) ?_
  try simp only [Act.put, List.setIfInBounds_toArray, List.set_cons_zero, List.set_cons_succ]
  refine doneJ (by kernel_rfl) ?_ _
  have AMD : Hid (AwM wS b ρD GD wD) := AMC.out.step AF.fr AF.old AF.but
  have ABD : Hid (absG GD = exr4.2.2) := by rw [← HRR.out]; exact AF.ab
  rw [show rr.1.isSome = false by rw [HRR.out, exr4_ok.1]; rfl, show rr.2.1.length = 0 by rw [HRR.out, exr4_ok.2]; rfl]
  have BD : Hid (But (fun g => ρC g ≠ (0, 9) ∧ g < wC.heap.size) wC wD) := (But.of_below (later_drew wC)).trans' AF.but (fun g _ e => e)
  have OD : Hid (∀ g, g < wC.heap.size → ρD g = ρC g) := AF.old
  clear FD LGD RL SB HOW HDW PG1 AF HRR
  go_upto_region 12 with fail
  obtain ⟨rr, hrr⟩ : ∃ rr, rr = exr5 := ⟨_, rfl⟩
  have HRR := hide hrr
  clear hrr
  have FD := AMD.out.fr.later (later_drew wD)
  have LGD : lg < wD.drew.heap.size := Nat.lt_of_lt_of_le HLG.out AMD.out.bel.size
  have RL : (ρD) lg = (0, 9) := AMD.out.low lg HLG.out
  have SB : CellsAt wD.drew lg 0 XK0 := CK0.out.later HLG.out (later AMD.out.bel (later_drew wD))
  have HOW : CB (fun g => (ρD) g = (0, 9)) wD.drew (.slice ha0 0 hc0) ex0.opts := (HO0.out.own (fun g _ e => AMD.out.low g e)).later (later AMD.out.bel (later_drew wD))
  have HDW := HD0.out.later (later AMD.out.bel (later_drew wD))
  have PG1 := hide (put_got FD (by rw [ABD.out]; exact okr4) ex0 _ HOW (by decide) _ _ HDW (by decide) (by decide) (by decide) 4 0 rr (by rw [HRR.out, ABD.out]; rfl))
  have PG2 := hide (fun (W1 : World) (h : W1 = wD.drew.alloc (.cells zWh.toArray 49)) => put_got2 FD (by rw [ABD.out]; exact okr4) ex0 _ HOW (by decide) _ _ HDW (by decide) (by decide) (by decide) 4 0 rr (by rw [HRR.out, ABD.out]; rfl) h)
  go_cut [15, 16, 17] from 123 to 136 (fun v6 v7 v8 wx => ∃ (s6 : Nat) (ρ' : Nat → Nat × Nat) (G' : List (Nat × Gm)) (ga : Option Addr) (gc : Nat), v6 = .pointer (some ⟨s6, 0, none⟩) ∧ v7 = .bool rr.1.isSome ∧ v8 = .slice ga rr.2.1.length gc ∧ Hid (PutAft wD.drew wx (ρD) ρ' b G' rr s6 (.slice ga rr.2.1.length gc)))
  case first =>
    refine regionJ (fun _ => true) (fun W => CellsAt W lg 0 XK0) (by kernel_rfl) ?_
    refine takeJ (i := 0) (v := .pointer (some ⟨b, 0, none⟩)) 124 rfl rfl (by kernel_rfl) (by kernel_rfl) (by kernel_rfl) (by kernel_rfl) (fun _ _ _ h => h) (.inl ⟨by rfl, fun W hW => exec_move _ _ rfl rfl⟩) (SB) ?_
    try simp only [Act.put, List.setIfInBounds_toArray, List.set_cons_zero, List.set_cons_succ]
    refine takeJ (i := 1) (v := .slice (some ⟨lg, 0, none⟩) 3 lc) 125 rfl rfl (by kernel_rfl) (by kernel_rfl) (by kernel_rfl) (by kernel_rfl) (fun _ _ _ h => h) (.inl ⟨by rfl, fun W hW => exec_move _ _ rfl rfl⟩) (SB) ?_
    try simp only [Act.put, List.setIfInBounds_toArray, List.set_cons_zero, List.set_cons_succ]
    refine takeJ (i := 2) (v := .pointer (some ⟨lg, 0, none⟩)) 126 rfl rfl (by kernel_rfl) (by kernel_rfl) (by kernel_rfl) (by kernel_rfl) (fun _ _ _ h => h) (.inl ⟨by rfl, fun W hW => exec_ixPi _ _ lg 3 lc 0 0 rfl rfl rfl rfl (by decide)⟩) (SB) ?_
    try simp only [Act.put, List.setIfInBounds_toArray, List.set_cons_zero, List.set_cons_succ]
    refine takeJ (i := 3) (v := .pointer (some ⟨lg, 0, none⟩)) 127 rfl rfl (by kernel_rfl) (by kernel_rfl) (by kernel_rfl) (by kernel_rfl) (fun _ _ _ h => h) (.inl ⟨by rfl, fun W hW => exec_fieldO 34 _ 0 lg 0 0 rfl rfl (fun w => by kernel_rfl)⟩) (SB) ?_
    try simp only [Act.put, List.setIfInBounds_toArray, List.set_cons_zero, List.set_cons_succ]
    refine takeJ (i := 4) (v := .agg (ex0.cells (.slice ha0 0 hc0)).toArray) 128 rfl rfl (by kernel_rfl) (by kernel_rfl) (by kernel_rfl) (by kernel_rfl) (fun _ _ _ h => h) (.inl ⟨by rfl, fun W hW => exec_loadA 26 16 aggP sizP _ rfl lg 0 rfl _ rfl ((XP0.out W hW).1)⟩) (SB) ?_
    try simp only [Act.put, List.setIfInBounds_toArray, List.set_cons_zero, List.set_cons_succ]
    refine takeJ (i := 5) (v := .slice (some ⟨lg, 0, none⟩) 3 lc) 129 rfl rfl (by kernel_rfl) (by kernel_rfl) (by kernel_rfl) (by kernel_rfl) (fun _ _ _ h => h) (.inl ⟨by rfl, fun W hW => exec_move _ _ rfl rfl⟩) (SB) ?_
    try simp only [Act.put, List.setIfInBounds_toArray, List.set_cons_zero, List.set_cons_succ]
    refine takeJ (i := 6) (v := .pointer (some ⟨lg, 0, none⟩)) 130 rfl rfl (by kernel_rfl) (by kernel_rfl) (by kernel_rfl) (by kernel_rfl) (fun _ _ _ h => h) (.inl ⟨by rfl, fun W hW => exec_ixPi _ _ lg 3 lc 0 0 rfl rfl rfl rfl (by decide)⟩) (SB) ?_
    try simp only [Act.put, List.setIfInBounds_toArray, List.set_cons_zero, List.set_cons_succ]
    refine takeJ (i := 7) (v := .pointer (some ⟨lg, 16, none⟩)) 131 rfl rfl (by kernel_rfl) (by kernel_rfl) (by kernel_rfl) (by kernel_rfl) (fun _ _ _ h => h) (.inl ⟨by rfl, fun W hW => exec_fieldO 34 _ 1 lg 0 16 rfl rfl (fun w => by kernel_rfl)⟩) (SB) ?_
    try simp only [Act.put, List.setIfInBounds_toArray, List.set_cons_zero, List.set_cons_succ]
    refine takeJ (i := 8) (v := .slice ea0 48 ec0) 132 rfl rfl (by kernel_rfl) (by kernel_rfl) (by kernel_rfl) (by kernel_rfl) (fun _ _ _ h => h) (.inl ⟨by rfl, fun W hW => exec_load1 24 oneS _ rfl lg 16 rfl (.slice ea0 48 ec0) ((XP0.out W hW).2)⟩) (SB) ?_
    try simp only [Act.put, List.setIfInBounds_toArray, List.set_cons_zero, List.set_cons_succ]
    refine allJ (rs := [9, 14]) (by kernel_rfl) (by simp) (fun q hq => ?_)
    rcases List.mem_cons.1 hq with rfl | hq
    · refine opJ_call 9 133 rfl rfl (by rfl) 17 #[.pointer (some ⟨b, 0, none⟩), .agg (ex0.cells (.slice ha0 0 hc0)).toArray, .slice ea0 48 ec0, .int .i64 4, .int .i64 0] (exec_callF _ _ _ _ rfl (map5 rfl rfl rfl rfl rfl) (enters_of Try.func17 (by kernel_rfl) rfl)) _ PG1.out ?_
      rintro _ w8 ⟨_, G', hv, dv, bv, ga, gc, rfl, PG⟩
      have S8 := SB.but LGD PG.but (fun e => e.1 RL)
      refine ⟨fun _ => S8, ?_⟩
      simp only [Act.put, List.setIfInBounds_toArray, List.set_cons_zero, List.set_cons_succ]
      refine takeJ (i := 10) (v := .tuple #[.agg (whC (outP rr.1) hv dv bv).toArray, .bool rr.1.isSome, .slice ga rr.2.1.length gc]) 123 rfl rfl (by kernel_rfl) (by kernel_rfl) (by kernel_rfl) (by kernel_rfl) (fun _ _ _ h => h) (.inl ⟨by rfl, fun W hW => exec_move _ _ rfl rfl⟩) (S8) ?_
      try simp only [Act.put, List.setIfInBounds_toArray, List.set_cons_zero, List.set_cons_succ]
      refine takeJ (i := 11) (v := .agg (whC (outP rr.1) hv dv bv).toArray) 134 rfl rfl (by kernel_rfl) (by kernel_rfl) (by kernel_rfl) (by kernel_rfl) (fun _ _ _ h => h) (.inl ⟨by rfl, fun W hW => exec_ext _ 0 [.agg (whC (outP rr.1) hv dv bv).toArray, .bool rr.1.isSome, .slice ga rr.2.1.length gc] _ rfl rfl rfl⟩) (S8) ?_
      try simp only [Act.put, List.setIfInBounds_toArray, List.set_cons_zero, List.set_cons_succ]
      refine takeJ (i := 12) (v := .bool rr.1.isSome) 135 rfl rfl (by kernel_rfl) (by kernel_rfl) (by kernel_rfl) (by kernel_rfl) (fun _ _ _ h => h) (.inl ⟨by rfl, fun W hW => exec_ext _ 1 [.agg (whC (outP rr.1) hv dv bv).toArray, .bool rr.1.isSome, .slice ga rr.2.1.length gc] _ rfl rfl rfl⟩) (S8) ?_
      try simp only [Act.put, List.setIfInBounds_toArray, List.set_cons_zero, List.set_cons_succ]
      refine takeJ (i := 13) (v := .slice ga rr.2.1.length gc) 136 rfl rfl (by kernel_rfl) (by kernel_rfl) (by kernel_rfl) (by kernel_rfl) (fun _ _ _ h => h) (.inl ⟨by rfl, fun W hW => exec_ext _ 2 [.agg (whC (outP rr.1) hv dv bv).toArray, .bool rr.1.isSome, .slice ga rr.2.1.length gc] _ rfl rfl rfl⟩) (S8) ?_
      try simp only [Act.put, List.setIfInBounds_toArray, List.set_cons_zero, List.set_cons_succ]
      obtain ⟨w9, wz, ρ2, hw9, c9, f9, hwz, AF⟩ := PG.aft
      have HW9 := hide hw9
      have HWZ := hide hwz
      have one9 := PG.one
      obtain ⟨s6, hs6⟩ : ∃ s6, s6 = w8.heap.size := ⟨_, rfl⟩
      rw [← hs6] at c9 f9 hwz AF HWZ
      have S9 := CellsAt.later (W' := w9) S8 (Nat.lt_of_lt_of_le LGD PG.but.size) (by rw [HW9.out]; exact later_alloc _ _)
      have SZ := SB.but LGD AF.but (fun e => e.1 RL)
      refine nextJ (w' := w9) 14 15 (.pointer (some ⟨s6, 0, none⟩)) (by kernel_rfl) rfl rfl (by rfl) ((by rw [HW9.out, hs6]; exact exec_allocWh rfl)) (S9) ?_
      try simp only [Act.put, List.setIfInBounds_toArray, List.set_cons_zero, List.set_cons_succ]
      refine storeJ (w' := wz) 15 (by kernel_rfl) rfl rfl (by rfl) ((by rw [HWZ.out]; exact exec_storeA 49 18 sizWh _ _ rfl s6 0 rfl _ zWh rfl rfl rfl c9 f9 one9)) ((fun _ => SZ)) ?_
      try simp only [Act.put, List.setIfInBounds_toArray, List.set_cons_zero, List.set_cons_succ]
      refine takeJ (i := 16) (v := .bool rr.1.isSome) 16 rfl rfl (by kernel_rfl) (by kernel_rfl) (by kernel_rfl) (by kernel_rfl) (fun _ _ _ h => h) (.inl ⟨by rfl, fun W hW => exec_assign _ _ rfl rfl⟩) (SZ) ?_
      try simp only [Act.put, List.setIfInBounds_toArray, List.set_cons_zero, List.set_cons_succ]
      refine takeJ (i := 17) (v := .slice ga rr.2.1.length gc) 17 rfl rfl (by kernel_rfl) (by kernel_rfl) (by kernel_rfl) (by kernel_rfl) (fun _ _ _ h => h) (.inl ⟨by rfl, fun W hW => exec_assign _ _ rfl rfl⟩) (SZ) ?_
      try simp only [Act.put, List.setIfInBounds_toArray, List.set_cons_zero, List.set_cons_succ]
      refine doneJ (by kernel_rfl) ?_ _
      have AFH := hide AF
      clear AF PG S8 S9 SZ hw9 c9 f9 hwz HW9 HWZ one9 hs6
      go_wp2
      go_meet
      exact ⟨s6, _, G', ga, gc, rfl, rfl, rfl, AFH⟩
    · obtain rfl : q = 14 := by simpa using hq
      obtain ⟨w7, hw7⟩ : ∃ w7, w7 = wD.drew.alloc (.cells zWh.toArray 49) := ⟨_, rfl⟩
      have HW7 := hide hw7
      refine opJ_val (w' := w7) 14 15 (.pointer (some ⟨wD.drew.heap.size, 0, none⟩)) rfl rfl (by rfl) (by rw [HW7.out]; exact exec_allocWh rfl) ?_
      have S7 := CellsAt.later (W' := w7) SB LGD (by rw [HW7.out]; exact later_alloc _ _)
      refine ⟨fun _ => S7, ?_⟩
      simp only [Act.put, List.setIfInBounds_toArray, List.set_cons_zero, List.set_cons_succ]
      refine callJ 9 133 (by kernel_rfl) rfl rfl (by rfl) 17 #[.pointer (some ⟨b, 0, none⟩), .agg (ex0.cells (.slice ha0 0 hc0)).toArray, .slice ea0 48 ec0, .int .i64 4, .int .i64 0] (exec_callF _ _ _ _ rfl (map5 rfl rfl rfl rfl rfl) (enters_of Try.func17 (by kernel_rfl) rfl)) _ (PG2.out w7 HW7.out) ?_
      rintro _ w8 ⟨ρ2, G', hv, dv, bv, ga, gc, rfl, PG⟩
      have S8 := S7.but (Nat.lt_of_lt_of_le LGD (show wD.drew.heap.size ≤ w7.heap.size by rw [HW7.out]; simp)) PG.but (fun e => e.1 (by rw [cutR_lt LGD]; exact RL))
      refine ⟨S8, ?_⟩
      simp only [Act.put, List.setIfInBounds_toArray, List.set_cons_zero, List.set_cons_succ]
      refine takeJ (i := 10) (v := .tuple #[.agg (whC (outP rr.1) hv dv bv).toArray, .bool rr.1.isSome, .slice ga rr.2.1.length gc]) 123 rfl rfl (by kernel_rfl) (by kernel_rfl) (by kernel_rfl) (by kernel_rfl) (fun _ _ _ h => h) (.inl ⟨by rfl, fun W hW => exec_move _ _ rfl rfl⟩) (S8) ?_
      try simp only [Act.put, List.setIfInBounds_toArray, List.set_cons_zero, List.set_cons_succ]
      refine takeJ (i := 11) (v := .agg (whC (outP rr.1) hv dv bv).toArray) 134 rfl rfl (by kernel_rfl) (by kernel_rfl) (by kernel_rfl) (by kernel_rfl) (fun _ _ _ h => h) (.inl ⟨by rfl, fun W hW => exec_ext _ 0 [.agg (whC (outP rr.1) hv dv bv).toArray, .bool rr.1.isSome, .slice ga rr.2.1.length gc] _ rfl rfl rfl⟩) (S8) ?_
      try simp only [Act.put, List.setIfInBounds_toArray, List.set_cons_zero, List.set_cons_succ]
      refine takeJ (i := 12) (v := .bool rr.1.isSome) 135 rfl rfl (by kernel_rfl) (by kernel_rfl) (by kernel_rfl) (by kernel_rfl) (fun _ _ _ h => h) (.inl ⟨by rfl, fun W hW => exec_ext _ 1 [.agg (whC (outP rr.1) hv dv bv).toArray, .bool rr.1.isSome, .slice ga rr.2.1.length gc] _ rfl rfl rfl⟩) (S8) ?_
      try simp only [Act.put, List.setIfInBounds_toArray, List.set_cons_zero, List.set_cons_succ]
      refine takeJ (i := 13) (v := .slice ga rr.2.1.length gc) 136 rfl rfl (by kernel_rfl) (by kernel_rfl) (by kernel_rfl) (by kernel_rfl) (fun _ _ _ h => h) (.inl ⟨by rfl, fun W hW => exec_ext _ 2 [.agg (whC (outP rr.1) hv dv bv).toArray, .bool rr.1.isSome, .slice ga rr.2.1.length gc] _ rfl rfl rfl⟩) (S8) ?_
      try simp only [Act.put, List.setIfInBounds_toArray, List.set_cons_zero, List.set_cons_succ]
      obtain ⟨c9, f9, wz, hwz, AF⟩ := PG.aft2 HW7.out
      have HWZ := hide hwz
      have one9 := PG.one
      have SZ := SB.but LGD AF.but (fun e => e.1 RL)
      refine storeJ (w' := wz) 15 (by kernel_rfl) rfl rfl (by rfl) ((by rw [HWZ.out]; exact exec_storeA 49 18 sizWh _ _ rfl wD.drew.heap.size 0 rfl _ zWh rfl rfl rfl c9 f9 one9)) ((fun _ => SZ)) ?_
      try simp only [Act.put, List.setIfInBounds_toArray, List.set_cons_zero, List.set_cons_succ]
      refine takeJ (i := 16) (v := .bool rr.1.isSome) 16 rfl rfl (by kernel_rfl) (by kernel_rfl) (by kernel_rfl) (by kernel_rfl) (fun _ _ _ h => h) (.inl ⟨by rfl, fun W hW => exec_assign _ _ rfl rfl⟩) (SZ) ?_
      try simp only [Act.put, List.setIfInBounds_toArray, List.set_cons_zero, List.set_cons_succ]
      refine takeJ (i := 17) (v := .slice ga rr.2.1.length gc) 17 rfl rfl (by kernel_rfl) (by kernel_rfl) (by kernel_rfl) (by kernel_rfl) (fun _ _ _ h => h) (.inl ⟨by rfl, fun W hW => exec_assign _ _ rfl rfl⟩) (SZ) ?_
      try simp only [Act.put, List.setIfInBounds_toArray, List.set_cons_zero, List.set_cons_succ]
      refine doneJ (by kernel_rfl) ?_ _
      have AFH := hide AF
      clear AF PG S7 S8 SZ hw7 HW7 c9 f9 hwz HWZ one9
      go_wp2
      go_meet
      exact ⟨_, _, G', ga, gc, rfl, rfl, rfl, AFH⟩
  obtain ⟨sE, ρE, GE, ga, gc, rfl, rfl, rfl, AFH⟩ := hcut
  obtain ⟨wE, hwE⟩ : ∃ w9, w9 = wc := ⟨_, rfl⟩
  rw [← hwE] at AFH ⊢
  have AF := AFH.out
  clear hwE PG2
  have AME : Hid (AwM wS b ρE GE wE) := AMD.out.step AF.fr AF.old AF.but
  have ABE : Hid (absG GE = exr5.2.2) := by rw [← HRR.out]; exact AF.ab
  rw [show rr.1.isSome = false by rw [HRR.out, exr5_ok.1]; rfl, show rr.2.1.length = 2 by rw [HRR.out, exr5_ok.2.1]; rfl]
  have BE := BD.out.trans' ((But.of_below (K := fun g => ρD g ≠ (0, 9) ∧ g < wD.drew.heap.size) (later_drew wD)).trans' AF.but (fun g _ e => e)) (fun g hg e => ⟨by rw [← OD.out g hg]; exact e.1, hg⟩)
  clear AFH
  clear FD LGD RL SB HOW HDW PG1 AF HRR
  have lsC : sC < wC.heap.size := C3.lt (by rw [whC_len]; decide)
  have C3E : CellsAt wE sC 0 (whC exP hv3 dv3 bv3) := C3.but lsC BE (fun e => e.1 L3.2)
  have RB := (RB3.but BE (fun g e e2 => e2.1 e.2.2)).cn.isB
  have RN := (RN3.but BE (fun g e e2 => e2.1 e.2.2))
  have HV := (HV3.own (P' := fun g => g < wC.heap.size) (fun g hg _ => hg))
  obtain ⟨hva, hvc, hve⟩ := HV3.shape
  have HVB : CB (fun _ => True) wE hv3 [] := ⟨hva, hvc, hve, Nat.zero_le _, (by obtain ⟨a', c', e', _, hn, _⟩ := HV3; rw [hve] at e'; simp only [Value.slice.injEq] at e'; obtain ⟨rfl, _, rfl⟩ := e'; exact hn), fun h => absurd h (Nat.lt_irrefl _)⟩
  have PE : CellsAt wE s2 0 XP := HPS.out.later LS2.out AME.out.bel
  have DE := (HDS.out.later AME.out.bel)
  obtain ⟨va, vc, cv, _⟩ := AME.out.fr.at
  have gl : GE.length = 0 := absG_nil (by rw [ABE.out]; exact exr5_ok.2.2)
  rw [gl] at cv
  have HBE := hide (later HBS.out AME.out.bel)
  have CP : CellsAt wE sC 0 (exP.cells hv3) ∧ wE.cell? ⟨sC, 16, none⟩ = some dv3 ∧ wE.cell? ⟨sC, 17, none⟩ = some bv3 := by
    unfold whC at C3E
    rw [CellsAt.append] at C3E
    exact ⟨C3E.1, C3E.2 0 _ rfl, C3E.2 1 _ rfl⟩
  obtain ⟨da3, dc3, rfl, _⟩ := RB.shape
  obtain ⟨ba3, bc3, rfl⟩ := RN.shape
  rw [show (outD (some (exP, exB, [1, 2, 3]))).length = 100 by decide] at RB CP
  rw [show (outB (some (exP, exB, [1, 2, 3]))).length = 3 by decide] at RN CP
  obtain ⟨bg3, bo3, rfl, lbg, _, bcell⟩ := RN.at (by decide)
  have SM := hide (Same_true exP hv3 (.slice none 0 0) wE HVB.isB (Cn.nil _ (fun _ => False) _).isB)
  rw [← HXP.out] at SM
  obtain ⟨X3, hX3⟩ : ∃ X3, X3 = exP.cells hv3 := ⟨_, rfl⟩
  have LX3 : Hid (X3.length = 16) := by rw [hX3]; exact rfl
  have CX3 : Hid (CellsAt wE sC 0 X3) := by rw [hX3]; exact CP.1
  rw [← hX3] at SM
  have HPE := hide PE
  have LSC : sC < wE.heap.size := C3E.lt (by rw [whC_len]; decide)
  have FIN : Hid (∀ W, Below wE.heap.size wE W → W.cell? ⟨sC, 16, none⟩ = some (.slice da3 100 dc3) ∧ W.cell? ⟨sC, 17, none⟩ = some (.slice (some ⟨bg3, bo3, none⟩) 3 bc3) ∧ W.cell? ⟨bg3, bo3, none⟩ = some (.int .i64 1) ∧ W.cell? ⟨bg3, bo3 + 2, none⟩ = some (.int .i64 3) ∧ W.cell? ⟨b, 0, none⟩ = some (.slice va 0 vc) ∧ (convert 24 9 (.slice da3 100 dc3)).run Try.prog W = .ok (.string (strB exB)) W ∧ (convert 24 9 (.slice (some ⟨gb, 0, none⟩) 100 100)).run Try.prog W = .ok (.string (strB exB)) W) := fun W hW => by
    refine ⟨(hW.cell (p := ⟨sC, 16, none⟩) LSC).trans CP.2.1, (hW.cell (p := ⟨sC, 17, none⟩) LSC).trans CP.2.2, ?_, (hW.cell (p := ⟨bg3, bo3 + 2, none⟩) lbg).trans (bcell 2 3 rfl), (hW.cell (p := ⟨b, 0, none⟩) AME.out.fr.lt).trans cv, conv_str (RB.later hW), conv_str (DE.isB.later hW)⟩
    exact (hW.cell (p := ⟨bg3, bo3, none⟩) lbg).trans (bcell 0 1 rfl)
  clear lsC C3E RB RN HV hva hvc hve HVB PE DE cv gl CP lbg bcell hX3 LSC C3 RB3 RN3 HV3 L3 BE
  go_wp2_with (first | refine wpList_loadA rfl 26 16 aggP sizP _ rfl sC 0 rfl X3 LX3.out CX3.out ?_ | refine wpList_loadA rfl 26 16 aggP sizP _ rfl s2 0 rfl XP LXP.out HPE.out ?_)
  refine SM.out.mono ?_
  rintro _ w6 ⟨rfl, b6⟩
  obtain ⟨y16, y17, z0, z2, y0, so, su⟩ := FIN.out w6 b6
  have HB6 := hide (later HBE.out b6)
  have LEN := hide (fLen_any w6 b va 0 vc y0)
  obtain ⟨SO, hSO⟩ : ∃ SO, SO = strB exB := ⟨_, rfl⟩
  rw [← hSO] at so su
  clear SM CX3 HPE FIN b6 hSO y0 HBE
  go_wp2_with fail
  refine LEN.out.mono ?_
  rintro _ wq ⟨rfl, hwq⟩
  rw [hwq]
  clear hwq wq LEN
  go_wp2
  go_ret
  exact ⟨rfl, HB6.out⟩
end Go.Proofs.Ytgempelfamjabaa
