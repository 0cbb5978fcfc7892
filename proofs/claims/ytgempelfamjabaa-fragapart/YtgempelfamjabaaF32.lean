
/-
  Package frag: cut, the walk.
-/
import Derived.Test.YtgempelfamjabaaF31
namespace Go.Proofs.Ytgempelfamjabaa
open Go.RowKit Go.Shelf

def mu14 (s n : Nat) (W : World) : Nat := match W.cell? ⟨s, 14, none⟩ with | some (.int _ i) => n + 1 - i.toNat | _ => 0
theorem CutM.op {w : World} {s B : Nat} {p : Pk} {others D : List Int} {mtu : Nat} {bv0 vo v : Value} {o vn : Nat} {W : World} (h : CutM w s B p others D mtu bv0 vo v o vn W) : mu14 s D.length W = D.length + 1 - o := by
  obtain ⟨mo, hv, os, hc, _⟩ := h.x
  unfold mu14
  rw [show W.cell? ⟨s, 14, none⟩ = some (.int .i64 (o : Int)) from hc 14 _ rfl]
  rfl
theorem exec_slD {o : Oper} {w : World} {ev : Operand → Value} (x y : Operand) (ad : Option Addr) (n c k : Nat) (ho : o.op = .slice 24 x (some y) none none) (hx : ev x = .slice ad n c) (hy : ev y = .int .i64 (k : Int)) (hk : k ≤ n) (hn : n ≤ c) : (execOp ev o).run Try.prog w = .ok (.value (.slice (if c = k then ad else ad.map (fun x : Addr => x.add k)) (n - k) (c - k))) w := by
  have h1 : (k : Int) ≤ n := by omega
  unfold execOp
  by_cases e : c = k
  · subst e
    have : n = c := by omega
    subst this
    simp [ho, hx, hy, go_sem]
  · rw [if_neg e]
    simp [ho, hx, hy, go_sem, h1, e]
set_option maxRecDepth 100000 in
set_option maxHeartbeats 16000000 in
theorem cut_any {P Q : Nat → Prop} (p : Pk) (ov : Value) (w : World) (ho : CB P w ov p.opts) (hB : Bytes p.opts) (hol : p.opts.length ≤ 40) (bv0 : Value) (D : List Int) (hd : CB Q w bv0 D) (hdl : D.length ≤ 10000000) (m : Nat) (h68 : 68 ≤ m) (hm : (m : Int) ≤ 9223372036854775807) (hoff : p.off = 0) :
    Calls Try.prog 25 #[.agg (p.cells ov).toArray, bv0, .int .i64 (m : Int)] w fun e w' => ∃ v, e = .returned v ∧ ∃ (τ : Nat → Nat × Nat) (L : List Pi), PiAt τ w.heap.size w' v L ∧ L.map Pi.ab = cutS p D m ∧ Below w.heap.size w w' := by
  rw [show (Value.agg (p.cells ov).toArray) = .agg #[.int .u8 p.src.a, .int .u8 p.src.b, .int .u8 p.src.c, .int .u8 p.src.d, .int .u8 p.dst.a, .int .u8 p.dst.b, .int .u8 p.dst.c, .int .u8 p.dst.d, .int .i64 p.proto, .int .i64 p.ttl, .int .i64 p.id, .int .i64 p.tos, .bool p.whole, .bool p.more, .int .i64 p.off, ov] from rfl]
  obtain ⟨w1, s, hs, hw1, c1, f1, b1, l1⟩ := boxP w p ov
  have k15 : w1.cell? ⟨s, 15, none⟩ = some ov := c1 15 _ rfl
  have CO := hide (copied_any (ho.later b1) hB hol)
  obtain ⟨da, dc, rfl⟩ := hd.shape
  obtain ⟨oa, oc, rfl⟩ := ho.shape
  obtain ⟨n0, hn0⟩ : ∃ n0, n0 = p.opts.length := ⟨_, rfl⟩
  have HO := hide ((ho.own (P' := fun g => g < s) (fun g hg _ => by omega)).later b1)
  rw [← hn0] at CO HO k15 ⊢
  obtain ⟨dn, hdn⟩ : ∃ dn, dn = D.length := ⟨_, rfl⟩
  have HD := hide ((hd.own (P' := fun g => g < s) (fun g hg _ => by omega)).later b1)
  rw [← hdn] at HD ⊢
  have hdc : dn ≤ dc := by
    obtain ⟨_, _, e, h1, _⟩ := hd
    simp only [Value.slice.injEq] at e
    omega
  have HDN := hide hdn
  have HN0 := hide hn0
  have hdl' : dn ≤ 10000000 := by rw [hdn]; exact hdl
  have HS := hide hs
  have C1 := hide c1
  have F1 := hide f1
  have B1 := hide b1
  have HDL := hide hdl'
  have HOL := hide hol
  have HOFF := hide hoff
  have hs' := hs.symm
  have hw1' : w.alloc (.cells #[.int .u8 p.src.a, .int .u8 p.src.b, .int .u8 p.src.c, .int .u8 p.src.d, .int .u8 p.dst.a, .int .u8 p.dst.b, .int .u8 p.dst.c, .int .u8 p.dst.d, .int .i64 p.proto, .int .i64 p.ttl, .int .i64 p.id, .int .i64 p.tos, .bool p.whole, .bool p.more, .int .i64 p.off, .slice oa n0 oc] 26) = w1 := by rw [hw1, hn0]
  have L1 := hide l1
  clear hs hw1 c1 f1 b1 l1 ho hB hol hd hdl hdl' hn0 hdn hoff
  go_enter Try.func25, Try.ntmps25
  go_wp2_with fail
  clear hs' hw1' k15
  refine CO.out.mono ?_
  rintro _ w2 ⟨vo, rfl, ro, b2⟩
  obtain ⟨ga, gc, rfl⟩ := ro.shape
  obtain ⟨OT, hOT⟩ : ∃ OT, OT = padO (cpO p.opts) := ⟨_, rfl⟩
  obtain ⟨gn, hgn⟩ : ∃ gn, gn = OT.length := ⟨_, rfl⟩
  rw [← hOT, ← hgn] at ro ⊢
  have OL : Hid (OT.length ≤ 40) := by
    have h1 := cpO_le _ p.opts (Nat.le_refl _)
    have h2 := HOL.out
    unfold Hid
    rw [hOT]
    unfold padO
    rw [List.length_append, List.length_replicate]
    omega
  have M0 : Hid (CutM w s w2.heap.size p OT D m (.slice da dn dc) (.slice ga gn gc) (.slice none 0 0) 0 0 w2) := by
    have z1 := B1.out.size
    have z2 := b2.size
    refine ⟨later B1.out b2, ⟨p.more, .slice oa n0 oc, p.opts, ?_, (HO.out.later b2).own (fun g hg e => ⟨hg, by omega⟩), HOL.out, fun _ => (0, 0), [], D.length, PiAt.nil _ _ _, rfl, by rw [hOT]; rfl, by omega⟩, fun y => (b2.frozen (p := ⟨s, y, none⟩) L1.out).trans (F1.out y), (HD.out.later b2).own (fun g hg e => ⟨hg, by omega⟩), ro.cn.own (fun g hg e => ⟨hg, by have := L1.out; omega⟩), ⟨Nat.lt_of_lt_of_le L1.out z2, Nat.le_refl _⟩, Nat.zero_le _, Nat.le_refl _⟩
    have e : ({ p with more := p.more, off := ((0 : Nat) : Int), opts := p.opts } : Pk) = p := by
      have := HOFF.out
      cases p
      simp_all
    rw [e]
    have hc := C1.out.later L1.out b2
    rw [← HN0.out] at hc
    exact hc
  obtain ⟨B, hBB⟩ : ∃ B, B = w2.heap.size := ⟨_, rfl⟩
  rw [← hBB] at M0
  have HBW : Hid (w.heap.size ≤ B) := by have := (later B1.out b2).size; unfold Hid; omega
  have HOT := hide hOT
  have HGN := hide hgn
  clear ro b2 CO HO HD C1 F1 hBB L1 hOT hgn
  go_wp2
  go_loopw [7] (fun v7 wr => ∃ (va : Option Addr) (vn vc o : Nat), v7 = .slice va vn vc ∧ Hid (CutM w s B p OT D m (.slice da dn dc) (.slice ga gn gc) (.slice va vn vc) o vn wr)) (fun _ wr => mu14 s D.length wr)
  case atStart => exact ⟨none, 0, 0, 0, rfl, M0.out⟩
  case round =>
    clear M0
    obtain ⟨va, vn, vc, o, rfl, HM⟩ := hrel
    obtain ⟨wk, hwk⟩ : ∃ wk, wk = wr := ⟨_, rfl⟩
    rw [← hwk] at HM ⊢
    clear hwk
    obtain ⟨mo, hv, os, hc, hcv, hos, τ, L, f, PA, hvn, eq, hf⟩ := HM.out.x
    obtain ⟨ha, hcc, rfl⟩ := hcv.shape
    obtain ⟨hn, hhn⟩ : ∃ hn, hn = os.length := ⟨_, rfl⟩
    rw [← hhn] at hcv hc
    have k14 : wk.cell? ⟨s, 14, none⟩ = some (.int .i64 (o : Int)) := hc 14 _ rfl
    have k15 : wk.cell? ⟨s, 15, none⟩ = some (.slice ha hn hcc) := hc 15 _ rfl
    have k13 : wk.cell? ⟨s, 13, none⟩ = some (.bool mo) := hc 13 _ rfl
    have g13 : wk.frozen? ⟨s, 13, none⟩ = false := HM.out.f 13
    have ole : o ≤ dn := by have := HM.out.le.1; have := HDN.out; omega
    have z1 : (0 : Int) ≤ (o : Int) := by omega
    have z2 : (o : Int) ≤ (dn : Int) := by omega
    have z3 : (dn : Int) ≤ (dc : Int) := by omega
    have hn40 : hn ≤ 40 := by omega
    obtain ⟨rm, hrm⟩ : ∃ rm, rm = m - 20 - hn := ⟨_, rfl⟩
    have RO := roomFor_any ha hn hcc (m : Int) wk (by omega) (by omega) hm
    rw [show (m : Int) - 20 - hn = (rm : Int) by omega] at RO
    replace RO := hide RO
    have HRM := hide hrm
    have rm0 : 8 ≤ rm := by omega
    clear hrm
    have CHV := hide hcv
    have HC := hide hc
    have HPA := hide PA
    have HEQ := hide eq
    have HHN := hide hhn
    clear hc hcv PA eq hhn
    have HVN := hide hvn
    clear hvn
    obtain ⟨la, hla⟩ : ∃ la, la = (if dc = o then da else da.map (fun x : Addr => x.add o)) := ⟨_, rfl⟩
    obtain ⟨ln, hln⟩ : ∃ ln, ln = dn - o := ⟨_, rfl⟩
    obtain ⟨lc, hlc⟩ : ∃ lc, lc = dc - o := ⟨_, rfl⟩
    have LV : Hid (CB (fun g => g < B ∧ g ≠ s) wk (.slice la ln lc) (D.drop o)) := by
      rw [hla, hln, hlc]
      exact Cn.drop HM.out.hd o ole
    have SL : Hid (∀ (op : Oper) (ev : Operand → Value) (x y : Operand), op.op = .slice 24 x (some y) none none → ev x = .slice da dn dc → ev y = .int .i64 (o : Int) → (execOp ev op).run Try.prog wk = .ok (.value (.slice la ln lc)) wk) := fun op ev x y h1 h2 h3 => by
      rw [hla, hln, hlc]
      exact exec_slD x y da dn dc o h1 h2 h3 ole hdc
    have LLC : ln ≤ lc := by omega
    have HLN := hide hln
    clear hla hln hlc
    go_upto_region 3 with fail
    refine wp_region_list ?_
    refine listVP (w' := wk) 15 (.slice da dn dc) rfl rfl rfl (exec_move _ _ rfl rfl) ?_
    try simp only [Act.put, List.setIfInBounds_toArray, List.set_cons_zero, List.set_cons_succ]
    refine listVP (w' := wk) 16 (.pointer (some ⟨s, 14, none⟩)) rfl rfl rfl (exec_fieldO 26 _ 8 s 0 14 rfl rfl (fun w => by kernel_rfl)) ?_
    try simp only [Act.put, List.setIfInBounds_toArray, List.set_cons_zero, List.set_cons_succ]
    refine listVP (w' := wk) 17 (.int .i64 (o : Int)) rfl rfl rfl (exec_load1 3 one1 _ rfl s 14 rfl (.int .i64 (o : Int)) (k14)) ?_
    try simp only [Act.put, List.setIfInBounds_toArray, List.set_cons_zero, List.set_cons_succ]
    refine listVP (w' := wk) 18 (.slice la ln lc) rfl rfl rfl (SL.out _ _ _ _ rfl rfl rfl) ?_
    try simp only [Act.put, List.setIfInBounds_toArray, List.set_cons_zero, List.set_cons_succ]
    refine listVP (w' := wk) 9 (.slice la ln lc) rfl rfl rfl (exec_assign _ _ rfl rfl) ?_
    try simp only [Act.put, List.setIfInBounds_toArray, List.set_cons_zero, List.set_cons_succ]
    clear SL
    go_wp2_with fail
    refine RO.out.mono ?_
    rintro _ wq ⟨rfl, hwq⟩
    rw [hwq]
    clear hwq wq RO
    by_cases hmore : rm < ln
    · have q1 : (rm : Int) < (ln : Int) := by omega
      obtain ⟨r8, hr8⟩ : ∃ r8, r8 = rm / 8 := ⟨_, rfl⟩
      have qd : (rm : Int).tdiv 8 = (r8 : Int) := by rw [Int.tdiv_eq_ediv_of_nonneg (by omega)]; omega
      have qd2 : (rm : Int) / 8 = (r8 : Int) := by omega
      have hl7 : ln ≤ 10000000 := by have := HLN.out; have := HDL.out; omega
      obtain ⟨zz, hzz⟩ : ∃ zz, zz = r8 * 8 := ⟨_, rfl⟩
      obtain ⟨w3, hw3⟩ : ∃ w3, w3 = wk.setCell ⟨s, 13, none⟩ (.bool true) := ⟨_, rfl⟩
      have b3 : But (Only s) wk w3 := by rw [hw3]; exact (But.refl (Only s) wk).cellb (b := s) rfl 13 _
      obtain ⟨pk9, hpk9⟩ : ∃ pk9 : Pk, pk9 = { p with more := true, off := (o : Int), opts := os } := ⟨_, rfl⟩
      obtain ⟨X9, hX9⟩ : ∃ X9, X9 = pk9.cells (.slice ha hn hcc) := ⟨_, rfl⟩
      have LX9 : Hid (X9.length = 16) := by rw [hX9]; exact rfl
      have CX9 : Hid (CellsAt w3.drew s 0 X9) := by
        have := HC.out.set 13 (.bool true)
        rw [← hw3] at this
        rw [hX9, hpk9]
        exact this
      have L9 : Hid (s < w3.drew.heap.size) := CX9.out.lt (by rw [LX9.out]; decide)
      have HSB : Hid (s < B) := HM.out.hB.1
      have HB9 : Hid (B ≤ w3.drew.heap.size) := Nat.le_trans HM.out.hB.2 b3.size
      have F9 : Hid (∀ y, w3.frozen? ⟨s, y, none⟩ = false) := fun y => by rw [hw3, World.frozen?_setCell]; exact HM.out.f y
      have nS : ∀ g, g < B ∧ g ≠ s → ¬ Only s g := fun g e e2 => e.2 e2
      have hzl : zz ≤ ln := by rw [hzz]; omega
      have EO : pk9.opts = os := by rw [hpk9]
      have TW := hide (two_calls (P := fun g => g < B ∧ g ≠ s) (Q := fun g => g < B ∧ g ≠ s) pk9 (.slice ha hn hcc) (.slice la zz lc) ((D.drop o).take zz) w3.drew s X9 hX9 L9.out CX9.out (by rw [EO]; exact (CHV.out.but b3 nS).later (later_drew w3)) (by rw [EO]; omega) ((Cn.take LV.out zz hzl |>.but b3 nS).later (later_drew w3)) (by rw [List.length_take]; omega))
      have P9 : Hid (PiAt τ B w3.drew (.slice va vn vc) L) := (HPA.out.but b3 (fun g _ hg _ e => by have e : g = s := e; have := HSB.out; omega)).later (later_drew w3)
      have W3 : Hid (CB (fun g => g < B ∧ g ≠ s) w3 (.slice da dn dc) D ∧ CB (fun g => g < B ∧ g ≠ s) w3 (.slice ga gn gc) OT ∧ Below w.heap.size w w3) := ⟨HM.out.hd.but b3 nS, HM.out.ho.but b3 nS, HM.out.b.trans (b3.below HM.out.b.size (fun g hg e => by have e : g = s := e; have := HS.out; omega))⟩
      have hw3' := hw3.symm
      have HPK := hide hpk9
      have HZZ := hide hzz
      have HX9 := hide hX9
      clear hw3 b3 hX9 nS hpk9 HC HPA CHV LV
      have qm : (r8 : Int) * 8 = (zz : Int) := by omega
      have zb : (zz : Int) ≤ 10000000 := by omega
      have zb0 : (0 : Int) ≤ (zz : Int) := by omega
      clear hzz
      have HR8 := hide hr8
      clear hr8
      go_upto_region 9 with fail
      clear q1 qd qd2 qm k13 k14 k15 g13 hw3'

      refine regionJ (fun _ => true) (fun W => CellsAt W s 0 X9) (by kernel_rfl) ?_
      refine takeJ (i := 0) (v := .slice va vn vc) 33 rfl rfl (by kernel_rfl) (by kernel_rfl) (by kernel_rfl) (by kernel_rfl) (fun _ _ _ h => h) (.inl ⟨by rfl, fun W hW => exec_move _ _ rfl rfl⟩) (CX9.out) ?_
      try simp only [Act.put, List.setIfInBounds_toArray, List.set_cons_zero, List.set_cons_succ]
      refine takeJ (i := 1) (v := .agg X9.toArray) 34 rfl rfl (by kernel_rfl) (by kernel_rfl) (by kernel_rfl) (by kernel_rfl) (fun _ _ _ h => h) (.inl ⟨by rfl, fun W hW => exec_loadA 26 16 aggP sizP _ rfl s 0 rfl X9 LX9.out hW⟩) (CX9.out) ?_
      try simp only [Act.put, List.setIfInBounds_toArray, List.set_cons_zero, List.set_cons_succ]
      refine takeJ (i := 3) (v := .slice la ln lc) 36 rfl rfl (by kernel_rfl) (by kernel_rfl) (by kernel_rfl) (by kernel_rfl) (fun _ _ _ h => h) (.inl ⟨by rfl, fun W hW => exec_move _ _ rfl rfl⟩) (CX9.out) ?_
      try simp only [Act.put, List.setIfInBounds_toArray, List.set_cons_zero, List.set_cons_succ]
      refine takeJ (i := 4) (v := .int .i64 (zz : Int)) 37 rfl rfl (by kernel_rfl) (by kernel_rfl) (by kernel_rfl) (by kernel_rfl) (fun _ _ _ h => h) (.inl ⟨by rfl, fun W hW => exec_move _ _ rfl rfl⟩) (CX9.out) ?_
      try simp only [Act.put, List.setIfInBounds_toArray, List.set_cons_zero, List.set_cons_succ]
      refine takeJ (i := 5) (v := .slice la zz lc) 38 rfl rfl (by kernel_rfl) (by kernel_rfl) (by kernel_rfl) (by kernel_rfl) (fun _ _ _ h => h) (.inl ⟨by rfl, fun W hW => exec_slU _ _ la ln lc zz rfl rfl rfl (by omega)⟩) (CX9.out) ?_
      try simp only [Act.put, List.setIfInBounds_toArray, List.set_cons_zero, List.set_cons_succ]
      refine callJ 2 35 (by kernel_rfl) rfl rfl (by rfl) 31 #[.agg X9.toArray] (exec_callF _ _ _ _ rfl (map1 rfl) (enters_of Try.func31 (by kernel_rfl) rfl)) _ TW.out.1 ?_
      rintro u W8 ⟨S8, hc8⟩
      refine ⟨S8, ?_⟩
      simp only [Act.put, List.setIfInBounds_toArray, List.set_cons_zero, List.set_cons_succ]
      refine callJ 6 39 (by kernel_rfl) rfl rfl (by rfl) 32 #[.slice la zz lc] (exec_callF _ _ _ _ rfl (map1 rfl) (enters_of Try.func32 (by kernel_rfl) rfl)) _ hc8 ?_
      rintro v W9 ⟨ua, un, uc, ea, en, ec, σ, rfl, rfl, hu, hv, bw⟩
      clear S8 hc8
      simp only [Act.put, List.setIfInBounds_toArray, List.set_cons_zero, List.set_cons_succ]
      have S9 : CellsAt W9 s 0 X9 := CX9.out.later L9.out bw
      refine ⟨S9, ?_⟩
      obtain ⟨a', c', wE, wF, hwE, hrun, bF, τ', PA', _⟩ := P9.out.push (W := W9) bw HB9.out ⟨pk9, .slice ua un uc, .slice ea en ec, (D.drop o).take zz⟩ σ hu hv (by have := HVN.out; have := HM.out.le; have := HDL.out; have := HDN.out; omega)
      have SE : CellsAt wE s 0 X9 := by rw [hwE]; exact S9.later (Nat.lt_of_lt_of_le L9.out bw.size) (later_alloc _ _)
      have SF : CellsAt wF s 0 X9 := S9.but (Nat.lt_of_lt_of_le L9.out bw.size) bF (fun e => by have := e.2.1; have := HSB.out; omega)
      have FB : Hid (CB (fun g => g < B ∧ g ≠ s) wF (.slice da dn dc) D ∧ CB (fun g => g < B ∧ g ≠ s) wF (.slice ga gn gc) OT ∧ Below w.heap.size w wF ∧ ∀ y, wF.frozen? ⟨s, y, none⟩ = false) := by
        have nF : ∀ g, g < B → ¬ (τ g = (1, 0) ∧ B ≤ g ∧ g < w3.drew.heap.size) := fun g hg e => by have := e.2.1; omega
        have BWB := later W3.out.2.2 (later (later_drew w3) bw)
        refine ⟨((W3.out.1.later (later (later_drew w3) bw)).but bF (fun g e => nF g e.1)), ((W3.out.2.1.later (later (later_drew w3) bw)).but bF (fun g e => nF g e.1)), BWB.trans (bF.below BWB.size (fun g hg e => by have := e.2.1; have := HSB.out; have := HBW.out; omega)), fun y => ?_⟩
        exact (bF.frozen (p := ⟨s, y, none⟩) (Nat.lt_of_lt_of_le L9.out bw.size) (nF s HSB.out)).trans ((bw.frozen (p := ⟨s, y, none⟩) L9.out).trans (F9.out y))
      rw [← HVN.out] at hrun PA'
      have HPA := hide PA'
      have RUN := hide hrun
      have HE := hide hwE
      have CXF := hide SF
      skip
      refine nextJ (w' := W9) 7 40 (.agg (pk9.cells (.slice ua un uc) ++ [Value.slice ea en ec]).toArray) (by kernel_rfl) rfl rfl (by rfl) (exec_bldPi _ _ pk9 ua un uc ea en ec rfl rfl rfl) (S9) ?_
      try simp only [Act.put, List.setIfInBounds_toArray, List.set_cons_zero, List.set_cons_succ]
      refine nextJ (w' := wE) 8 41 (.slice (some ⟨W9.heap.size, 0, none⟩) 1 1) (by kernel_rfl) rfl rfl (by rfl) (by rw [HE.out]; exact exec_bsPi _ pk9 ua un uc ea en ec rfl rfl) (SE) ?_
      try simp only [Act.put, List.setIfInBounds_toArray, List.set_cons_zero, List.set_cons_succ]
      refine nextJ (w' := wF) 9 42 (.slice a' (vn + 1) c') (by kernel_rfl) rfl rfl (by rfl) (exec_app _ _ 28 28 rfl (.slice va vn vc) (.slice (some ⟨W9.heap.size, 0, none⟩) 1 1) rfl rfl 28 rfl RUN.out) (SF) ?_
      try simp only [Act.put, List.setIfInBounds_toArray, List.set_cons_zero, List.set_cons_succ]
      refine nextJ (w' := wF) 10 7 (.slice a' (vn + 1) c') (by kernel_rfl) rfl rfl (by rfl) (exec_assign _ _ rfl rfl) (SF) ?_
      try simp only [Act.put, List.setIfInBounds_toArray, List.set_cons_zero, List.set_cons_succ]
      refine doneJ (by kernel_rfl) ?_ _
      have hbw := bw.size
      have hbF := bF.size
      clear S9 SE SF hu hv bw hwE hrun bF PA' TW
      have XE : X9 = Pk.cells { p with more := true, off := (o : Int), opts := os } (.slice ha hn hcc) := by rw [HX9.out, HPK.out]
      have k13F : wF.cell? ⟨s, 13, none⟩ = some (.bool true) := CXF.out 13 (.bool true) (by rw [XE]; rfl)
      have k14F : wF.cell? ⟨s, 14, none⟩ = some (.int .i64 (o : Int)) := CXF.out 14 (.int .i64 (o : Int)) (by rw [XE]; rfl)
      have k15F : wF.cell? ⟨s, 15, none⟩ = some (.slice ha hn hcc) := CXF.out 15 (.slice ha hn hcc) (by rw [XE]; rfl)
      obtain ⟨w4, hw4⟩ : ∃ w4, w4 = wF.setCell ⟨s, 14, none⟩ (.int .i64 ((o : Int) + (zz : Int))) := ⟨_, rfl⟩
      obtain ⟨w5, hw5⟩ : ∃ w5, w5 = w4.setCell ⟨s, 15, none⟩ (.slice ga gn gc) := ⟨_, rfl⟩
      have k154 : w4.cell? ⟨s, 15, none⟩ = some (.slice ha hn hcc) := by rw [hw4, setCell_out (by decide)]; exact k15F
      have g14F : wF.frozen? ⟨s, 14, none⟩ = false := FB.out.2.2.2 14
      have g154 : w4.frozen? ⟨s, 15, none⟩ = false := by rw [hw4, World.frozen?_setCell]; exact FB.out.2.2.2 15
      have M5 : Hid (CutM w s B p OT D m (.slice da dn dc) (.slice ga gn gc) (.slice a' (vn + 1) c') (o + zz) (vn + 1) w5) := by
        have b5 : But (Only s) wF w5 := by
          rw [hw5, hw4]
          exact ((But.refl (Only s) wF).cellb (b := s) rfl 14 _).cellb (b := s) rfl 15 _
        have ez : zz = (m - 20 - os.length) / 8 * 8 := by rw [HZZ.out, HR8.out, HRM.out, HHN.out]
        have eD : ln = D.length - o := by rw [HLN.out, HDN.out]
        have ed : D.length = dn := HDN.out.symm
        have hlt : m - 20 - os.length < D.length - o := by have h1 := HRM.out; have h2 := HHN.out; omega
        obtain ⟨f', rfl⟩ : ∃ f', f = f' + 1 := ⟨f - 1, by omega⟩
        have hle := HM.out.le
        have hz8 : 8 ≤ zz := by have h1 := HRM.out; have h2 := HHN.out; omega
        have hzl2 : zz ≤ ln := by have h1 := HRM.out; have h2 := HHN.out; omega
        refine ⟨FB.out.2.2.1.trans (b5.below FB.out.2.2.1.size (fun g hg e => by have e : g = s := e; have := HS.out; omega)), ⟨true, .slice ga gn gc, OT, ?_, ?_, OL.out, τ', L ++ [⟨pk9, .slice ua un uc, .slice ea en ec, (D.drop o).take zz⟩], f', ?_, ?_, ?_, ?_⟩, fun y => by rw [hw5, hw4, World.frozen?_setCell, World.frozen?_setCell]; exact FB.out.2.2.2 y, ?_, ?_, ⟨HSB.out, ?_⟩, by omega, by omega⟩
        · have h1 := (CXF.out.set 14 (.int .i64 ((o : Int) + (zz : Int)))).set 15 (.slice ga gn gc)
          rw [← hw4, ← hw5, XE] at h1
          rw [show ((o + zz : Nat) : Int) = (o : Int) + (zz : Int) by omega]
          exact h1
        · exact (FB.out.2.1.but b5 (fun g e e2 => e.2 e2))
        · exact HPA.out.but b5 (fun g _ hg _ e => by have e : g = s := e; have := HSB.out; omega)
        · rw [List.length_append, ← HVN.out]; rfl
        · rw [HEQ.out, cutF_more hlt, List.map_append, List.append_assoc]
          have e1 : Pi.ab ⟨pk9, .slice ua un uc, .slice ea en ec, (D.drop o).take zz⟩ = ({ p with more := true, off := (o : Int), opts := os }, (D.drop o).take ((m - 20 - os.length) / 8 * 8)) := by
            unfold Pi.ab
            rw [HPK.out, ez]
          rw [List.map_singleton, e1, ← ez]
          rfl
        · omega
        · exact FB.out.1.but b5 (fun g e e2 => e.2 e2)
        · exact FB.out.2.1.but b5 (fun g e e2 => e.2 e2)
        · have := HPA.out
          have h2 := b5.size
          exact Nat.le_trans (Nat.le_trans HB9.out (Nat.le_trans hbw hbF)) h2
      have ME : mu14 s D.length w5 < mu14 s D.length wk := by
        rw [M5.out.op, HM.out.op]
        have := M5.out.le
        have hz8 : 8 ≤ zz := by have h1 := HZZ.out; have h2 := HR8.out; omega
        omega
      have HME := hide ME
      have hw4' := hw4.symm
      have hw5' := hw5.symm
      have oz : (o : Int) ≤ 10000000 := by have := HDL.out; omega
      clear XE ME hw4 hw5 HX9 HPK FB CXF HPA
      go_wp2
      go_roundw
      case rel => exact ⟨a', vn + 1, c', o + zz, rfl, M5.out⟩
      case measure => exact HME.out
    · have q1 : ¬ (rm : Int) < (ln : Int) := by omega
      have hl7 : ln ≤ 10000000 := by have := HLN.out; have := HDL.out; omega
      obtain ⟨zz, hzz⟩ : ∃ zz, zz = ln := ⟨_, rfl⟩
      obtain ⟨w3, hw3⟩ : ∃ w3, w3 = wk.setCell ⟨s, 13, none⟩ (.bool false) := ⟨_, rfl⟩
      have b3 : But (Only s) wk w3 := by rw [hw3]; exact (But.refl (Only s) wk).cellb (b := s) rfl 13 _
      obtain ⟨pk9, hpk9⟩ : ∃ pk9 : Pk, pk9 = { p with more := false, off := (o : Int), opts := os } := ⟨_, rfl⟩
      obtain ⟨X9, hX9⟩ : ∃ X9, X9 = pk9.cells (.slice ha hn hcc) := ⟨_, rfl⟩
      have LX9 : Hid (X9.length = 16) := by rw [hX9]; exact rfl
      have CX9 : Hid (CellsAt w3.drew s 0 X9) := by
        have := HC.out.set 13 (.bool false)
        rw [← hw3] at this
        rw [hX9, hpk9]
        exact this
      have L9 : Hid (s < w3.drew.heap.size) := CX9.out.lt (by rw [LX9.out]; decide)
      have HSB : Hid (s < B) := HM.out.hB.1
      have HB9 : Hid (B ≤ w3.drew.heap.size) := Nat.le_trans HM.out.hB.2 b3.size
      have F9 : Hid (∀ y, w3.frozen? ⟨s, y, none⟩ = false) := fun y => by rw [hw3, World.frozen?_setCell]; exact HM.out.f y
      have nS : ∀ g, g < B ∧ g ≠ s → ¬ Only s g := fun g e e2 => e.2 e2
      have hzl : zz ≤ ln := by rw [hzz]; omega
      have EO : pk9.opts = os := by rw [hpk9]
      have TW := hide (two_calls (P := fun g => g < B ∧ g ≠ s) (Q := fun g => g < B ∧ g ≠ s) pk9 (.slice ha hn hcc) (.slice la zz lc) ((D.drop o).take zz) w3.drew s X9 hX9 L9.out CX9.out (by rw [EO]; exact (CHV.out.but b3 nS).later (later_drew w3)) (by rw [EO]; omega) ((Cn.take LV.out zz hzl |>.but b3 nS).later (later_drew w3)) (by rw [List.length_take]; omega))
      have P9 : Hid (PiAt τ B w3.drew (.slice va vn vc) L) := (HPA.out.but b3 (fun g _ hg _ e => by have e : g = s := e; have := HSB.out; omega)).later (later_drew w3)
      have W3 : Hid (CB (fun g => g < B ∧ g ≠ s) w3 (.slice da dn dc) D ∧ CB (fun g => g < B ∧ g ≠ s) w3 (.slice ga gn gc) OT ∧ Below w.heap.size w w3) := ⟨HM.out.hd.but b3 nS, HM.out.ho.but b3 nS, HM.out.b.trans (b3.below HM.out.b.size (fun g hg e => by have e : g = s := e; have := HS.out; omega))⟩
      have hw3' := hw3.symm
      have HPK := hide hpk9
      have HZZ := hide hzz
      have HX9 := hide hX9
      clear hw3 b3 hX9 nS hpk9 HC HPA CHV LV
      have qz : zz = ln := hzz
      clear hzz
      subst qz
      go_upto_region 9 with fail
      clear q1 k13 k14 k15 g13 hw3'

      refine regionJ (fun _ => true) (fun W => CellsAt W s 0 X9) (by kernel_rfl) ?_
      refine takeJ (i := 0) (v := .slice va vn vc) 33 rfl rfl (by kernel_rfl) (by kernel_rfl) (by kernel_rfl) (by kernel_rfl) (fun _ _ _ h => h) (.inl ⟨by rfl, fun W hW => exec_move _ _ rfl rfl⟩) (CX9.out) ?_
      try simp only [Act.put, List.setIfInBounds_toArray, List.set_cons_zero, List.set_cons_succ]
      refine takeJ (i := 1) (v := .agg X9.toArray) 34 rfl rfl (by kernel_rfl) (by kernel_rfl) (by kernel_rfl) (by kernel_rfl) (fun _ _ _ h => h) (.inl ⟨by rfl, fun W hW => exec_loadA 26 16 aggP sizP _ rfl s 0 rfl X9 LX9.out hW⟩) (CX9.out) ?_
      try simp only [Act.put, List.setIfInBounds_toArray, List.set_cons_zero, List.set_cons_succ]
      refine takeJ (i := 3) (v := .slice la zz lc) 36 rfl rfl (by kernel_rfl) (by kernel_rfl) (by kernel_rfl) (by kernel_rfl) (fun _ _ _ h => h) (.inl ⟨by rfl, fun W hW => exec_move _ _ rfl rfl⟩) (CX9.out) ?_
      try simp only [Act.put, List.setIfInBounds_toArray, List.set_cons_zero, List.set_cons_succ]
      refine takeJ (i := 4) (v := .int .i64 (zz : Int)) 37 rfl rfl (by kernel_rfl) (by kernel_rfl) (by kernel_rfl) (by kernel_rfl) (fun _ _ _ h => h) (.inl ⟨by rfl, fun W hW => exec_move _ _ rfl rfl⟩) (CX9.out) ?_
      try simp only [Act.put, List.setIfInBounds_toArray, List.set_cons_zero, List.set_cons_succ]
      refine takeJ (i := 5) (v := .slice la zz lc) 38 rfl rfl (by kernel_rfl) (by kernel_rfl) (by kernel_rfl) (by kernel_rfl) (fun _ _ _ h => h) (.inl ⟨by rfl, fun W hW => exec_slU _ _ la zz lc zz rfl rfl rfl (by omega)⟩) (CX9.out) ?_
      try simp only [Act.put, List.setIfInBounds_toArray, List.set_cons_zero, List.set_cons_succ]
      refine callJ 2 35 (by kernel_rfl) rfl rfl (by rfl) 31 #[.agg X9.toArray] (exec_callF _ _ _ _ rfl (map1 rfl) (enters_of Try.func31 (by kernel_rfl) rfl)) _ TW.out.1 ?_
      rintro u W8 ⟨S8, hc8⟩
      refine ⟨S8, ?_⟩
      simp only [Act.put, List.setIfInBounds_toArray, List.set_cons_zero, List.set_cons_succ]
      refine callJ 6 39 (by kernel_rfl) rfl rfl (by rfl) 32 #[.slice la zz lc] (exec_callF _ _ _ _ rfl (map1 rfl) (enters_of Try.func32 (by kernel_rfl) rfl)) _ hc8 ?_
      rintro v W9 ⟨ua, un, uc, ea, en, ec, σ, rfl, rfl, hu, hv, bw⟩
      clear S8 hc8
      simp only [Act.put, List.setIfInBounds_toArray, List.set_cons_zero, List.set_cons_succ]
      have S9 : CellsAt W9 s 0 X9 := CX9.out.later L9.out bw
      refine ⟨S9, ?_⟩
      obtain ⟨a', c', wE, wF, hwE, hrun, bF, τ', PA', _⟩ := P9.out.push (W := W9) bw HB9.out ⟨pk9, .slice ua un uc, .slice ea en ec, (D.drop o).take zz⟩ σ hu hv (by have := HVN.out; have := HM.out.le; have := HDL.out; have := HDN.out; omega)
      have SE : CellsAt wE s 0 X9 := by rw [hwE]; exact S9.later (Nat.lt_of_lt_of_le L9.out bw.size) (later_alloc _ _)
      have SF : CellsAt wF s 0 X9 := S9.but (Nat.lt_of_lt_of_le L9.out bw.size) bF (fun e => by have := e.2.1; have := HSB.out; omega)
      have FB : Hid (CB (fun g => g < B ∧ g ≠ s) wF (.slice da dn dc) D ∧ CB (fun g => g < B ∧ g ≠ s) wF (.slice ga gn gc) OT ∧ Below w.heap.size w wF ∧ ∀ y, wF.frozen? ⟨s, y, none⟩ = false) := by
        have nF : ∀ g, g < B → ¬ (τ g = (1, 0) ∧ B ≤ g ∧ g < w3.drew.heap.size) := fun g hg e => by have := e.2.1; omega
        have BWB := later W3.out.2.2 (later (later_drew w3) bw)
        refine ⟨((W3.out.1.later (later (later_drew w3) bw)).but bF (fun g e => nF g e.1)), ((W3.out.2.1.later (later (later_drew w3) bw)).but bF (fun g e => nF g e.1)), BWB.trans (bF.below BWB.size (fun g hg e => by have := e.2.1; have := HSB.out; have := HBW.out; omega)), fun y => ?_⟩
        exact (bF.frozen (p := ⟨s, y, none⟩) (Nat.lt_of_lt_of_le L9.out bw.size) (nF s HSB.out)).trans ((bw.frozen (p := ⟨s, y, none⟩) L9.out).trans (F9.out y))
      rw [← HVN.out] at hrun PA'
      have HPA := hide PA'
      have RUN := hide hrun
      have HE := hide hwE
      have CXF := hide SF
      skip
      refine nextJ (w' := W9) 7 40 (.agg (pk9.cells (.slice ua un uc) ++ [Value.slice ea en ec]).toArray) (by kernel_rfl) rfl rfl (by rfl) (exec_bldPi _ _ pk9 ua un uc ea en ec rfl rfl rfl) (S9) ?_
      try simp only [Act.put, List.setIfInBounds_toArray, List.set_cons_zero, List.set_cons_succ]
      refine nextJ (w' := wE) 8 41 (.slice (some ⟨W9.heap.size, 0, none⟩) 1 1) (by kernel_rfl) rfl rfl (by rfl) (by rw [HE.out]; exact exec_bsPi _ pk9 ua un uc ea en ec rfl rfl) (SE) ?_
      try simp only [Act.put, List.setIfInBounds_toArray, List.set_cons_zero, List.set_cons_succ]
      refine nextJ (w' := wF) 9 42 (.slice a' (vn + 1) c') (by kernel_rfl) rfl rfl (by rfl) (exec_app _ _ 28 28 rfl (.slice va vn vc) (.slice (some ⟨W9.heap.size, 0, none⟩) 1 1) rfl rfl 28 rfl RUN.out) (SF) ?_
      try simp only [Act.put, List.setIfInBounds_toArray, List.set_cons_zero, List.set_cons_succ]
      refine nextJ (w' := wF) 10 7 (.slice a' (vn + 1) c') (by kernel_rfl) rfl rfl (by rfl) (exec_assign _ _ rfl rfl) (SF) ?_
      try simp only [Act.put, List.setIfInBounds_toArray, List.set_cons_zero, List.set_cons_succ]
      refine doneJ (by kernel_rfl) ?_ _
      have hbw := bw.size
      have hbF := bF.size
      clear S9 SE SF hu hv bw hwE hrun bF PA' TW
      have XE : X9 = Pk.cells { p with more := false, off := (o : Int), opts := os } (.slice ha hn hcc) := by rw [HX9.out, HPK.out]
      have k13F : wF.cell? ⟨s, 13, none⟩ = some (.bool false) := CXF.out 13 (.bool false) (by rw [XE]; rfl)
      have FIN : Hid (∃ (τ : Nat → Nat × Nat) (L : List Pi), PiAt τ w.heap.size wF (.slice a' (vn + 1) c') L ∧ L.map Pi.ab = cutS p D m ∧ Below w.heap.size w wF) := by
        have eD : zz = D.length - o := by rw [HLN.out, HDN.out]
        have hlt : ¬ m - 20 - os.length < D.length - o := by have h1 := HRM.out; have h2 := HHN.out; omega
        refine ⟨τ', L ++ [⟨pk9, .slice ua un uc, .slice ea en ec, (D.drop o).take zz⟩], ⟨HPA.out.row.own (fun g _ e => ⟨e.1, by have := e.2; have := HBW.out; omega⟩), fun i x hx => (HPA.out.hv i x hx).own (fun g _ e => ⟨e.1, by have := e.2; have := HBW.out; omega⟩), fun i x hx => (HPA.out.dv i x hx).own (fun g _ e => ⟨e.1, by have := e.2; have := HBW.out; omega⟩)⟩, ?_, FB.out.2.2.1⟩
        rw [HEQ.out, cutF_last hlt, List.map_append]
        have e1 : Pi.ab ⟨pk9, .slice ua un uc, .slice ea en ec, (D.drop o).take zz⟩ = ({ p with more := false, off := (o : Int), opts := os }, D.drop o) := by
          unfold Pi.ab
          rw [HPK.out, List.take_of_length_le (by rw [List.length_drop]; omega)]
        rw [List.map_singleton, e1]
      clear XE HX9 HPK FB CXF HPA
      go_wp2
      go_ret
      exact ⟨_, rfl, FIN.out⟩
end Go.Proofs.Ytgempelfamjabaa
