
/-
  UdpLines: the walk.
-/
import Derived.Test.YthjeaebpboilpaaU25
namespace Go.Proofs.Ythjeaebpboilpaa
open Go.RowKit Go.Shelf

theorem bfs_split (T : List Dg) (k : Nat) : bfs T = bfs (T.take k) ++ bfs (T.drop k) := by
  unfold bfs
  rw [← List.flatMap_append, List.take_append_drop]
theorem exec_ixJ {o : Oper} {w : World} {ev : Operand → Value} (x y : Operand) (g off n c k : Nat) (ho : o.op = .indexAddr 55 x y) (hx : ev x = .slice (some ⟨g, off, none⟩) n c) (hy : ev y = .int .i64 (k : Int)) (hl : k < n) : (execOp ev o).run Try.prog w = .ok (.value (.pointer (some ⟨g, off + k, none⟩))) w := by
  have hki : (k : Int) < n := by omega
  unfold execOp
  simp [ho, hx, hy, go_sem, hki]
theorem exec_ixDg {o : Oper} {w : World} {ev : Operand → Value} (x y : Operand) (g n c k : Nat) (ho : o.op = .indexAddr 51 x y) (hx : ev x = .slice (some ⟨g, 0, none⟩) n c) (hy : ev y = .int .i64 (k : Int)) (hl : k < n) : (execOp ev o).run Try.prog w = .ok (.value (.pointer (some ⟨g, k * 7, none⟩))) w := by
  have hki : (k : Int) < n := by omega
  unfold execOp
  simp [ho, hx, hy, go_sem, hki]
theorem exec_incU {o : Oper} {w : World} {ev : Operand → Value} (x : Operand) (z : Int) (ho : o.op = .binOp .add 5 x (.const (.int .u8 1)) 5) (hx : ev x = .int .u8 z) (hc : ev (.const (.int .u8 1)) = .int .u8 1) : (execOp ev o).run Try.prog w = .ok (.value (.int .u8 (IntKind.u8.wrap (z + 1)))) w := by
  unfold execOp
  simp [ho, hx, hc, go_sem]
set_option maxRecDepth 100000 in
set_option maxHeartbeats 16000000 in
theorem uLines_walk (lv : Value) (l : List Dg) (pv : Value) (q : List Bool) (w : World) (hl : IsDs w.heap.size w lv l) (ll : l.length ≤ 1048576) (hq : IsLs w.heap.size w pv q) (lq : q.length ≤ 1048576) :
    Calls Try.prog 6 #[lv, pv] w fun e w' => e = .returned (.bool true) ∧ Below w.heap.size w w' := by
  obtain ⟨la, lc, rfl, hlc, hok⟩ := hl
  obtain ⟨pa, pc, rfl, hpc⟩ := hq
  obtain ⟨n, hn⟩ : ∃ n, n = l.length := ⟨_, rfl⟩
  obtain ⟨m, hm⟩ : ∃ m, m = q.length := ⟨_, rfl⟩
  rw [← hn] at hlc ll ⊢
  rw [← hm] at hpc lq ⊢
  have HLC := hide hlc
  have HOK := hide hok
  have HPC := hide hpc
  have HN := hide hn
  have HM := hide hm
  have zn : (n : Int) ≤ 1048576 := by omega
  have zm : (m : Int) ≤ 1048576 := by omega
  clear hlc hok hpc hn hm
  go_enter Try.func6, Try.ntmps6
  go_wp2_with fail
  refine (uAwake_any w).mono ?_
  rintro _ w2 ⟨rfl, b2⟩
  have HB2 := hide b2
  clear b2
  have NB := hide (uLine_any w2)
  obtain ⟨b, hb⟩ : ∃ b, b = w2.heap.size := ⟨_, rfl⟩
  rw [← hb] at NB
  have KLO : Hid (w.heap.size ≤ b) := by rw [hb]; exact HB2.out.size
  go_wp2_with fail
  refine NB.out.mono ?_
  rintro _ w3 ⟨rfl, c3, f3, b3'⟩
  have b3 : Below w2.heap.size w2 w3 := by rw [← hb]; exact b3'
  have M3 : Hid (UlX w b [] [] (.slice none 0 0) w3) :=
    ⟨fun _ => False, fun _ => False, fun _ => False, ⟨⟨_, c3, RowF.nil _ _ _ _⟩, f3, (fun _ h => by cases h), (fun g e => (e.elim id id : False).elim), (fun _ e => False.elim e), (by decide)⟩, RowF.nil _ _ _ _, (fun _ e => False.elim e), later HB2.out b3, KLO.out⟩
  clear c3 f3 b3 b3' NB HB2 hb
  go_wp2
  go_loopw [7, 8, 9, 10] (fun v7 v8 v9 v10 wr => ∃ (i f t : Nat) (ia : Option Addr) (ic : Nat) (M I : List Dg), v7 = .int .i64 (f : Int) ∧ v8 = .int .i64 (t : Int) ∧ v9 = .slice ia t ic ∧ v10 = .int .i64 (i : Int) ∧ i ≤ n ∧ t ≤ i ∧ f ≤ t ∧ Hid (t = I.length ∧ t = f + M.length ∧ M.length ≤ 4 ∧ M.map cor = (I.drop f).map cor ∧ (∀ d ∈ I, d ∈ l)) ∧ Hid (UlX w b M I (.slice ia t ic) wr)) (fun _ _ _ v10 _ => n - (intOf v10).toNat)
  case atStart => exact ⟨0, 0, 0, none, 0, [], [], rfl, rfl, rfl, rfl, Nat.zero_le _, Nat.le_refl _, Nat.le_refl _, ⟨rfl, rfl, (by decide), rfl, (fun _ h => by cases h)⟩, M3.out⟩
  case round =>
    obtain ⟨i, f, t, ia, ic, M, I, rfl, rfl, rfl, rfl, hi, hti, hft, NI, MI⟩ := hrel
    obtain ⟨wp, hwp⟩ : ∃ wp, wp = wr := ⟨_, rfl⟩
    rw [← hwp] at MI ⊢
    clear hwp M3
    by_cases hlt : i < n
    case neg =>
      have iz : ¬ (i : Int) < (n : Int) := by omega
      have BEL : Hid (Below w.heap.size w wp) := by obtain ⟨_, _, _, h⟩ := MI.out; exact h.bel
      clear MI NI
      go_wp2
      go_ret
      exact ⟨rfl, BEL.out⟩
    obtain ⟨lg, off, rfl, hg, hcs⟩ := HLC.out (by omega)
    obtain ⟨x, hx⟩ : ∃ x, l[i]? = some x := ⟨_, List.getElem?_eq_getElem (by rw [← HN.out]; exact hlt)⟩
    have xok := HOK.out x (List.mem_of_getElem? hx)
    have HXL := hide (List.mem_of_getElem? hx)
    obtain ⟨LR, LC, IR, mi⟩ := MI.out
    have XO : Hid (∀ W, Below wp.heap.size wp W → CellsAt W lg (off + i * 7) x.cells) := fun W hW => (hcs i _ hx).later hg (later mi.bel hW)
    have XW : Hid (∀ W, Below w.heap.size w W → CellsAt W lg (off + i * 7) x.cells) := fun W hW => (hcs i _ hx).later hg hW
    obtain ⟨s, y3, y4, y5, y6, y7, y8, a5, a6, c5, c6, CP⟩ := copy_of wp x (xok.later mi.bel)
    obtain ⟨da, dc, edv⟩ := xok.d.shape
    obtain ⟨ba, bc, ebv⟩ := xok.b.shape
    obtain ⟨X, hX⟩ : ∃ X, X = x.cells := ⟨_, rfl⟩
    obtain ⟨dn, hdn⟩ : ∃ dn, dn = x.D.length := ⟨_, rfl⟩
    obtain ⟨bn, hbn⟩ : ∃ bn, bn = x.B.length := ⟨_, rfl⟩
    have zd : (dn : Int) ≤ 10000000 := by have := xok.ld; omega
    have zb : (bn : Int) ≤ 10000000 := by have := xok.lb; omega
    have LX : Hid (X.length = 7) := by rw [hX]; exact rfl
    have OX : Hid (∀ u ∈ X, u.oneCell' = true) := by rw [hX]; exact xok.one
    have HX := hide hX
    have HDN := hide hdn
    have HBN := hide hbn
    have XP : Hid (CellsAt wp lg (off + i * 7) X) := by rw [hX]; exact XO.out _ (Below.refl _ _)
    have x5 : y4.cell? ⟨lg, off + i * 7 + 5, none⟩ = some (.slice da dn dc) := by rw [hdn, ← edv]; exact XO.out _ CP.b4 5 _ rfl
    have x6 : y6.cell? ⟨lg, off + i * 7 + 6, none⟩ = some (.slice ba bn bc) := by rw [hbn, ← ebv]; exact XO.out _ CP.b6 6 _ rfl
    have R5 : Hid ((Builtin.append_ #[24, 24] 24 #[.slice none 0 0, .slice da dn dc]).run Try.prog y4 = .ok (.slice a5 dn c5) y5) := by
      have := CP.r5
      rw [edv, ← hdn] at this
      exact this
    have R7 : Hid ((Builtin.append_ #[55, 55] 55 #[.slice none 0 0, .slice ba bn bc]).run Try.prog y6 = .ok (.slice a6 bn c6) y7) := by
      have := CP.r7
      rw [ebv, ← hbn] at this
      exact this
    have k5 : y5.cell? ⟨s, 5, none⟩ = some x.dv := CP.k5.1
    have g5 := CP.k5.2
    have k7 : y7.cell? ⟨s, 6, none⟩ = some x.bv := CP.k7.1
    have g7 := CP.k7.2
    have e8' : y7.setCell ⟨s, 6, none⟩ (.slice a6 bn c6) = y8 := by rw [hbn]; exact CP.e8.symm
    have e6' : y5.setCell ⟨s, 5, none⟩ (.slice a5 dn c5) = y6 := by rw [hdn]; exact CP.e6.symm
    have e3' := CP.e3.symm
    have e4' : y3.setCells s 0 X = y4 := by rw [hX]; exact CP.e4.symm
    have s1' := CP.s1.symm
    have K3 := hide CP.k3
    have iz : (i : Int) < (n : Int) := by omega
    have HCP := hide CP
    have HMI := hide mi
    clear CP hX hdn hbn hcs hx xok mi MI edv ebv
    go_upto_region 11 with fail
    go_upto_region 12 with (first | refine wpList_loadA rfl 57 7 aggDg sizDg _ rfl lg (off + i * 7) rfl X LX.out XP.out ?_ | (refine wpList_storeA rfl 57 7 sizDg _ _ rfl s 0 rfl X zD.cells rfl LX.out rfl K3.out.1 K3.out.2 OX.out ?_; intro _; rw [e4']))
    clear e3' e4' s1' K3 XP
    go_upto_region 13 with (at_builtin; refine wpList_appK rfl 24 _ _ rfl rfl _ _ rfl rfl R5.out ?_)
    clear x5 R5 k5 g5 e6'
    go_upto_region 14 with (at_builtin; refine wpList_appK rfl 55 _ _ rfl rfl _ _ rfl rfl R7.out ?_)
    clear x6 R7 k7 g7 e8'
    obtain ⟨d', hd'⟩ : ∃ d' : Dg, d' = ⟨x.src, x.port, .slice a5 dn c5, .slice a6 bn c6, x.D, x.B⟩ := ⟨_, rfl⟩
    have ED : Hid (d' = ⟨x.src, x.port, .slice a5 x.D.length c5, .slice a6 x.B.length c6, x.D, x.B⟩) := by rw [hd', HDN.out, HBN.out]; exact rfl
    obtain ⟨V, hV⟩ : ∃ V, V = d'.cells := ⟨_, rfl⟩
    have LV : Hid (V.length = 7) := by rw [hV]; exact rfl
    have C8 : Hid (CellsAt y8 s 0 V) := by rw [hV, ED.out]; exact HCP.out.c8
    have PU := hide (uPushX (HMI.out.p.later HCP.out.b8) d' (by rw [ED.out]; exact HCP.out.ok))
    have kc5 : Hid (y8.cell? ⟨s, 5, none⟩ = some (.slice a5 dn c5)) := by have := C8.out 5 (.slice a5 dn c5) (by rw [hV, hd']; rfl); exact this
    have kc6 : Hid (y8.cell? ⟨s, 6, none⟩ = some (.slice a6 bn c6)) := by have := C8.out 6 (.slice a6 bn c6) (by rw [hV, hd']; rfl); exact this
    have CD : Hid (cor d' = cor x) := by rw [ED.out]; exact rfl
    rw [← hV] at PU
    clear hV hd'
    go_wp2_with (refine wpList_loadA rfl 57 7 aggDg sizDg _ rfl s 0 rfl V LV.out C8.out ?_)
    refine PU.out.mono ?_
    rintro _ w9 ⟨E, M', LR', LC', rfl, hE, L9, b9, hr9, hc9⟩
    have HE := hide hE
    have sw := HCP.out.s1
    have l8 := HCP.out.l8
    have ltm := HMI.out.lt
    have ns : ¬ (s = b ∨ LR s) := fun e => by
      have := ltm s (by rcases e with e | e; exact .inl e; exact .inr (.inl e))
      omega
    have ls8 : s < y8.heap.size := by omega
    have q5 : Hid (w9.cell? ⟨s, 5, none⟩ = some (.slice a5 dn c5)) := (b9.cell (p := ⟨s, 5, none⟩) ls8 ns).trans kc5.out
    have q6 : Hid (w9.cell? ⟨s, 6, none⟩ = some (.slice a6 bn c6)) := (b9.cell (p := ⟨s, 6, none⟩) ls8 ns).trans kc6.out
    have z89 := b9.size
    have zp8 := HCP.out.b8.size
    have Z5 : Hid (Scr (Value.int .u8) (fun g => s < g ∧ g < y6.heap.size) w9 a5 dn) := by
      have h := HCP.out.z5.but b9 (fun g e e2 => by have := ltm g (by rcases e2 with e2 | e2; exact .inl e2; exact .inr (.inl e2)); omega)
      rw [← HDN.out] at h
      exact h
    have Z6 : Hid (Scr (Value.int .i64) (fun g => y6.heap.size ≤ g ∧ g < y8.heap.size) w9 a6 bn) := by
      have h := HCP.out.z6.but b9 (fun g e e2 => by have := ltm g (by rcases e2 with e2 | e2; exact .inl e2; exact .inr (.inl e2)); omega)
      rw [← HBN.out] at h
      exact h
    have OUT : Hid (∀ g, g = b ∨ LR' g ∨ LC' g ∨ IR g → ¬ (s < g ∧ g < y8.heap.size)) := fun g e k => by
      rcases e with e | e | e | e
      · have := ltm g (.inl e); omega
      · rcases hr9 g e with e | e
        · have := ltm g (.inr (.inl e)); omega
        · omega
      · rcases hc9 g e with e | e
        · have := ltm g (.inr (.inr (.inl e))); omega
        · omega
      · have := ltm g (.inr (.inr (.inr e))); omega
    have M9 : Hid (UlM w b LR' LC' IR M' I (.slice ia t ic) w9) := by
      have m8 := HMI.out.later HCP.out.b8
      refine ⟨L9, m8.r.but b9 (fun g e e2 => ?_), fun g e => ⟨(m8.ir g e).1, by have := (m8.ir g e).2.1; omega, fun e2 => ?_⟩, m8.bel.trans (b9.below m8.bel.size (fun g hg e => ?_)), m8.lo⟩
      · rcases e2 with e2 | e2
        · have := (m8.ir g e).1; omega
        · exact (m8.ir g e).2.2 (.inl e2)
      · rcases e2 with e2 | e2
        · rcases hr9 g e2 with e3 | e3
          · exact (m8.ir g e).2.2 (.inl e3)
          · have := (m8.ir g e).2.1; omega
        · rcases hc9 g e2 with e3 | e3
          · exact (m8.ir g e).2.2 (.inr e3)
          · have := (m8.ir g e).2.1; omega
      · have := m8.lo
        rcases e with e | e
        · omega
        · have := (m8.p.nb g (.inl e)).1; omega
    have SL : Hid (s < w9.heap.size ∧ s < y6.heap.size ∧ y6.heap.size ≤ y8.heap.size ∧ w.heap.size ≤ s) := ⟨by omega, l8.1, l8.2, by have := HMI.out.bel.size; omega⟩
    clear hE L9 b9 hr9 hc9 sw l8 ltm ns ls8 z89 zp8 PU C8 kc5 kc6 LV HCP HMI
    go_wp2
    go_loopw [13] (fun v13 wr => ∃ (k : Nat), v13 = .int .i64 (k : Int) ∧ k ≤ dn ∧ Hid (Scr (Value.int .u8) (fun g => s < g ∧ g < y6.heap.size) wr a5 dn) ∧ Hid (But (fun g => s < g ∧ g < y6.heap.size) w9 wr)) (fun v13 _ => dn - (intOf v13).toNat)
    case atStart => exact ⟨0, rfl, Nat.zero_le _, Z5.out, But.refl _ _⟩
    case round =>
      obtain ⟨k, rfl, hk, SI, BI⟩ := hrel
      obtain ⟨wk, hwk⟩ : ∃ wk, wk = wr := ⟨_, rfl⟩
      rw [← hwk] at SI BI ⊢
      clear hwk Z5
      have k5 : wk.cell? ⟨s, 5, none⟩ = some (.slice a5 dn c5) := (BI.out.cell (p := ⟨s, 5, none⟩) SL.out.1 (fun e => Nat.lt_irrefl _ e.1)).trans q5.out
      by_cases hkl : k < dn
      · obtain ⟨gg, of, rfl, hO, hgl, hcs, hfs⟩ := SI.out (by omega)
        obtain ⟨z, cz⟩ := hcs k hkl
        have fz := hfs (of + k)
        have kz : (k : Int) < (dn : Int) := by omega
        clear hcs hfs
        obtain ⟨wn, hwn⟩ : ∃ wn, wn = wk.drew.setCell ⟨gg, of + k, none⟩ (.int .u8 (IntKind.u8.wrap (z + 1))) := ⟨_, rfl⟩
        have SN : Hid (Scr (Value.int .u8) (fun g => s < g ∧ g < y6.heap.size) wn (some ⟨gg, of, none⟩) dn) := by
          rw [hwn]
          exact (SI.out.but (K := fun _ => False) (But.of_below (later_drew wk)) (fun _ _ => id)).put hkl _
        have BN : Hid (But (fun g => s < g ∧ g < y6.heap.size) w9 wn) := by
          rw [hwn]
          exact (BI.out.trans (But.of_below (later_drew wk))).setCell (p := ⟨gg, of + k, none⟩) (.inr hO) _
        go_upto_region 18 with fail
        refine regionJ (fun i => i != 10) (fun W => W.cell? ⟨s, 5, none⟩ = some (.slice (some ⟨gg, of, none⟩) dn c5) ∧ W.cell? ⟨gg, of + k, none⟩ = some (.int .u8 z)) (by kernel_rfl) ?_
        refine takeJ (i := 0) (v := .pointer (some ⟨s, 5, none⟩)) 64 rfl rfl (by kernel_rfl) (by kernel_rfl) (by kernel_rfl) (by kernel_rfl) (fun _ _ _ h => h) (.inl ⟨by rfl, fun W hW => exec_fieldO 57 _ 2 s 0 5 rfl rfl (fun w => by kernel_rfl)⟩) (⟨k5, cz⟩) ?_
        try simp only [Act.put, List.setIfInBounds_toArray, List.set_cons_zero, List.set_cons_succ]
        refine takeJ (i := 1) (v := .slice (some ⟨gg, of, none⟩) dn c5) 65 rfl rfl (by kernel_rfl) (by kernel_rfl) (by kernel_rfl) (by kernel_rfl) (fun _ _ _ h => h) (.inl ⟨by rfl, fun W hW => exec_load1 24 oneS _ rfl s 5 rfl (.slice (some ⟨gg, of, none⟩) dn c5) (hW.1)⟩) (⟨k5, cz⟩) ?_
        try simp only [Act.put, List.setIfInBounds_toArray, List.set_cons_zero, List.set_cons_succ]
        refine takeJ (i := 2) (v := .int .i64 (k : Int)) 66 rfl rfl (by kernel_rfl) (by kernel_rfl) (by kernel_rfl) (by kernel_rfl) (fun _ _ _ h => h) (.inl ⟨by rfl, fun W hW => exec_move _ _ rfl rfl⟩) (⟨k5, cz⟩) ?_
        try simp only [Act.put, List.setIfInBounds_toArray, List.set_cons_zero, List.set_cons_succ]
        refine takeJ (i := 3) (v := .pointer (some ⟨s, 5, none⟩)) 67 rfl rfl (by kernel_rfl) (by kernel_rfl) (by kernel_rfl) (by kernel_rfl) (fun _ _ _ h => h) (.inl ⟨by rfl, fun W hW => exec_fieldO 57 _ 2 s 0 5 rfl rfl (fun w => by kernel_rfl)⟩) (⟨k5, cz⟩) ?_
        try simp only [Act.put, List.setIfInBounds_toArray, List.set_cons_zero, List.set_cons_succ]
        refine takeJ (i := 4) (v := .slice (some ⟨gg, of, none⟩) dn c5) 68 rfl rfl (by kernel_rfl) (by kernel_rfl) (by kernel_rfl) (by kernel_rfl) (fun _ _ _ h => h) (.inl ⟨by rfl, fun W hW => exec_load1 24 oneS _ rfl s 5 rfl (.slice (some ⟨gg, of, none⟩) dn c5) (hW.1)⟩) (⟨k5, cz⟩) ?_
        try simp only [Act.put, List.setIfInBounds_toArray, List.set_cons_zero, List.set_cons_succ]
        refine takeJ (i := 5) (v := .int .i64 (k : Int)) 69 rfl rfl (by kernel_rfl) (by kernel_rfl) (by kernel_rfl) (by kernel_rfl) (fun _ _ _ h => h) (.inl ⟨by rfl, fun W hW => exec_move _ _ rfl rfl⟩) (⟨k5, cz⟩) ?_
        try simp only [Act.put, List.setIfInBounds_toArray, List.set_cons_zero, List.set_cons_succ]
        refine takeJ (i := 6) (v := .pointer (some ⟨gg, of + k, none⟩)) 70 rfl rfl (by kernel_rfl) (by kernel_rfl) (by kernel_rfl) (by kernel_rfl) (fun _ _ _ h => h) (.inl ⟨by rfl, fun W hW => exec_ixU _ _ gg of dn c5 k rfl rfl rfl hkl⟩) (⟨k5, cz⟩) ?_
        try simp only [Act.put, List.setIfInBounds_toArray, List.set_cons_zero, List.set_cons_succ]
        refine takeJ (i := 7) (v := .int .u8 z) 71 rfl rfl (by kernel_rfl) (by kernel_rfl) (by kernel_rfl) (by kernel_rfl) (fun _ _ _ h => h) (.inl ⟨by rfl, fun W hW => exec_load1 5 oneU _ rfl gg (of + k) rfl (.int .u8 z) (hW.2)⟩) (⟨k5, cz⟩) ?_
        try simp only [Act.put, List.setIfInBounds_toArray, List.set_cons_zero, List.set_cons_succ]
        refine takeJ (i := 8) (v := .int .u8 (IntKind.u8.wrap (z + 1))) 72 rfl rfl (by kernel_rfl) (by kernel_rfl) (by kernel_rfl) (by kernel_rfl) (fun _ _ _ h => h) (.inl ⟨by rfl, fun W hW => exec_incU _ z rfl rfl rfl⟩) (⟨k5, cz⟩) ?_
        try simp only [Act.put, List.setIfInBounds_toArray, List.set_cons_zero, List.set_cons_succ]
        refine takeJ (i := 9) (v := .pointer (some ⟨gg, of + k, none⟩)) 73 rfl rfl (by kernel_rfl) (by kernel_rfl) (by kernel_rfl) (by kernel_rfl) (fun _ _ _ h => h) (.inl ⟨by rfl, fun W hW => exec_ixU _ _ gg of dn c5 k rfl rfl rfl hkl⟩) (⟨k5, cz⟩) ?_
        try simp only [Act.put, List.setIfInBounds_toArray, List.set_cons_zero, List.set_cons_succ]
        refine storeJ (w' := wn) 10 (by kernel_rfl) rfl rfl (by rfl) (by rw [hwn]; exact exec_store1 5 (fun w => by kernel_rfl) _ _ rfl gg (of + k) rfl _ _ rfl cz fz rfl) ((fun e => by simp at e)) ?_
        try simp only [Act.put, List.setIfInBounds_toArray, List.set_cons_zero, List.set_cons_succ]
        refine doneJ (by kernel_rfl) ?_ _
        clear cz fz k5 hwn SI BI
        go_wp2
        go_roundw
        case rel => exact ⟨k + 1, by go_num, by omega, SN.out, BN.out⟩
        case measure => simp [intOf]; omega
      · have kz : ¬ (k : Int) < (dn : Int) := by omega
        have Z6k : Hid (Scr (Value.int .i64) (fun g => y6.heap.size ≤ g ∧ g < y8.heap.size) wk a6 bn) := Z6.out.but BI.out (fun g e e2 => by have := e.1; have := e2.2; omega)
        have q6k : Hid (wk.cell? ⟨s, 6, none⟩ = some (.slice a6 bn c6)) := (BI.out.cell (p := ⟨s, 6, none⟩) SL.out.1 (fun e => Nat.lt_irrefl _ e.1)).trans q6.out
        clear SI q5 Z6 q6
        go_wp2
        go_loopw [14] (fun v14 wr => ∃ (j : Nat), v14 = .int .i64 (j : Int) ∧ j ≤ bn ∧ Hid (Scr (Value.int .i64) (fun g => y6.heap.size ≤ g ∧ g < y8.heap.size) wr a6 bn) ∧ Hid (But (fun g => y6.heap.size ≤ g ∧ g < y8.heap.size) wk wr)) (fun v14 _ => bn - (intOf v14).toNat)
        case atStart => exact ⟨0, rfl, Nat.zero_le _, Z6k.out, But.refl _ _⟩
        case round =>
          obtain ⟨j, rfl, hj, SJ, BJ⟩ := hrel
          obtain ⟨wj, hwj⟩ : ∃ wj, wj = wr := ⟨_, rfl⟩
          rw [← hwj] at SJ BJ ⊢
          clear hwj Z6k k5
          have sk : s < wk.heap.size := Nat.lt_of_lt_of_le SL.out.1 BI.out.size
          have k6 : wj.cell? ⟨s, 6, none⟩ = some (.slice a6 bn c6) := (BJ.out.cell (p := ⟨s, 6, none⟩) sk (fun e => Nat.lt_irrefl _ (Nat.lt_of_lt_of_le SL.out.2.1 e.1))).trans q6k.out
          by_cases hjl : j < bn
          · obtain ⟨gg, of, rfl, hO, hgl, hcs, hfs⟩ := SJ.out (by omega)
            obtain ⟨z, cz⟩ := hcs j hjl
            have fz := hfs (of + j)
            have jz : (j : Int) < (bn : Int) := by omega
            have SN : Hid (Scr (Value.int .i64) (fun g => y6.heap.size ≤ g ∧ g < y8.heap.size) (wj.setCell ⟨gg, of + j, none⟩ (.int .i64 (-1))) (some ⟨gg, of, none⟩) bn) := SJ.out.put hjl (-1)
            have BN : Hid (But (fun g => y6.heap.size ≤ g ∧ g < y8.heap.size) wk (wj.setCell ⟨gg, of + j, none⟩ (.int .i64 (-1)))) := BJ.out.setCell (p := ⟨gg, of + j, none⟩) (.inr hO) _
            clear hcs hfs SJ BJ
            go_wp2
            go_roundw
            case rel => exact ⟨j + 1, by go_num, by omega, SN.out, BN.out⟩
            case measure => simp [intOf]; omega
          · have jz : ¬ (j : Int) < (bn : Int) := by omega
            have MJ : Hid (UlX w b M' I (.slice ia t ic) wj) := ⟨LR', LC', IR, (M9.out.but BI.out (fun g e e2 => OUT.out g e ⟨e2.1, Nat.lt_of_lt_of_le e2.2 SL.out.2.2.1⟩) (fun g hg e => by have := e.1; have := SL.out.2.2.2; omega)).but BJ.out (fun g e e2 => OUT.out g e ⟨Nat.lt_of_lt_of_le SL.out.2.1 e2.1, e2.2⟩) (fun g hg e => by have := e.1; have := SL.out.2.2; have := SL.out.2.1; omega)⟩
            clear SJ BJ BI q6k M9 OUT SL sk
            have ZM : Hid (M.length ≤ 4 ∧ (t : Int) - (f : Int) = (M.length : Int)) := ⟨NI.out.2.2.1, by have := NI.out.2.1; omega⟩
            go_upto_region 23 with fail
            clear k6
            go_cut [99] from 85 to 98 (fun v99 wx => v99 = .bool false ∧ wj = wx)
            case first =>
              rcases HE.out with h | h
              · obtain ⟨rfl, h4, _⟩ := h
                have q1 : (t : Int) - (f : Int) < 4 := by have := ZM.out; omega
                clear HE h4
                go_wp2
                go_meet
                exact ⟨rfl, rfl⟩
              · obtain ⟨rfl, h4, _⟩ := h
                have q1 : ¬ (t : Int) - (f : Int) < 4 := by have := ZM.out; omega
                clear HE h4
                go_wp2
                go_meet
                exact ⟨rfl, rfl⟩
            case rest =>
              obtain ⟨rfl, hw⟩ := hcut
              subst hw
              clear ZM
              go_upto_if 101 with fail
              go_cut [8, 9] from 102 to 110 (fun v8 v9 wx => ∃ (t' : Nat) (ja : Option Addr) (jc : Nat) (J : List Dg), v8 = .int .i64 (t' : Int) ∧ v9 = .slice ja t' jc ∧ t' ≤ i + 1 ∧ f ≤ t' ∧ Hid (t' = J.length ∧ t' = f + M'.length ∧ M'.length ≤ 4 ∧ 0 < M'.length ∧ M'.map cor = (J.drop f).map cor ∧ (∀ d ∈ J, d ∈ l)) ∧ Hid (UlX w b M' J (.slice ja t' jc) wx))
              case first =>
                obtain ⟨n1, n2, n3, n4, n5⟩ := NI.out
                rcases HE.out with h | h
                · obtain ⟨rfl, h4, d2, e2, e3⟩ := h
                  obtain ⟨ka, kc, W2, run2, U2⟩ := UlX.push MJ.out n1 x (HOK.out x HXL.out).one (fun d hd => (HOK.out d (n5 d hd)).one) (by omega)
                  rw [← HX.out] at run2
                  have RUN := hide run2
                  have U2H := hide U2
                  have XJ : Hid (CellsAt wj lg (off + i * 7) X) := by rw [HX.out]; obtain ⟨_, _, _, h⟩ := MJ.out; exact XW.out _ h.bel
                  have N2 : Hid (t + 1 = (I ++ [x]).length ∧ t + 1 = f + M'.length ∧ M'.length ≤ 4 ∧ 0 < M'.length ∧ M'.map cor = ((I ++ [x]).drop f).map cor ∧ (∀ d ∈ I ++ [x], d ∈ l)) := by
                    rw [e3]
                    refine ⟨by simp [n1], by simp; omega, by simp; omega, by simp, ?_, fun d hd => ?_⟩
                    · rw [List.drop_append_of_le_length (by omega), List.map_append, List.map_append, n4, List.map_cons, List.map_nil, e2, CD.out]
                      rfl
                    · rcases List.mem_append.1 hd with hd | hd
                      · exact n5 d hd
                      · rw [List.mem_singleton.1 hd]; exact HXL.out
                  clear HE h4 e2 e3 n1 n2 n3 n4 n5 run2 U2 MJ NI
                  go_wp2_with (first | refine wpList_loadA rfl 57 7 aggDg sizDg _ rfl lg (off + i * 7) rfl X LX.out XJ.out ?_ | refine wpList_bsDg rfl _ rfl x X HX.out rfl ?_ | (at_builtin; refine wpList_appK rfl 51 _ _ rfl rfl _ _ rfl rfl RUN.out ?_))
                  go_meet
                  exact ⟨t + 1, ka, kc, I ++ [x], by go_num, rfl, by omega, by omega, N2.out, U2H.out⟩
                · obtain ⟨rfl, h4, e3⟩ := h
                  have N2 : Hid (t = I.length ∧ t = f + M'.length ∧ M'.length ≤ 4 ∧ 0 < M'.length ∧ M'.map cor = (I.drop f).map cor ∧ (∀ d ∈ I, d ∈ l)) := by
                    rw [e3]
                    exact ⟨n1, n2, n3, by omega, n4, n5⟩
                  clear HE h4 e3 n1 n2 n3 n4 n5 NI
                  go_wp2
                  go_meet
                  exact ⟨t, ia, ic, I, rfl, rfl, by omega, by omega, N2.out, MJ.out⟩
              case rest =>
                obtain ⟨t', ja, jc, J, rfl, rfl, ht1, ht2, N2, U2⟩ := hcut
                obtain ⟨w10, hw10⟩ : ∃ z, z = wc := ⟨_, rfl⟩
                rw [← hw10] at U2 ⊢
                clear hw10 MJ HE NI CD
                obtain ⟨cP, hcP⟩ : ∃ cP : Bool, cP = (decide (i < m) && (q[i]?).getD false) := ⟨_, rfl⟩
                have HCP := hide hcP
                clear hcP
                go_upto_region 28 with fail
                go_cut [120] from 111 to 119 (fun v120 wx => v120 = .bool cP ∧ w10 = wx)
                case first =>
                  by_cases him : i < m
                  · obtain ⟨pg, po, rfl, hpg, hpcs⟩ := HPC.out (by omega)
                    obtain ⟨bx, hbx⟩ : ∃ bx, q[i]? = some bx := ⟨_, List.getElem?_eq_getElem (by rw [← HM.out]; exact him)⟩
                    have cb : w10.cell? ⟨pg, po + i, none⟩ = some (.bool bx) := by
                      obtain ⟨_, _, _, h⟩ := U2.out
                      exact (h.bel.cell (p := ⟨pg, po + i, none⟩) hpg).trans (hpcs i _ hbx)
                    obtain rfl : cP = bx := by rw [HCP.out, hbx, decide_eq_true him]; rfl
                    have imz : (i : Int) < (m : Int) := by omega
                    clear hpcs hbx him HCP
                    go_wp2
                    go_meet
                    exact ⟨rfl, rfl⟩
                  · obtain rfl : cP = false := by rw [HCP.out, decide_eq_false him]; rfl
                    have imz : ¬ (i : Int) < (m : Int) := by omega
                    clear him HCP
                    go_wp2
                    go_meet
                    exact ⟨rfl, rfl⟩
                case rest =>
                  obtain ⟨rfl, hw⟩ := hcut
                  subst hw
                  clear HCP
                  go_upto_if 120 with fail
                  go_cut [7, 15, 16, 17] from 121 to 169 (fun v7 v15 v16 v17 wx => ∃ (f' : Nat) (M2 : List Dg), v7 = .int .i64 (f' : Int) ∧ v15 = v15 ∧ v16 = v16 ∧ v17 = v17 ∧ f' ≤ t' ∧ Hid (t' = f' + M2.length ∧ M2.length ≤ 4 ∧ M2.map cor = (J.drop f').map cor) ∧ Hid (UlX w b M2 J (.slice ja t' jc) wx))
                  case first =>
                    cases cP with
                    | false =>
                      have N3 : Hid (t' = f + M'.length ∧ M'.length ≤ 4 ∧ M'.map cor = (J.drop f).map cor) := ⟨N2.out.2.1, N2.out.2.2.1, N2.out.2.2.2.2.1⟩
                      clear N2
                      go_wp2
                      go_meet
                      exact ⟨f, M', rfl, trivial, trivial, trivial, ht2, N3.out, U2.out⟩
                    | true =>
                      obtain ⟨LR, LC, IR, mm⟩ := U2.out
                      obtain ⟨n1, n2, n3, n4, n5, n6⟩ := N2.out
                      have POP := hide (uPop_any mm.p)
                      have N4 := hide n4
                      have tz : (f : Int) < (t' : Int) := by omega
                      have HMM := hide mm
                      have HN1 := hide n1
                      have HN2 := hide n2
                      have HN3 := hide n3
                      have HN5 := hide n5
                      have HN6 := hide n6
                      clear mm n1 n2 n3 n4 n5 n6 U2 N2
                      go_wp2_with fail
                      refine POP.out.mono ?_
                      rintro _ w11 (⟨e, _, _⟩ | ⟨d, M2, e, rfl, L11, b11⟩)
                      · have := N4.out
                        rw [e] at this
                        simp at this
                      obtain ⟨y, hy⟩ : ∃ y, J[f]? = some y := ⟨_, List.getElem?_eq_getElem (by rw [← HN1.out]; omega)⟩
                      have hdrop : J.drop f = y :: J.drop (f + 1) := by
                        have hq := (List.getElem?_eq_some_iff.1 hy)
                        rw [List.drop_eq_getElem_cons hq.1, hq.2]
                      have n5 := HN5.out
                      rw [e, hdrop, List.map_cons, List.map_cons] at n5
                      obtain ⟨ec, em⟩ := List.cons.inj n5
                      have mm := HMM.out
                      have m11 : UlM w b LR LC IR M2 J (.slice ja t' jc) w11 := by
                        refine ⟨L11, mm.r.but b11 (fun g e1 e2 => ?_), fun g e1 => ⟨(mm.ir g e1).1, Nat.lt_of_lt_of_le (mm.ir g e1).2.1 b11.size, (mm.ir g e1).2.2⟩, mm.bel.trans (b11.below mm.bel.size (fun g hg e2 => ?_)), mm.lo⟩
                        · rcases e2 with e2 | e2
                          · have := (mm.ir g e1).1; omega
                          · exact (mm.ir g e1).2.2 (.inl e2)
                        · have := mm.lo
                          rcases e2 with e2 | e2
                          · omega
                          · have := (mm.p.nb g (.inl e2)).1; omega
                      have dok : d.Ok LC w11 := (mm.p.con d (by rw [e]; simp)).but b11 (fun g e1 e2 => by
                        rcases e2 with e2 | e2
                        · have := (mm.p.nb g (.inr e1)).1; omega
                        · exact mm.p.dj g e2 e1)
                      have yok : y.Ok (fun g => g < w.heap.size) w11 := (HOK.out y (HN6.out y (List.mem_of_getElem? hy))).later m11.bel
                      have N3 : Hid (t' = f + 1 + M2.length ∧ M2.length ≤ 4 ∧ M2.map cor = (J.drop (f + 1)).map cor) := by
                        have h2 := HN2.out
                        have h3 := HN3.out
                        rw [e] at h2 h3
                        simp only [List.length_cons] at h2 h3
                        exact ⟨by omega, by omega, em⟩
                      have m11r := m11.r
                      rw [← HN1.out] at m11r
                      obtain ⟨ga, rfl, gal, _, _, hcells⟩ := m11r.at (by omega)
                      have cy : CellsAt w11 ga (f * 7) y.cells := by rw [← dgc_at hy]; exact hcells f (by omega)
                      obtain ⟨x3, x4, sA, ha1, ha2, ha3, A3, cA, _, bA, lA, _⟩ := box7 w11 d.cells rfl
                      obtain ⟨x5, x6, sB, hb1, hb2, hb3, B3, cB, _, bB, lB, bB5⟩ := box7 x4 y.cells rfl
                      have cA6 := cA.later lA bB
                      have bAB := later bA bB
                      have UF : Hid (UlX w b M2 J (.slice (some ⟨ga, 0, none⟩) t' jc) x6) := ⟨LR, LC, IR, m11.later bAB⟩
                      have CY : Hid (CellsAt x4 ga (f * 7) y.cells) := cy.later gal bA
                      obtain ⟨xa, xc, edv⟩ := dok.d.shape
                      obtain ⟨xb, xd, ebv⟩ := dok.b.shape
                      obtain ⟨ya, yc, fdv⟩ := yok.d.shape
                      obtain ⟨yb, yd, fbv⟩ := yok.b.shape
                      have tA := conv_str (dok.d.later bAB).isB
                      have tB := conv_str (yok.d.later bAB).isB
                      obtain ⟨XA, hXA⟩ : ∃ XA, XA = d.cells := ⟨_, rfl⟩
                      obtain ⟨XB, hXB⟩ : ∃ XB, XB = y.cells := ⟨_, rfl⟩
                      have LXA : Hid (XA.length = 7) := by rw [hXA]; exact rfl
                      have LXB : Hid (XB.length = 7) := by rw [hXB]; exact rfl
                      have OXA : Hid (∀ u ∈ XA, u.oneCell' = true) := by rw [hXA]; exact dok.one
                      have OXB : Hid (∀ u ∈ XB, u.oneCell' = true) := by rw [hXB]; exact yok.one
                      rw [← hXA] at ha3 cA6 ⊢
                      rw [← hXB] at hb3 cB CY
                      obtain ⟨⟨i0, i1, i2, i3⟩, pt, dv, bv, D, B⟩ := d
                      obtain ⟨⟨j0, j1, j2, j3⟩, pt2, dv2, bv2, D2, B2⟩ := y
                      simp only [cor, Prod.mk.injEq, I4.mk.injEq] at ec
                      obtain ⟨⟨rfl, rfl, rfl, rfl⟩, rfl, rfl, rfl⟩ := ec
                      simp only at edv ebv fdv fbv tA tB
                      subst edv ebv fdv fbv
                      obtain ⟨Sx, hSx⟩ : ∃ Sx, Sx = strB D := ⟨_, rfl⟩
                      obtain ⟨dn2, hdn2⟩ : ∃ z, z = D.length := ⟨_, rfl⟩
                      obtain ⟨bn2, hbn2⟩ : ∃ z, z = B.length := ⟨_, rfl⟩
                      rw [← hSx, ← hdn2] at tA tB
                      have pA0 : x6.cell? ⟨sA, 0, none⟩ = some (.int .u8 i0) := cA6 0 _ (by rw [hXA]; rfl)
                      have pA1 : x6.cell? ⟨sA, 1, none⟩ = some (.int .u8 i1) := cA6 1 _ (by rw [hXA]; rfl)
                      have pA2 : x6.cell? ⟨sA, 2, none⟩ = some (.int .u8 i2) := cA6 2 _ (by rw [hXA]; rfl)
                      have pA3 : x6.cell? ⟨sA, 3, none⟩ = some (.int .u8 i3) := cA6 3 _ (by rw [hXA]; rfl)
                      have pA4 : x6.cell? ⟨sA, 4, none⟩ = some (.int .i64 pt) := cA6 4 _ (by rw [hXA]; rfl)
                      have pA5 : x6.cell? ⟨sA, 5, none⟩ = some (.slice xa dn2 xc) := by rw [hdn2]; exact cA6 5 _ (by rw [hXA]; rfl)
                      have pA6 : x6.cell? ⟨sA, 6, none⟩ = some (.slice xb bn2 xd) := by rw [hbn2]; exact cA6 6 _ (by rw [hXA]; rfl)
                      have pB0 : x6.cell? ⟨sB, 0, none⟩ = some (.int .u8 i0) := cB 0 _ (by rw [hXB]; rfl)
                      have pB1 : x6.cell? ⟨sB, 1, none⟩ = some (.int .u8 i1) := cB 1 _ (by rw [hXB]; rfl)
                      have pB2 : x6.cell? ⟨sB, 2, none⟩ = some (.int .u8 i2) := cB 2 _ (by rw [hXB]; rfl)
                      have pB3 : x6.cell? ⟨sB, 3, none⟩ = some (.int .u8 i3) := cB 3 _ (by rw [hXB]; rfl)
                      have pB4 : x6.cell? ⟨sB, 4, none⟩ = some (.int .i64 pt) := cB 4 _ (by rw [hXB]; rfl)
                      have pB5 : x6.cell? ⟨sB, 5, none⟩ = some (.slice ya dn2 yc) := by rw [hdn2]; exact cB 5 _ (by rw [hXB]; rfl)
                      have pB6 : x6.cell? ⟨sB, 6, none⟩ = some (.slice yb bn2 yd) := by rw [hbn2]; exact cB 6 _ (by rw [hXB]; rfl)
                      have A3H := hide A3
                      have B3H := hide B3
                      have ha1' := ha1.symm
                      have ha2' := ha2.symm
                      have ha3' := ha3.symm
                      have hb1' := hb1.symm
                      have hb2' := hb2.symm
                      have hb3' := hb3.symm
                      have fz : (f : Int) < 1048577 := by omega
                      clear ha1 ha2 ha3 hb1 hb2 hb3 A3 B3 cA cA6 cB hSx hdn2 hbn2 hXA hXB dok yok n5 em hdrop hy mm m11 m11r hcells cy bA bB bAB lA lB bB5 L11 b11 e POP HMM HN1 HN2 HN3 HN5 HN6 N4 gal
                      go_upto_region 30 with ((refine wpList_storeA rfl 57 7 sizDg _ _ rfl sA 0 rfl XA zD.cells rfl LXA.out rfl A3H.out.1 A3H.out.2 OXA.out ?_; intro _; rw [ha3']))
                      clear ha1' ha2' ha3'
                      go_upto_region 33 with fail
                      go_upto_region 34 with (first | refine wpList_loadA rfl 57 7 aggDg sizDg _ rfl ga (f * 7) rfl XB LXB.out CY.out ?_ | (refine wpList_storeA rfl 57 7 sizDg _ _ rfl sB 0 rfl XB zD.cells rfl LXB.out rfl B3H.out.1 B3H.out.2 OXB.out ?_; intro _; rw [hb3']))
                      clear hb1' hb2' hb3'
                      have eqx : (Op.equalIn 10000 23 (.agg #[.int .u8 i0, .int .u8 i1, .int .u8 i2, .int .u8 i3]) (.agg #[.int .u8 i0, .int .u8 i1, .int .u8 i2, .int .u8 i3])).run Try.prog x6 = .ok true x6 := by
                        have h := eq_ip x6 9998 i0 i1 i2 i3 i0 i1 i2 i3
                        rw [eqI_self] at h
                        exact h
                      go_wp2
                      go_meet
                      exact ⟨f + 1, M2, by go_num, trivial, trivial, trivial, by omega, N3.out, UF.out⟩
                  case rest =>
                    obtain ⟨f', M2, rfl, _, _, _, hf', N3, U3⟩ := hcut
                    obtain ⟨w12, hw12⟩ : ∃ z, z = wc := ⟨_, rfl⟩
                    rw [← hw12] at U3 ⊢
                    clear hw12 U2
                    obtain ⟨LR, LC, IR, mm⟩ := U3.out
                    obtain ⟨n1, n2, n3, n4, n5, n6⟩ := N2.out
                    obtain ⟨p1, p2, p3⟩ := N3.out
                    obtain ⟨T, hT⟩ : ∃ T, T = J.drop f' := ⟨_, rfl⟩
                    rw [← hT] at p3
                    have ET := bfs_cor p3
                    have tl : T.length + f' = t' := by rw [hT, List.length_drop]; omega
                    have HT : Hid (∀ k y, f' ≤ k → J[k]? = some y → T[k - f']? = some y) := fun k y hk hy => by rw [hT, List.getElem?_drop, show f' + (k - f') = k by omega]; exact hy
                    have HTL := hide tl
                    obtain ⟨un, hun⟩ : ∃ un, un = (bfs T).length := ⟨_, rfl⟩
                    obtain ⟨mn, hmn⟩ : ∃ mn, mn = M2.length := ⟨_, rfl⟩
                    have uz : (un : Int) ≤ 40000000 := by
                      have h1 := bfs_len (M := M2) (c := 10000000) (fun x hx => (mm.p.con x hx).lb)
                      have := Nat.mul_le_mul_right 10000000 p2
                      rw [ET, ← hun] at h1
                      omega
                    have HUN := hide hun
                    have tq : Hid ((t' : Int) - (f' : Int) = (mn : Int)) := by rw [hmn]; exact (show (t' : Int) - (f' : Int) = (M2.length : Int) by omega)
                    have BU := hide (uBufs_any mm.p)
                    rw [ET] at BU
                    have HMM := hide mm
                    have HN1 := hide n1
                    have HN6 := hide n6
                    have NF : Hid (t' = J.length ∧ t' = f' + M2.length ∧ M2.length ≤ 4 ∧ M2.map cor = (J.drop f').map cor ∧ (∀ d ∈ J, d ∈ l)) := ⟨n1, p1, p2, by rw [← hT]; exact p3, n6⟩
                    have HMN := hide hmn
                    clear mm n1 n2 n3 n4 n5 n6 p1 p2 p3 hT ET tl hun hmn N2 N3 U3
                    go_wp2_with fail
                    refine BU.out.mono ?_
                    rintro _ w13 ⟨uv, rfl, r13, b13⟩
                    obtain ⟨ua, uc, rfl⟩ := r13.shape
                    rw [← HUN.out] at r13 ⊢
                    have R13 := hide r13
                    have m13 := HMM.out.later b13
                    have ROW : Hid (∀ k y, J[k]? = some y → ∃ ga, ja = some ⟨ga, 0, none⟩ ∧ ga < w13.heap.size ∧ CellsAt w13 ga (k * 7) y.cells) := fun k y hy => by
                      have hk := (List.getElem?_eq_some_iff.1 hy).1
                      obtain ⟨ga, e1, e2, _, _, e3⟩ := m13.r.at (by omega)
                      exact ⟨ga, e1, e2, by rw [← dgc_at hy]; exact e3 k hk⟩
                    have H13 := hide m13
                    clear r13 b13 m13 BU HMM
                    go_wp2
                    go_loopw [19, 20] (fun v19 v20 wr => ∃ (k c : Nat), v19 = .int .i64 (c : Int) ∧ v20 = .int .i64 (k : Int) ∧ f' ≤ k ∧ k ≤ t' ∧ c ≤ un ∧ Hid (c = (bfs (T.take (k - f'))).length) ∧ Hid (Below w13.heap.size w13 wr)) (fun _ v20 _ => t' - (intOf v20).toNat)
                    case atStart => exact ⟨f', 0, rfl, rfl, Nat.le_refl _, hf', Nat.zero_le _, by rw [Nat.sub_self]; exact rfl, Below.refl _ _⟩
                    case round =>
                      obtain ⟨k, c, rfl, rfl, hfk, hkt, hcu, CI, BK⟩ := hrel
                      obtain ⟨wk2, hwk2⟩ : ∃ z, z = wr := ⟨_, rfl⟩
                      rw [← hwk2] at BK ⊢
                      clear hwk2
                      by_cases hkl : k < t'
                      · obtain ⟨y, hy⟩ : ∃ y, J[k]? = some y := ⟨_, List.getElem?_eq_getElem (by rw [← HN1.out]; exact hkl)⟩
                        have hTy := HT.out k y hfk hy
                        obtain ⟨ga, rfl, gal, cy⟩ := ROW.out k y hy
                        have yok := (HOK.out y (HN6.out y (List.mem_of_getElem? hy))).later H13.out.bel
                        obtain ⟨yn, hyn⟩ : ∃ yn, yn = y.B.length := ⟨_, rfl⟩
                        have yb2 := yok.b
                        obtain ⟨ya, yc, ebv, yl, _, ycs⟩ := yb2
                        rw [← hyn] at ebv ycs
                        have MORE := bfs_more hTy
                        have cyn : c + yn ≤ un := by
                          have h1 : (bfs (T.take (k - f' + 1))).length ≤ (bfs T).length := by
                            rw [bfs_split T (k - f' + 1), List.length_append]
                            omega
                          rw [MORE, ← hyn, ← CI.out, ← HUN.out] at h1
                          exact h1
                        have NXT : Hid (c + yn = (bfs (T.take (k + 1 - f'))).length) := by
                          rw [show k + 1 - f' = k - f' + 1 by omega, MORE, ← hyn, ← CI.out]
                          exact rfl
                        have YC : Hid (∀ W, Below w13.heap.size w13 W → W.cell? ⟨ga, k * 7 + 6, none⟩ = some (.slice ya yn yc)) := fun W hW => by
                          rw [← ebv]
                          exact (cy.later gal hW) 6 _ rfl
                        have YV : Hid (∀ j, j < yn → ∃ v yg yo ug uo, ya = some ⟨yg, yo, none⟩ ∧ ua = some ⟨ug, uo, none⟩ ∧ ∀ W, Below w13.heap.size w13 W → W.cell? ⟨yg, yo + j, none⟩ = some (.int .i64 v) ∧ W.cell? ⟨ug, uo + (c + j), none⟩ = some (.int .i64 v)) := fun j hj => by
                          obtain ⟨yg, yo, e1, _, e3, e4⟩ := ycs (by omega)
                          obtain ⟨v, hv⟩ : ∃ v, y.B[j]? = some v := ⟨_, List.getElem?_eq_getElem (by omega)⟩
                          have hb := bfs_at hTy j (by omega)
                          rw [← CI.out, hv] at hb
                          obtain ⟨ug, uo, f1, f2, _, f4⟩ := R13.out.at (by rw [← HUN.out]; omega)
                          exact ⟨v, yg, yo, ug, uo, e1, f1, fun W hW => ⟨(hW.cell (p := ⟨yg, yo + j, none⟩) e3).trans (e4 j v hv), (hW.cell (p := ⟨ug, uo + (c + j), none⟩) f2).trans (f4 _ v hb)⟩⟩
                        have yz : (yn : Int) ≤ 10000000 := by have := yok.lb; omega
                        have kz : (k : Int) < (t' : Int) := by omega
                        have kz2 : (k : Int) ≤ 1048577 := by omega
                        clear hTy cy yok ebv yl ycs MORE hy hyn
                        go_wp2
                        go_loopw [19, 21] (fun v19 v21 wq => ∃ (j cj : Nat), v19 = .int .i64 (cj : Int) ∧ v21 = .int .i64 (j : Int) ∧ j ≤ yn ∧ cj ≤ un ∧ Hid (cj = c + j) ∧ Hid (Below w13.heap.size w13 wq)) (fun _ v21 _ => yn - (intOf v21).toNat)
                        case atStart => exact ⟨0, c, rfl, rfl, Nat.zero_le _, hcu, rfl, BK.out⟩
                        case round =>
                          obtain ⟨j, cj, rfl, rfl, hj, hcju, HCJ, BQ⟩ := hrel
                          obtain ⟨wq2, hwq2⟩ : ∃ z, z = wr := ⟨_, rfl⟩
                          rw [← hwq2] at BQ ⊢
                          clear hwq2
                          have y6 := YC.out _ BQ.out
                          by_cases hjl : j < yn
                          · obtain ⟨v, yg, yo, ug, uo, rfl, rfl, hcc⟩ := YV.out j hjl
                            have HCL : Hid (cj < un) := by have h := HCJ.out; exact (show cj < un by omega)
                            have gz : decide ((un : Int) ≤ (cj : Int)) = false := decide_eq_false (by have h := HCL.out; omega)
                            have cjz : (cj : Int) < (un : Int) := by have h := HCL.out; omega
                            have jz : (j : Int) < (yn : Int) := by omega
                            have HCC : Hid (∀ W, Below w13.heap.size w13 W → W.cell? ⟨yg, yo + j, none⟩ = some (.int .i64 v) ∧ W.cell? ⟨ug, uo + cj, none⟩ = some (.int .i64 v)) := by rw [HCJ.out]; exact hcc
                            clear hcc
                            go_upto_region 45 with fail
                            refine regionJ (fun _ => true) (fun W => Below wq2.heap.size wq2 W) (by kernel_rfl) ?_
                            refine takeJ (i := 0) (v := .int .i64 (cj : Int)) 188 rfl rfl (by kernel_rfl) (by kernel_rfl) (by kernel_rfl) (by kernel_rfl) (fun _ _ _ h => h) (.inl ⟨by rfl, fun W hW => exec_move _ _ rfl rfl⟩) ((later_drew wq2)) ?_
                            try simp only [Act.put, List.setIfInBounds_toArray, List.set_cons_zero, List.set_cons_succ]
                            refine takeJ (i := 1) (v := .slice (some ⟨ug, uo, none⟩) un uc) 189 rfl rfl (by kernel_rfl) (by kernel_rfl) (by kernel_rfl) (by kernel_rfl) (fun _ _ _ h => h) (.inl ⟨by rfl, fun W hW => exec_move _ _ rfl rfl⟩) ((later_drew wq2)) ?_
                            try simp only [Act.put, List.setIfInBounds_toArray, List.set_cons_zero, List.set_cons_succ]
                            refine takeJ (i := 2) (v := .int .i64 (un : Int)) 190 rfl rfl (by kernel_rfl) (by kernel_rfl) (by kernel_rfl) (by kernel_rfl) (fun _ _ _ h => h) (.inl ⟨by rfl, fun W hW => exec_len _ 55 _ un uc Try.underlying55 rfl rfl⟩) ((later_drew wq2)) ?_
                            try simp only [Act.put, List.setIfInBounds_toArray, List.set_cons_zero, List.set_cons_succ]
                            refine takeJ (i := 3) (v := .bool false) 191 rfl rfl (by kernel_rfl) (by kernel_rfl) (by kernel_rfl) (by kernel_rfl) (fun _ _ _ h => h) (.inl ⟨by rfl, fun W hW => exec_gei2 _ _ _ _ _ false rfl rfl rfl gz⟩) ((later_drew wq2)) ?_
                            try simp only [Act.put, List.setIfInBounds_toArray, List.set_cons_zero, List.set_cons_succ]
                            refine takeJ (i := 4) (v := .bool false) 192 rfl rfl (by kernel_rfl) (by kernel_rfl) (by kernel_rfl) (by kernel_rfl) (fun _ _ _ h => h) (.inl ⟨by rfl, fun W hW => exec_move _ _ rfl rfl⟩) ((later_drew wq2)) ?_
                            try simp only [Act.put, List.setIfInBounds_toArray, List.set_cons_zero, List.set_cons_succ]
                            refine takeJ (i := 5) (v := .slice (some ⟨ug, uo, none⟩) un uc) 193 rfl rfl (by kernel_rfl) (by kernel_rfl) (by kernel_rfl) (by kernel_rfl) (fun _ _ _ h => h) (.inl ⟨by rfl, fun W hW => exec_move _ _ rfl rfl⟩) ((later_drew wq2)) ?_
                            try simp only [Act.put, List.setIfInBounds_toArray, List.set_cons_zero, List.set_cons_succ]
                            refine takeJ (i := 6) (v := .int .i64 (cj : Int)) 194 rfl rfl (by kernel_rfl) (by kernel_rfl) (by kernel_rfl) (by kernel_rfl) (fun _ _ _ h => h) (.inl ⟨by rfl, fun W hW => exec_move _ _ rfl rfl⟩) ((later_drew wq2)) ?_
                            try simp only [Act.put, List.setIfInBounds_toArray, List.set_cons_zero, List.set_cons_succ]
                            refine takeJ (i := 7) (v := .pointer (some ⟨ug, uo + cj, none⟩)) 195 rfl rfl (by kernel_rfl) (by kernel_rfl) (by kernel_rfl) (by kernel_rfl) (fun _ _ _ h => h) (.inl ⟨by rfl, fun W hW => exec_ixJ _ _ ug uo un uc cj rfl rfl rfl HCL.out⟩) ((later_drew wq2)) ?_
                            try simp only [Act.put, List.setIfInBounds_toArray, List.set_cons_zero, List.set_cons_succ]
                            refine takeJ (i := 8) (v := .int .i64 v) 196 rfl rfl (by kernel_rfl) (by kernel_rfl) (by kernel_rfl) (by kernel_rfl) (fun _ _ _ h => h) (.inl ⟨by rfl, fun W hW => exec_load1 3 one1 _ rfl ug (uo + cj) rfl (.int .i64 v) ((HCC.out W (later BQ.out hW)).2)⟩) ((later_drew wq2)) ?_
                            try simp only [Act.put, List.setIfInBounds_toArray, List.set_cons_zero, List.set_cons_succ]
                            refine takeJ (i := 9) (v := .slice (some ⟨ga, 0, none⟩) t' jc) 197 rfl rfl (by kernel_rfl) (by kernel_rfl) (by kernel_rfl) (by kernel_rfl) (fun _ _ _ h => h) (.inl ⟨by rfl, fun W hW => exec_move _ _ rfl rfl⟩) ((later_drew wq2)) ?_
                            try simp only [Act.put, List.setIfInBounds_toArray, List.set_cons_zero, List.set_cons_succ]
                            refine takeJ (i := 10) (v := .int .i64 (k : Int)) 198 rfl rfl (by kernel_rfl) (by kernel_rfl) (by kernel_rfl) (by kernel_rfl) (fun _ _ _ h => h) (.inl ⟨by rfl, fun W hW => exec_move _ _ rfl rfl⟩) ((later_drew wq2)) ?_
                            try simp only [Act.put, List.setIfInBounds_toArray, List.set_cons_zero, List.set_cons_succ]
                            refine takeJ (i := 11) (v := .pointer (some ⟨ga, k * 7, none⟩)) 199 rfl rfl (by kernel_rfl) (by kernel_rfl) (by kernel_rfl) (by kernel_rfl) (fun _ _ _ h => h) (.inl ⟨by rfl, fun W hW => exec_ixDg _ _ ga t' jc k rfl rfl rfl hkl⟩) ((later_drew wq2)) ?_
                            try simp only [Act.put, List.setIfInBounds_toArray, List.set_cons_zero, List.set_cons_succ]
                            refine takeJ (i := 12) (v := .pointer (some ⟨ga, k * 7 + 6, none⟩)) 200 rfl rfl (by kernel_rfl) (by kernel_rfl) (by kernel_rfl) (by kernel_rfl) (fun _ _ _ h => h) (.inl ⟨by rfl, fun W hW => exec_fieldO 57 _ 3 ga (k * 7) (k * 7 + 6) rfl rfl (fun w => by kernel_rfl)⟩) ((later_drew wq2)) ?_
                            try simp only [Act.put, List.setIfInBounds_toArray, List.set_cons_zero, List.set_cons_succ]
                            refine takeJ (i := 13) (v := .slice (some ⟨yg, yo, none⟩) yn yc) 201 rfl rfl (by kernel_rfl) (by kernel_rfl) (by kernel_rfl) (by kernel_rfl) (fun _ _ _ h => h) (.inl ⟨by rfl, fun W hW => exec_load1 55 oneI _ rfl ga (k * 7 + 6) rfl (.slice (some ⟨yg, yo, none⟩) yn yc) (YC.out _ (later BQ.out hW))⟩) ((later_drew wq2)) ?_
                            try simp only [Act.put, List.setIfInBounds_toArray, List.set_cons_zero, List.set_cons_succ]
                            refine takeJ (i := 14) (v := .int .i64 (j : Int)) 202 rfl rfl (by kernel_rfl) (by kernel_rfl) (by kernel_rfl) (by kernel_rfl) (fun _ _ _ h => h) (.inl ⟨by rfl, fun W hW => exec_move _ _ rfl rfl⟩) ((later_drew wq2)) ?_
                            try simp only [Act.put, List.setIfInBounds_toArray, List.set_cons_zero, List.set_cons_succ]
                            refine takeJ (i := 15) (v := .pointer (some ⟨yg, yo + j, none⟩)) 203 rfl rfl (by kernel_rfl) (by kernel_rfl) (by kernel_rfl) (by kernel_rfl) (fun _ _ _ h => h) (.inl ⟨by rfl, fun W hW => exec_ixJ _ _ yg yo yn yc j rfl rfl rfl hjl⟩) ((later_drew wq2)) ?_
                            try simp only [Act.put, List.setIfInBounds_toArray, List.set_cons_zero, List.set_cons_succ]
                            refine takeJ (i := 16) (v := .int .i64 v) 204 rfl rfl (by kernel_rfl) (by kernel_rfl) (by kernel_rfl) (by kernel_rfl) (fun _ _ _ h => h) (.inl ⟨by rfl, fun W hW => exec_load1 3 one1 _ rfl yg (yo + j) rfl (.int .i64 v) ((HCC.out W (later BQ.out hW)).1)⟩) ((later_drew wq2)) ?_
                            try simp only [Act.put, List.setIfInBounds_toArray, List.set_cons_zero, List.set_cons_succ]
                            refine takeJ (i := 17) (v := .bool false) 205 rfl rfl (by kernel_rfl) (by kernel_rfl) (by kernel_rfl) (by kernel_rfl) (fun _ _ _ h => h) (.inl ⟨by rfl, fun W hW => exec_neInt _ _ _ v rfl rfl rfl⟩) ((later_drew wq2)) ?_
                            try simp only [Act.put, List.setIfInBounds_toArray, List.set_cons_zero, List.set_cons_succ]
                            refine takeJ (i := 18) (v := .bool false) 206 rfl rfl (by kernel_rfl) (by kernel_rfl) (by kernel_rfl) (by kernel_rfl) (fun _ _ _ h => h) (.inl ⟨by rfl, fun W hW => exec_pick _ _ _ false _ rfl rfl rfl⟩) ((later_drew wq2)) ?_
                            try simp only [Act.put, List.setIfInBounds_toArray, List.set_cons_zero, List.set_cons_succ]
                            refine doneJ (by kernel_rfl) ?_ _
                            have BQ2 := hide (later BQ.out (later_drew wq2))
                            clear BQ gz y6 HCC
                            go_wp2
                            go_roundw
                            case rel => exact ⟨j + 1, cj + 1, by go_num, by go_num, by omega, HCL.out, by rw [HCJ.out]; exact rfl, BQ2.out⟩
                            case measure => simp [intOf]; omega
                          · have jz : ¬ (j : Int) < (yn : Int) := by omega
                            clear YV
                            go_wp2
                            go_roundw
                            case rel => exact ⟨k + 1, c + yn, congrArg (Value.int .i64) (by have h := HCJ.out; omega), by go_num, by omega, by omega, cyn, NXT.out, BQ.out⟩
                            case measure => simp [intOf]; omega
                      · have kz : ¬ (k : Int) < (t' : Int) := by omega
                        obtain rfl : c = un := by
                          have h := HTL.out
                          rw [CI.out, HUN.out, List.take_of_length_le (by omega)]
                        obtain ⟨v0, cv0, rv0⟩ := (H13.out.later BK.out).p.row
                        obtain ⟨va, vc, rfl⟩ := rv0.shape
                        rw [← HMN.out] at cv0
                        have LEN := hide (uLen_any wk2 b va mn vc cv0)
                        have UF : Hid (UlX w b M2 J (.slice ja t' jc) wk2) := ⟨_, _, _, H13.out.later BK.out⟩
                        have tq2 := tq.out
                        clear rv0 cv0 H13 BK CI
                        go_wp2_with fail
                        refine LEN.out.mono ?_
                        rintro _ _ ⟨rfl, rfl⟩
                        go_wp2
                        go_roundw
                        case rel => exact ⟨i + 1, f', t', ja, jc, M2, J, rfl, rfl, rfl, by go_num, by omega, by omega, hf', NF.out, UF.out⟩
                        case measure => simp [intOf]; omega
end Go.Proofs.Ythjeaebpboilpaa
