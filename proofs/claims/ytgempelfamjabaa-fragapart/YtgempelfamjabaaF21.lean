
/-
  Package frag: joined. Package frag: drop's closure; slices.IndexFunc over datagrams. Package frag: slices.DeleteFunc of one datagram; drop. Package frag: drop.
-/
import Derived.Test.YtgempelfamjabaaF17
namespace Go.Proofs.Ytgempelfamjabaa
open Go.RowKit Go.Shelf

theorem aggWh (w : World) : (isAgg 49).run Try.prog w = .ok true w := by kernel_rfl
theorem sizWh (w : World) : (Go.sizeOf 49).run Try.prog w = .ok 18 w := by kernel_rfl
theorem s1S (w : World) : (Go.sizeOf 24).run Try.prog w = .ok 1 w := by kernel_rfl
def zWh : List Value := whC zF (.slice none 0 0) (.slice none 0 0) (.slice none 0 0)
theorem exec_bldWh {o : Oper} {w : World} {ev : Operand → Value} (x : Operand) (p : Pk) (hv : Value) (ho : o.op = .build 49 #[(0, x)]) (hx : ev x = .agg (p.cells hv).toArray) (hh : hv.oneCell' = true) :
    (execOp ev o).run Try.prog w = .ok (.value (.agg (whC p hv (.slice none 0 0) (.slice none 0 0)).toArray)) w := by
  unfold execOp
  rw [ho]
  simp only [List.map_toArray, List.map_cons, List.map_nil, hx]
  cases hv <;> first | (simp at hh; done) | kernel_rfl
theorem whC_one (p : Pk) (hv dv bv : Value) (h1 : hv.oneCell' = true) (h2 : dv.oneCell' = true) (h3 : bv.oneCell' = true) : ∀ u ∈ whC p hv dv bv, u.oneCell' = true := by
  intro u hu
  unfold whC at hu
  rcases List.mem_append.1 hu with hu | hu
  · exact pkV_one p hv h1 u hu
  · simp only [List.mem_cons, List.not_mem_nil, or_false] at hu
    rcases hu with rfl | rfl
    · exact h2
    · exact h3
set_option maxRecDepth 100000 in
set_option maxHeartbeats 8000000 in
theorem joined_any {O CO : Nat → Prop} (hd : Pk) (hv : Value) (hh : hv.oneCell' = true) (v : Value) (A : List Pc) (w : World) (hr : RowF 4 O w v A.length (pcc A)) (hok : ∀ y ∈ A, y.Ok CO w) (hl : A.length ≤ 2000) :
    Calls Try.prog 40 #[.agg (hd.cells hv).toArray, v] w fun e w' => ∃ dv bv, e = .returned (.agg (whC hd hv dv bv).toArray) ∧ Below w.heap.size w w' ∧ ∃ τ : Nat → Nat, RowB (fun g => τ g = 1 ∧ w.heap.size ≤ g) w' dv (A.flatMap (·.D)) ∧ RowN (fun g => τ g = 2 ∧ w.heap.size ≤ g) w' bv (A.map (·.buf)) := by
  obtain ⟨va, vc, rfl⟩ := hr.shape
  obtain ⟨N, hN⟩ : ∃ N, N = A.length := ⟨_, rfl⟩
  rw [show (Value.agg (hd.cells hv).toArray) = .agg #[.int .u8 hd.src.a, .int .u8 hd.src.b, .int .u8 hd.src.c, .int .u8 hd.src.d, .int .u8 hd.dst.a, .int .u8 hd.dst.b, .int .u8 hd.dst.c, .int .u8 hd.dst.d, .int .i64 hd.proto, .int .i64 hd.ttl, .int .i64 hd.id, .int .i64 hd.tos, .bool hd.whole, .bool hd.more, .int .i64 hd.off, hv] from rfl]
  obtain ⟨w1, s, hs, hw1, c1, f1, b1, l1⟩ := boxP w hd hv
  obtain ⟨X, hX⟩ : ∃ X, X = hd.cells hv := ⟨_, rfl⟩
  rw [← hX] at c1
  have LX : Hid (X.length = 16) := by rw [hX]; exact rfl
  obtain ⟨w2, hw2⟩ : ∃ w2, w2 = w1.alloc (.cells zWh.toArray 49) := ⟨_, rfl⟩
  have z1 : w1.heap.size = s + 1 := by rw [hw1, hs, World.size_alloc]
  have b2 : Below w1.heap.size w1 w2 := by rw [hw2]; exact later_alloc _ _
  have c2 : CellsAt w2 (s + 1) 0 zWh := by rw [hw2, ← z1]; exact CellsAt.new w1 _ _
  have f2 : ∀ y, w2.frozen? ⟨s + 1, y, none⟩ = false := by rw [hw2, ← z1]; exact fun y => frozen_new w1 _ _ _
  have z2 : w2.heap.size = s + 2 := by rw [hw2, World.size_alloc, z1]
  have cH : CellsAt w2 s 0 X := c1.later l1 b2
  obtain ⟨w3, hw3⟩ : ∃ w3, w3 = w2.alloc (.cells zWh.toArray 49) := ⟨_, rfl⟩
  have b3 : Below w2.heap.size w2 w3 := by rw [hw3]; exact later_alloc _ _
  have c3 : CellsAt w3 (s + 2) 0 zWh := by rw [hw3, ← z2]; exact CellsAt.new w2 _ _
  have f3 : ∀ y, w3.frozen? ⟨s + 2, y, none⟩ = false := by rw [hw3, ← z2]; exact fun y => frozen_new w2 _ _ _
  have z3 : w3.heap.size = s + 3 := by rw [hw3, World.size_alloc, z2]
  obtain ⟨Y, hY⟩ : ∃ Y, Y = whC hd hv (.slice none 0 0) (.slice none 0 0) := ⟨_, rfl⟩
  have LY : Hid (Y.length = 18) := by rw [hY]; exact rfl
  have OY : Hid (∀ u ∈ Y, u.oneCell' = true) := by rw [hY]; exact whC_one hd hv _ _ hh rfl rfl
  obtain ⟨w4, hw4⟩ : ∃ w4, w4 = w3.setCells (s + 2) 0 Y := ⟨_, rfl⟩
  have b4 : But (Only (s + 2)) w3 w4 := by rw [hw4]; exact But.cells (s + 2) Y 0 w3
  have z4 := b4.size
  have J0 : JoM w s hd hv A 0 (.slice none 0 0) (.slice none 0 0) w4 := by
    refine ⟨(later (later b1 b2) b3).trans (b4.below (by omega) (fun g hg e => by have e : g = s + 2 := e; omega)), ?_, fun y => by rw [hw4, World.frozen?_setCells]; exact f3 y, ?_, fun y => ?_, fun _ => 0, ?_, ?_⟩
    · rw [hw4, ← hY]; exact c3.stored (by rw [LY.out]; rfl)
    · exact ((c2.later (by omega) b3).but (by omega) b4 (fun e => by have e : s + 1 = s + 2 := e; omega))
    · exact (b4.frozen (p := ⟨s + 1, y, none⟩) (by show s + 1 < _; omega) (fun e => by have e : s + 1 = s + 2 := e; omega)).trans ((b3.frozen (p := ⟨s + 1, y, none⟩) (by show s + 1 < _; omega)).trans (f2 y))
    · exact RowB.nil _ _
    · exact RowN.nil _ _
  have RA : Hid (∀ i x, A[i]? = some x → ∃ ga, va = some ⟨ga, 0, none⟩ ∧ ∀ W, Below w.heap.size w W → CellsAt W ga (i * 4) x.cells) := fun i x hx => by
    have hi := (List.getElem?_eq_some_iff.1 hx).1
    obtain ⟨ga, e1, e2, _, _, e5⟩ := hr.at (by omega)
    refine ⟨ga, e1, fun W hW => ?_⟩
    have := (e5 i hi).later e2 hW
    rw [pcc_at hx] at this
    exact this
  have BLD : Hid (∀ (o : Oper) (ev : Operand → Value) (W : World) (x : Operand), o.op = .build 49 #[(0, x)] → ev x = .agg X.toArray → (execOp ev o).run Try.prog W = .ok (.value (.agg Y.toArray)) W) := fun o ev W x ho hx => by
    rw [hX] at hx
    rw [hY]
    exact exec_bldWh x hd hv ho hx hh
  have HJ0 := hide J0
  have CH := hide cH
  have C3 := hide c3
  have F3 := hide f3
  have HN := hide hN
  have HOK := hide hok
  have HL := hide hl
  have HS := hide hs
  have hw1' := hw1.symm
  have hw2' : w1.alloc (.cells #[.int .u8 0, .int .u8 0, .int .u8 0, .int .u8 0, .int .u8 0, .int .u8 0, .int .u8 0, .int .u8 0, .int .i64 0, .int .i64 0, .int .i64 0, .int .i64 0, .bool false, .bool false, .int .i64 0, .slice none 0 0, .slice none 0 0, .slice none 0 0] 49) = w2 := by rw [hw2]; rfl
  have hw3' : w2.alloc (.cells #[.int .u8 0, .int .u8 0, .int .u8 0, .int .u8 0, .int .u8 0, .int .u8 0, .int .u8 0, .int .u8 0, .int .i64 0, .int .i64 0, .int .i64 0, .int .i64 0, .bool false, .bool false, .int .i64 0, .slice none 0 0, .slice none 0 0, .slice none 0 0] 49) = w3 := by rw [hw3]; rfl
  have hs' := hs.symm
  have z1' := z1
  have z2' := z2
  have hw4' := hw4.symm
  have lz : (N : Int) ≤ 2000 := by omega
  rw [← hN]
  clear hr hok hl hs hw1 c1 f1 b1 l1 hw2 b2 c2 f2 cH hw3 b3 c3 f3 hw4 b4 z1 z2 z3 z4 J0 hX hY hN
  go_enter Try.func40, Try.ntmps40
  go_wp2_with (first | refine wpList_loadA rfl 26 16 aggP sizP _ rfl s 0 rfl X LX.out CH.out ?_ | refine wpList_runV rfl (BLD.out _ _ _ _ rfl rfl) ?_ | (refine wpList_storeA rfl 49 18 sizWh _ _ rfl (s + 2) 0 rfl Y zWh rfl LY.out rfl C3.out F3.out OY.out ?_; intro _; rw [hw4']))
  clear hw1' hw2' hw3' hs' z1' z2' hw4' BLD CH C3 F3
  go_loopw [12] (fun vi wr => ∃ i : Nat, vi = .int .i64 (i : Int) ∧ i ≤ N ∧ Hid (∃ dv bv, JoM w s hd hv A i dv bv wr)) (fun vi _ => N - (intOf vi).toNat)
  case atStart => exact ⟨0, rfl, Nat.zero_le _, _, _, HJ0.out⟩
  case round =>
    clear HJ0
    obtain ⟨i, rfl, hi, HJ⟩ := hrel
    obtain ⟨wk, hwk⟩ : ∃ wk, wk = wr := ⟨_, rfl⟩
    rw [← hwk] at HJ ⊢
    clear hwk
    obtain ⟨dv, bv, J⟩ := HJ.out
    clear HJ
    by_cases hlt : i < N
    · obtain ⟨x, hx⟩ : ∃ x, A[i]? = some x := ⟨_, List.getElem?_eq_getElem (by rw [← HN.out]; exact hlt)⟩
      obtain ⟨ga, rfl, hgc⟩ := RA.out i x hx
      have cX := hgc wk J.b
      obtain ⟨ea, ec, eX⟩ := (HOK.out x (List.mem_of_getElem? hx)).d.shape
      obtain ⟨en, hen⟩ : ∃ en, en = x.D.length := ⟨_, rfl⟩
      rw [← hen] at eX
      have x0 : wk.cell? ⟨ga, i * 4, none⟩ = some (.int .i64 x.at_) := cX 0 _ rfl
      have x1 : wk.cell? ⟨ga, i * 4 + 1, none⟩ = some (.slice ea en ec) := by rw [← eX]; exact cX 1 _ rfl
      have x2 : wk.cell? ⟨ga, i * 4 + 2, none⟩ = some (.bool x.last) := cX 2 _ rfl
      have x3 : wk.cell? ⟨ga, i * 4 + 3, none⟩ = some (.int .i64 x.buf) := cX 3 _ rfl
      obtain ⟨va', ba, a', b', vn, bn, vc', bc, n', c', c2', W1, wF, wG, wE, wH, wI, edv, ebv, hW1, cQ, k16, hrun, k16F, f16F, hwG, cQG, k17, hwE, hrun2, k17H, f17H, hwI, J'⟩ := J.step HS.out hx HOK.out HL.out
      obtain ⟨q, hq⟩ : ∃ q, q = wk.heap.size := ⟨_, rfl⟩
      rw [← hq] at cQ cQG
      have hq' := hq.symm
      have hW1' : wk.alloc (.cells #[.int .i64 x.at_, .slice ea en ec, .bool x.last, .int .i64 x.buf] 80) = W1 := by rw [hW1, show x.cells.toArray = #[.int .i64 x.at_, x.dv, .bool x.last, .int .i64 x.buf] from rfl, eX]
      have y1 : W1.cell? ⟨q, 1, none⟩ = some (.slice ea en ec) := by rw [← eX]; exact cQ 1 _ rfl
      have y3 : wG.cell? ⟨q, 3, none⟩ = some (.int .i64 x.buf) := cQG 3 _ rfl
      rw [eX] at hrun
      subst edv ebv
      have iz : (i : Int) < (N : Int) := by omega
      have HJ' := hide J'
      have RUN := hide hrun
      have RUN2 := hide hrun2
      have HWG := hide hwG
      have HWE := hide hwE
      have HWI := hide hwI
      clear J J' hrun hrun2 hwG hwE hwI cX cQ cQG hW1 hq hgc hx eX hen
      go_upto_region 5 with fail
      clear x0 x1 x2 x3 hW1' hq'
      refine wp_region_list ?_
      refine listVP (w' := W1) 16 (.pointer (some ⟨s + 2, 16, none⟩)) rfl rfl rfl (exec_fieldO 49 _ 1 (s + 2) 0 16 rfl rfl (fun w => by kernel_rfl)) ?_
      try simp only [Act.put, List.setIfInBounds_toArray, List.set_cons_zero, List.set_cons_succ]
      refine listVP (w' := W1) 17 (.slice va' vn vc') rfl rfl rfl (exec_load1 24 oneS _ rfl (s + 2) 16 rfl (.slice va' vn vc') (k16)) ?_
      try simp only [Act.put, List.setIfInBounds_toArray, List.set_cons_zero, List.set_cons_succ]
      refine listVP (w' := W1) 18 (.pointer (some ⟨q, 1, none⟩)) rfl rfl rfl (exec_fieldO 80 _ 1 q 0 1 rfl rfl (fun w => by kernel_rfl)) ?_
      try simp only [Act.put, List.setIfInBounds_toArray, List.set_cons_zero, List.set_cons_succ]
      refine listVP (w' := W1) 19 (.slice ea en ec) rfl rfl rfl (exec_load1 24 oneS _ rfl q 1 rfl (.slice ea en ec) (y1)) ?_
      try simp only [Act.put, List.setIfInBounds_toArray, List.set_cons_zero, List.set_cons_succ]
      refine listVP (w' := wF) 20 (.slice a' n' c') rfl rfl rfl (exec_app _ _ 24 24 rfl (.slice va' vn vc') (.slice ea en ec) rfl rfl 24 rfl RUN.out) ?_
      try simp only [Act.put, List.setIfInBounds_toArray, List.set_cons_zero, List.set_cons_succ]
      refine listVP (w' := wF) 21 (.pointer (some ⟨s + 2, 16, none⟩)) rfl rfl rfl (exec_fieldO 49 _ 1 (s + 2) 0 16 rfl rfl (fun w => by kernel_rfl)) ?_
      try simp only [Act.put, List.setIfInBounds_toArray, List.set_cons_zero, List.set_cons_succ]
      refine listSP (w' := wG) rfl rfl rfl (by rw [HWG.out]; exact exec_store1 24 s1S _ _ rfl (s + 2) 16 rfl _ _ rfl k16F f16F rfl) ?_
      go_upto_region 6 with fail
      refine wp_region_list ?_
      refine listVP (w' := wG) 22 (.pointer (some ⟨s + 2, 17, none⟩)) rfl rfl rfl (exec_fieldO 49 _ 2 (s + 2) 0 17 rfl rfl (fun w => by kernel_rfl)) ?_
      try simp only [Act.put, List.setIfInBounds_toArray, List.set_cons_zero, List.set_cons_succ]
      refine listVP (w' := wG) 23 (.slice ba bn bc) rfl rfl rfl (exec_load1 46 oneI _ rfl (s + 2) 17 rfl (.slice ba bn bc) (k17)) ?_
      try simp only [Act.put, List.setIfInBounds_toArray, List.set_cons_zero, List.set_cons_succ]
      refine listVP (w' := wG) 24 (.pointer (some ⟨q, 3, none⟩)) rfl rfl rfl (exec_fieldO 80 _ 3 q 0 3 rfl rfl (fun w => by kernel_rfl)) ?_
      try simp only [Act.put, List.setIfInBounds_toArray, List.set_cons_zero, List.set_cons_succ]
      refine listVP (w' := wG) 25 (.int .i64 x.buf) rfl rfl rfl (exec_load1 3 one1 _ rfl q 3 rfl (.int .i64 x.buf) (y3)) ?_
      try simp only [Act.put, List.setIfInBounds_toArray, List.set_cons_zero, List.set_cons_succ]
      refine listVP (w' := wE) 26 (.slice (some ⟨wG.heap.size, 0, none⟩) 1 1) rfl rfl rfl (by rw [HWE.out]; exact exec_bsI _ _ rfl rfl) ?_
      try simp only [Act.put, List.setIfInBounds_toArray, List.set_cons_zero, List.set_cons_succ]
      refine listVP (w' := wH) 27 (.slice b' (bn + 1) c2') rfl rfl rfl (exec_app _ _ 46 46 rfl (.slice ba bn bc) (.slice (some ⟨wG.heap.size, 0, none⟩) 1 1) rfl rfl 46 rfl RUN2.out) ?_
      try simp only [Act.put, List.setIfInBounds_toArray, List.set_cons_zero, List.set_cons_succ]
      refine listVP (w' := wH) 28 (.pointer (some ⟨s + 2, 17, none⟩)) rfl rfl rfl (exec_fieldO 49 _ 2 (s + 2) 0 17 rfl rfl (fun w => by kernel_rfl)) ?_
      try simp only [Act.put, List.setIfInBounds_toArray, List.set_cons_zero, List.set_cons_succ]
      refine listSP (w' := wI) rfl rfl rfl (by rw [HWI.out]; exact exec_store1 46 s1I _ _ rfl (s + 2) 17 rfl _ _ rfl k17H f17H rfl) ?_
      clear k16 y1 k16F f16F k17 y3 k17H f17H
      go_wp2
      go_roundw
      case rel => exact ⟨i + 1, by go_num, by omega, _, _, HJ'.out⟩
      case measure => simp [intOf]; omega
    · have ei : A.take i = A := by rw [List.take_of_length_le (by rw [← HN.out]; omega)]
      have iz : ¬ (i : Int) < (N : Int) := by omega
      obtain ⟨Z, hZ⟩ : ∃ Z, Z = whC hd hv dv bv := ⟨_, rfl⟩
      have LZ : Hid (Z.length = 18) := by rw [hZ]; exact rfl
      obtain ⟨τ, rB, rN⟩ := J.rows
      have OZ : Hid (∀ u ∈ Z, u.oneCell' = true) := by
        rw [hZ]
        obtain ⟨_, _, e1⟩ := rB.shape
        obtain ⟨_, _, e2⟩ := rN.shape
        exact whC_one hd hv _ _ hh (by rw [e1]; rfl) (by rw [e2]; rfl)
      have CZ : Hid (CellsAt wk (s + 2) 0 Z) := by rw [hZ]; exact J.c
      have CR : Hid (CellsAt wk (s + 1) 0 zWh) := J.c1
      have FR : Hid (∀ y, wk.frozen? ⟨s + 1, y, none⟩ = false) := J.f1
      obtain ⟨w9, hw9⟩ : ∃ w9, w9 = wk.setCells (s + 1) 0 Z := ⟨_, rfl⟩
      have b9 : But (Only (s + 1)) wk w9 := by rw [hw9]; exact But.cells (s + 1) Z 0 wk
      have C9 : Hid (CellsAt w9 (s + 1) 0 Z) := by rw [hw9]; exact CR.out.stored (by rw [LZ.out]; rfl)
      have hS := HS.out
      have z0 := J.b.size
      have FIN : Hid (Below w.heap.size w w9 ∧ ∃ τ : Nat → Nat, RowB (fun g => τ g = 1 ∧ w.heap.size ≤ g) w9 dv (A.flatMap (·.D)) ∧ RowN (fun g => τ g = 2 ∧ w.heap.size ≤ g) w9 bv (A.map (·.buf))) := by
        rw [ei] at rB rN
        exact ⟨J.b.trans (b9.below (by omega) (fun g hg e => by have e : g = s + 1 := e; omega)), τ, (rB.but b9 (fun g e e2 => by have e2 : g = s + 1 := e2; omega)).own (fun g _ e => ⟨e.1, by omega⟩), (rN.but b9 (fun g e e2 => by have e2 : g = s + 1 := e2; omega)).own (fun g _ e => ⟨e.1, by omega⟩)⟩
      have hw9' := hw9.symm
      have HZ := hide hZ
      clear J rB rN hw9 b9 hZ ei hS z0
      go_wp2_with (first | refine wpList_loadA rfl 49 18 aggWh sizWh _ rfl (s + 2) 0 rfl Z LZ.out CZ.out ?_ | (refine wpList_storeA rfl 49 18 sizWh _ _ rfl (s + 1) 0 rfl Z zWh rfl LZ.out rfl CR.out FR.out OZ.out ?_; intro _; rw [hw9']))
      refine bodyPost_ret (v := .agg Z.toArray) (results_A rfl _ _ (s + 1) _ rfl (run_loadVarA 49 18 aggWh sizWh (s + 1) 0 _ LZ.out C9.out)) rfl ?_
      exact ⟨dv, bv, by rw [HZ.out], FIN.out⟩

set_option maxRecDepth 100000 in
set_option maxHeartbeats 2000000 in
theorem drop1_any (w : World) (pe s pd : Nat) (ke kd : Kd) (he : CellsAt w pe 0 ke.cells) (hs : w.cell? ⟨s, 0, none⟩ = some (.pointer (some ⟨pd, 0, none⟩))) (hd : CellsAt w pd 0 kd.cells) :
    Calls Try.prog 49 #[.pointer (some ⟨pe, 0, none⟩), .pointer (some ⟨s, 0, none⟩)] w fun e w' => e = .returned (.bool (eqKd ke kd)) ∧ Below w.heap.size w w' := by
  have ls : s < w.heap.size := World.block_lt_of_cell? w _ hs
  have HE : Hid (∀ W, Below w.heap.size w W → CellsAt W pe 0 ke.cells) := fun W hW => he.later (he.lt (Nat.zero_lt_succ _)) hW
  have HD : Hid (∀ W, Below w.heap.size w W → CellsAt W pd 0 kd.cells) := fun W hW => hd.later (hd.lt (Nat.zero_lt_succ _)) hW
  have HS : Hid (∀ W, Below w.heap.size w W → W.cell? ⟨s, 0, none⟩ = some (.pointer (some ⟨pd, 0, none⟩))) := fun W hW => (hW.cell (p := ⟨s, 0, none⟩) ls).trans hs
  obtain ⟨q, hq⟩ : ∃ q, q = eqKd ke kd := ⟨_, rfl⟩
  obtain ⟨X, hX⟩ : ∃ X, X = ke.cells := ⟨_, rfl⟩
  obtain ⟨Y, hY⟩ : ∃ Y, Y = kd.cells := ⟨_, rfl⟩
  have LX : Hid (X.length = 10) := by rw [hX]; exact rfl
  have LY : Hid (Y.length = 10) := by rw [hY]; exact rfl
  have EQ : Hid (∀ (o : Oper) (ev : Operand → Value) (W : World) (x y : Operand) (t : TypeId), o.op = .binOp .eql 68 x y t → ev x = .agg X.toArray → ev y = .agg Y.toArray → (execOp ev o).run Try.prog W = .ok (.value (.bool q)) W) := fun o ev W x y t ho hx hy => by
    rw [hX] at hx
    rw [hY] at hy
    exact exec_eqKd x y t _ _ q ho hx hy hq.symm
  rw [← hX] at HE
  rw [← hY] at HD
  rw [← hq]
  have hB := Below.refl w.heap.size w
  clear he hs hd hX hY hq
  go_enter Try.func49, Try.ntmps49
  go_upto_region 1 with fail
  refine regionJ (fun _ => true) (fun W => Below w.heap.size w W) (by kernel_rfl) ?_
  refine takeJ (i := 0) (v := .pointer (some ⟨pe, 0, none⟩)) 4 rfl rfl (by kernel_rfl) (by kernel_rfl) (by kernel_rfl) (by kernel_rfl) (fun _ _ _ h => h) (.inl ⟨by rfl, fun W hW => exec_move _ _ rfl rfl⟩) ((later hB (later_drew w))) ?_
  try simp only [Act.put, List.setIfInBounds_toArray, List.set_cons_zero, List.set_cons_succ]
  refine takeJ (i := 1) (v := .pointer (some ⟨pe, 0, none⟩)) 5 rfl rfl (by kernel_rfl) (by kernel_rfl) (by kernel_rfl) (by kernel_rfl) (fun _ _ _ h => h) (.inl ⟨by rfl, fun W hW => exec_nil _ _ rfl rfl⟩) ((later hB (later_drew w))) ?_
  try simp only [Act.put, List.setIfInBounds_toArray, List.set_cons_zero, List.set_cons_succ]
  refine takeJ (i := 2) (v := .pointer (some ⟨pe, 0, none⟩)) 6 rfl rfl (by kernel_rfl) (by kernel_rfl) (by kernel_rfl) (by kernel_rfl) (fun _ _ _ h => h) (.inl ⟨by rfl, fun W hW => exec_fieldO 71 _ 0 pe 0 0 rfl rfl (fun w => by kernel_rfl)⟩) ((later hB (later_drew w))) ?_
  try simp only [Act.put, List.setIfInBounds_toArray, List.set_cons_zero, List.set_cons_succ]
  refine takeJ (i := 3) (v := .agg X.toArray) 7 rfl rfl (by kernel_rfl) (by kernel_rfl) (by kernel_rfl) (by kernel_rfl) (fun _ _ _ h => h) (.inl ⟨by rfl, fun W hW => exec_loadA 68 10 aggKd sizKd _ rfl pe 0 rfl X LX.out (HE.out W hW)⟩) ((later hB (later_drew w))) ?_
  try simp only [Act.put, List.setIfInBounds_toArray, List.set_cons_zero, List.set_cons_succ]
  refine takeJ (i := 4) (v := .pointer (some ⟨pd, 0, none⟩)) 8 rfl rfl (by kernel_rfl) (by kernel_rfl) (by kernel_rfl) (by kernel_rfl) (fun _ _ _ h => h) (.inl ⟨by rfl, fun W hW => exec_load1 65 onePd _ rfl s 0 rfl (.pointer (some ⟨pd, 0, none⟩)) (HS.out W hW)⟩) ((later hB (later_drew w))) ?_
  try simp only [Act.put, List.setIfInBounds_toArray, List.set_cons_zero, List.set_cons_succ]
  refine takeJ (i := 5) (v := .pointer (some ⟨pd, 0, none⟩)) 9 rfl rfl (by kernel_rfl) (by kernel_rfl) (by kernel_rfl) (by kernel_rfl) (fun _ _ _ h => h) (.inl ⟨by rfl, fun W hW => exec_nil _ _ rfl rfl⟩) ((later hB (later_drew w))) ?_
  try simp only [Act.put, List.setIfInBounds_toArray, List.set_cons_zero, List.set_cons_succ]
  refine takeJ (i := 6) (v := .pointer (some ⟨pd, 0, none⟩)) 10 rfl rfl (by kernel_rfl) (by kernel_rfl) (by kernel_rfl) (by kernel_rfl) (fun _ _ _ h => h) (.inl ⟨by rfl, fun W hW => exec_fieldO 71 _ 0 pd 0 0 rfl rfl (fun w => by kernel_rfl)⟩) ((later hB (later_drew w))) ?_
  try simp only [Act.put, List.setIfInBounds_toArray, List.set_cons_zero, List.set_cons_succ]
  refine takeJ (i := 7) (v := .agg Y.toArray) 11 rfl rfl (by kernel_rfl) (by kernel_rfl) (by kernel_rfl) (by kernel_rfl) (fun _ _ _ h => h) (.inl ⟨by rfl, fun W hW => exec_loadA 68 10 aggKd sizKd _ rfl pd 0 rfl Y LY.out (HD.out W hW)⟩) ((later hB (later_drew w))) ?_
  try simp only [Act.put, List.setIfInBounds_toArray, List.set_cons_zero, List.set_cons_succ]
  refine takeJ (i := 8) (v := .bool q) 12 rfl rfl (by kernel_rfl) (by kernel_rfl) (by kernel_rfl) (by kernel_rfl) (fun _ _ _ h => h) (.inl ⟨by rfl, fun W hW => EQ.out _ _ W _ _ _ rfl rfl rfl⟩) ((later hB (later_drew w))) ?_
  try simp only [Act.put, List.setIfInBounds_toArray, List.set_cons_zero, List.set_cons_succ]
  refine takeJ (i := 9) (v := .bool q) 3 rfl rfl (by kernel_rfl) (by kernel_rfl) (by kernel_rfl) (by kernel_rfl) (fun _ _ _ h => h) (.inl ⟨by rfl, fun W hW => exec_assign _ _ rfl rfl⟩) ((later hB (later_drew w))) ?_
  try simp only [Act.put, List.setIfInBounds_toArray, List.set_cons_zero, List.set_cons_succ]
  refine doneJ (by kernel_rfl) ?_ _
  have B2 := hide (later hB (later_drew w))
  clear hB
  go_wp2
  go_ret
  exact ⟨rfl, B2.out⟩
/-- the cells of the list of datagrams -/
def ptc (G : List (Nat × Gm)) (j : Nat) : List Value := match G[j]? with | some p => [.pointer (some ⟨p.1, 0, none⟩)] | none => [.pointer none]
theorem ptc_at {G : List (Nat × Gm)} {j : Nat} {p : Nat × Gm} (h : G[j]? = some p) : ptc G j = [.pointer (some ⟨p.1, 0, none⟩)] := by unfold ptc; rw [h]
theorem ptc_len (G : List (Nat × Gm)) (j : Nat) : (ptc G j).length = 1 := by unfold ptc; split <;> rfl
theorem ptc_one (G : List (Nat × Gm)) (j : Nat) : ∀ u ∈ ptc G j, u.oneCell' = true := by
  unfold ptc
  intro u hu
  split at hu <;> (simp only [List.mem_singleton] at hu; subst hu; rfl)
set_option maxRecDepth 100000 in
set_option maxHeartbeats 2000000 in
theorem dIndex_any {w : World} (g c s pd n j : Nat) (G : List (Nat × Gm)) (kd : Kd) (hn : G.length = n) (hs : w.cell? ⟨s, 0, none⟩ = some (.pointer (some ⟨pd, 0, none⟩))) (hd : CellsAt w pd 0 kd.cells)
    (hR : ∀ k p, G[k]? = some p → w.cell? ⟨g, k, none⟩ = some (.pointer (some ⟨p.1, 0, none⟩)) ∧ CellsAt w p.1 0 p.2.kd.cells) (hl : n ≤ 4) {x : Nat × Gm} (hx : G[j]? = some x) (he : x.2.kd = kd) (hne : ∀ q y, q ≠ j → G[q]? = some y → y.2.kd ≠ kd) :
    Calls Try.prog 53 #[.slice (some ⟨g, 0, none⟩) n c, .func (.func 49) #[] #[.pointer (some ⟨s, 0, none⟩)]] w fun e w' => e = .returned (.int .i64 (j : Int)) ∧ Below w.heap.size w w' := by
  have HR := hide hR
  have HS := hide hs
  have HD := hide hd
  have HNE := hide hne
  have HX := hide hx
  have HEE := hide he
  have HNN := hide hn
  have zl : (n : Int) ≤ 4 := by omega
  have hjn : j < n := hn ▸ (List.getElem?_eq_some_iff.1 hx).1
  clear hR hs hd hne hx he hn
  go_enter Try.func53, Try.ntmps53
  go_wp2
  go_loopw [8] (fun u wr => ∃ (k : Nat), u = .int .i64 (k : Int) ∧ k ≤ j ∧ Hid (Below w.heap.size w wr)) (fun u _ => n - (intOf u).toNat)
  case atStart => exact ⟨0, rfl, Nat.zero_le _, Below.refl _ _⟩
  case round =>
    obtain ⟨k, rfl, hk, hB⟩ := hrel
    have hkn : k < n := by omega
    have zk : (k : Int) < (n : Int) := by omega
    obtain ⟨y, hy⟩ : ∃ y, G[k]? = some y := ⟨_, List.getElem?_eq_getElem (by have := HNN.out; omega)⟩
    obtain ⟨cy, ky⟩ := HR.out k y hy
    have cy2 := (hB.out.cell (p := ⟨g, k, none⟩) (World.block_lt_of_cell? w _ cy)).trans cy
    have X := hide (drop1_any wr y.1 s pd y.2.kd kd (ky.later (ky.lt (Nat.zero_lt_succ _)) hB.out) ((hB.out.cell (p := ⟨s, 0, none⟩) (World.block_lt_of_cell? w _ HS.out)).trans HS.out) (HD.out.later (HD.out.lt (Nat.zero_lt_succ _)) hB.out))
    have HY := hide hy
    clear hy cy ky
    go_wp2_with fail
    refine X.out.mono ?_
    rintro e w3 ⟨rfl, hb3⟩
    have B3 := hide (hB.out.trans (hb3.mono hB.out.size))
    clear hb3 X cy2
    by_cases ekj : k = j
    · subst ekj
      have EE : eqKd y.2.kd kd = true := by
        have := HX.out
        rw [HY.out] at this
        cases this
        simp [eqKd, HEE.out]
      rw [EE]
      clear EE
      go_wp2
      go_ret
      exact ⟨rfl, B3.out⟩
    · have EE : eqKd y.2.kd kd = false := by
        have := HNE.out k y ekj HY.out
        simp [eqKd, this]
      rw [EE]
      have hkj : k < j := by omega
      clear EE ekj hk
      go_wp2
      go_roundw
      case rel => exact ⟨k + 1, by go_num, by omega, B3.out⟩
      case measure => simp [intOf]; omega

theorem s1Pd (w : World) : (Go.sizeOf 65).run Try.prog w = .ok 1 w := by kernel_rfl
/-- after kx have been looked at: those behind the j-th have moved up -/
def dlp (G : List (Nat × Gm)) (j kx q : Nat) : List Value := if q < j then ptc G q else if q + 1 < kx then ptc G (q + 1) else ptc G q
theorem dlp_len (G : List (Nat × Gm)) (j kx q : Nat) : (dlp G j kx q).length = 1 := by
  unfold dlp
  split
  · exact ptc_len _ _
  · split
    · exact ptc_len _ _
    · exact ptc_len _ _
theorem run_clearP {w : World} {g n cap : Nat} {c : Nat → List Value} (ty : TypeId) (h : RowF 1 (Only g) w (.slice (some ⟨g, 0, none⟩) (n + 1) cap) (n + 1) c) (hn : ∀ q, q < n + 1 → (c q).length = 1) (cc : Nat) :
    (Builtin.clear_ #[62] ty #[.slice (some ⟨g, n, none⟩) 1 cc]).run Try.prog w = .ok (.tuple #[]) (w.setCell ⟨g, n, none⟩ (.pointer none)) := by
  obtain ⟨g', e, d3, d2, d5, d6⟩ := h.at (by omega)
  cases e
  have hz : (Builtin.zeroCells (Value.pointer none).cells 1).toList = [.pointer none] := by kernel_rfl
  have hst := run_storeCells_cells (P := Try.prog) g n [.pointer none] 0 w (fun j hj => by
    have hj : j = 0 := by simpa using hj
    subst hj
    have := (d6 n (by omega)).is 0 (by rw [hn n (by omega)]; omega)
    rw [Nat.mul_one] at this
    exact this) (fun j hj => d5 _) (by decide)
  simp only [Nat.add_zero] at hst
  simp [Builtin.clear_, run_underlying Try.underlying62, hz, hst, setCell_one]
theorem RowF.set1 {O : Nat → Prop} {W : World} {v : Value} {len : Nat} {c : Nat → List Value} (h : RowF 1 O W v len c) (hn : ∀ q, q < len → (c q).length = 1) {q : Nat} (hq : q < len) (x : Value) {g : Nat} {m cap : Nat} (hv : v = .slice (some ⟨g, 0, none⟩) m cap) : RowF 1 O (W.setCell ⟨g, q, none⟩ x) v len (fun j => if j = q then [x] else c j) := by
  have := h.set hn hq [x] rfl hv
  rw [Nat.mul_one] at this
  rw [setCell_one]
  exact this
set_option maxRecDepth 100000 in
set_option maxHeartbeats 4000000 in
theorem dDelete_any {w : World} (g cap s pd n j : Nat) (G : List (Nat × Gm)) (kd : Kd) (hL : G.length = n + 1) (hn8 : n + 1 ≤ 4) (hs : w.cell? ⟨s, 0, none⟩ = some (.pointer (some ⟨pd, 0, none⟩))) (hd : CellsAt w pd 0 kd.cells) (hsg : s ≠ g) (hdg : pd ≠ g) (hR : RowF 1 (Only g) w (.slice (some ⟨g, 0, none⟩) (n + 1) cap) (n + 1) (ptc G)) (hk : ∀ (q : Nat) (p : Nat × Gm), G[q]? = some p → p.1 ≠ g ∧ CellsAt w p.1 0 p.2.kd.cells)
    (x : Nat × Gm) (hx : G[j]? = some x) (he : x.2.kd = kd) (hne : ∀ q y, q ≠ j → G[q]? = some y → y.2.kd ≠ kd) :
    Calls Try.prog 48 #[.slice (some ⟨g, 0, none⟩) (n + 1) cap, .func (.func 49) #[] #[.pointer (some ⟨s, 0, none⟩)]] w fun e w' => e = .returned (.slice (some ⟨g, 0, none⟩) n cap) ∧ RowF 1 (Only g) w' (.slice (some ⟨g, 0, none⟩) n cap) n (fun q => if q < j then ptc G q else ptc G (q + 1)) ∧ But (Only g) w w' := by
  have hj : j < n + 1 := hL ▸ (List.getElem?_eq_some_iff.1 hx).1
  have hcap : n + 1 ≤ cap ∧ cap ≤ maxLen := by
    obtain ⟨a, cap', e, c2, c3, _⟩ := hR
    simp only [Value.slice.injEq] at e
    omega
  obtain ⟨g', e, hg, _, hfz, hcs⟩ := hR.at (by omega)
  cases e
  have IF := hide (dIndex_any (w := w) g cap s pd (n + 1) j G kd hL hs hd (fun k y hy => ⟨by
    have := hcs k (by have := (List.getElem?_eq_some_iff.1 hy).1; omega) 0 (.pointer (some ⟨y.1, 0, none⟩)) (by rw [ptc_at hy]; rfl)
    rw [Nat.mul_one, Nat.add_zero] at this
    exact this, (hk k y hy).2⟩) (by omega) hx he hne)
  have zc : ((n : Int) + 1) ≤ cap := by omega
  have zc2 : (cap : Int) ≤ 9223372036854775807 := by have := hcap.2; unfold maxLen at this; omega
  have zc3 : ¬ cap = n := by omega
  have zj : (j : Int) ≤ n := by omega
  have znj : ((j : Int) == -1) = false := by simp
  have zn : (n : Int) ≤ 4 := by omega
  have HR := hide hR
  have HS := hide hs
  have HD := hide hd
  have HSg := hide hsg
  have HDg := hide hdg
  have HLn := hide hL
  have HNE := hide hne
  have HK := hide hk
  clear hR hs hd hcs hfz hL hne hx he hcap hsg hdg hk
  go_enter Try.func48, Try.ntmps48
  go_wp2_with fail
  refine IF.out.mono ?_
  rintro _ w1 ⟨rfl, hb1⟩
  have B1 : Hid (But (Only g) w w1) := But.of_below hb1
  have R1 : Hid (RowF 1 (Only g) w1 (.slice (some ⟨g, 0, none⟩) (n + 1) cap) (n + 1) (dlp G j (j + 1))) := (HR.out.later hb1).cong (fun q hq => by
    unfold dlp
    split
    · rfl
    · rw [if_neg (by omega)])
  clear hb1 IF
  go_wp2
  go_loopw [5, 6] (fun v5 v6 wr => ∃ p : Nat, v6 = .int .i64 ((p : Int) + 1) ∧ v5 = .int .i64 (p : Int) ∧ j ≤ p ∧ p ≤ n ∧ Hid (But (Only g) w wr) ∧ Hid (RowF 1 (Only g) wr (.slice (some ⟨g, 0, none⟩) (n + 1) cap) (n + 1) (dlp G j (p + 1)))) (fun _ v6 _ => n + 1 - (intOf v6).toNat)
  case atStart => exact ⟨j, rfl, rfl, by omega, by omega, B1.out, R1.out⟩
  case round =>
    obtain ⟨p, rfl, rfl, hk1, hk2, HB, HRr⟩ := hrel
    by_cases hlt : p < n
    · have zp : (p : Int) < n := by omega
      have zp1 : (p : Int) + 1 < (n : Int) + 1 := by omega
      have zp2 : (p : Int) < (n : Int) + 1 := by omega
      have zp0 : (0 : Int) ≤ (p : Int) + 1 := by omega
      obtain ⟨y, hy⟩ : ∃ y, G[p + 1]? = some y := ⟨_, List.getElem?_eq_getElem (by have := HLn.out; omega)⟩
      have EY : eqKd y.2.kd kd = false := by
        have := HNE.out (p + 1) y (by omega) hy
        simp [eqKd, this]
      obtain ⟨g', e, hg2, _, hfz, hcs⟩ := HRr.out.at (by omega)
      cases e
      have cy : wr.cell? ⟨g, p + 1, none⟩ = some (.pointer (some ⟨y.1, 0, none⟩)) := by
        have := hcs (p + 1) (by omega) 0 (.pointer (some ⟨y.1, 0, none⟩)) (by unfold dlp; rw [if_neg (by omega), if_neg (by omega), ptc_at hy]; rfl)
        rw [Nat.mul_one, Nat.add_zero] at this
        exact this
      have ls : s < w.heap.size := World.block_lt_of_cell? w _ HS.out
      have ky := HK.out (p + 1) y hy
      have X := drop1_any wr y.1 s pd y.2.kd kd (ky.2.but (ky.2.lt (Nat.zero_lt_succ _)) HB.out ky.1) ((HB.out.cell (p := ⟨s, 0, none⟩) ls HSg.out).trans HS.out) (HD.out.but (HD.out.lt (Nat.zero_lt_succ _)) HB.out HDg.out)
      rw [EY] at X
      have HX := hide X
      have HY := hide hy
      clear hcs hfz hy hg2 X EY ls ky
      go_wp2_with fail
      refine HX.out.mono ?_
      rintro _ w3 ⟨rfl, hb3⟩
      have R3 := HRr.out.later hb3
      have RS := R3.set1 (fun q _ => dlp_len G j (p + 1) q) (q := p) (by omega) (.pointer (some ⟨y.1, 0, none⟩)) rfl
      obtain ⟨g', e, hg3, _, hfz, hcs⟩ := R3.at (by omega)
      cases e
      have h1 : (w3.cell? ⟨g, p, none⟩).isSome = true := by
        have := (hcs p (by omega)).is 0 (by rw [dlp_len]; omega)
        rw [Nat.mul_one, Nat.add_zero] at this
        exact this
      obtain ⟨u, hu⟩ := Option.isSome_iff_exists.1 h1
      have fu := hfz p
      have bS : But (Only g) w3 (w3.setCell ⟨g, p, none⟩ (.pointer (some ⟨y.1, 0, none⟩))) := (But.refl (Only g) w3).cellb (b := g) rfl p _
      have FIN : Hid (But (Only g) w (w3.setCell ⟨g, p, none⟩ (.pointer (some ⟨y.1, 0, none⟩))) ∧ RowF 1 (Only g) (w3.setCell ⟨g, p, none⟩ (.pointer (some ⟨y.1, 0, none⟩))) (.slice (some ⟨g, 0, none⟩) (n + 1) cap) (n + 1) (dlp G j (p + 1 + 1))) := by
        refine ⟨(HB.out.trans (But.of_below (K := Only g) hb3)).trans bS, RS.cong (fun q hq => ?_)⟩
        by_cases e : q = p
        · subst e
          rw [if_pos rfl]
          unfold dlp
          rw [if_neg (by omega), if_pos (by omega), ptc_at HY.out]
        · rw [if_neg e]
          unfold dlp
          by_cases e2 : q < j
          · rw [if_pos e2, if_pos e2]
          · rw [if_neg e2, if_neg e2]
            by_cases e3 : q + 1 < p + 1
            · rw [if_pos e3, if_pos (by omega)]
            · rw [if_neg e3, if_neg (by omega)]
      obtain ⟨w4, hw4⟩ : ∃ w4, w4 = w3.setCell ⟨g, p, none⟩ (.pointer (some ⟨y.1, 0, none⟩)) := ⟨_, rfl⟩
      rw [← hw4] at FIN
      have hw4' := hw4.symm
      clear hb3 HX R3 RS hcs hfz hg3 h1 bS hw4 cy
      go_wp2
      go_roundw
      case rel => exact ⟨p + 1, val_int (by omega), val_int (by omega), by omega, by omega, FIN.out⟩
      case measure => simp [intOf]; omega
    · have ep : p = n := by omega
      have zp1 : ¬ (p : Int) + 1 < (n : Int) + 1 := by omega
      subst ep
      have RC := hide (fun cc => run_clearP (w := wr) 0 HRr.out (fun q hq => dlp_len _ _ _ _) cc)
      have FIN : Hid (RowF 1 (Only g) (wr.setCell ⟨g, p, none⟩ (.pointer none)) (.slice (some ⟨g, 0, none⟩) p cap) p (fun q => if q < j then ptc G q else ptc G (q + 1)) ∧ But (Only g) w (wr.setCell ⟨g, p, none⟩ (.pointer none))) := by
        have bS : But (Only g) wr (wr.setCell ⟨g, p, none⟩ (.pointer none)) := (But.refl (Only g) wr).cellb (b := g) rfl p _
        obtain ⟨a, cap', e, c2, c3, c4, c5⟩ := HRr.out
        simp only [Value.slice.injEq] at e
        obtain ⟨rfl, _, rfl⟩ := e
        refine ⟨⟨_, _, rfl, by omega, c3, c4, fun ad e => ?_⟩, HB.out.trans bS⟩
        cases e
        obtain ⟨g', e', d2, d3, d4, d5, d6⟩ := c5 _ rfl
        cases e'
        refine ⟨g, rfl, d2, Nat.lt_of_lt_of_le d3 bS.size, fun q hq => by rw [setCell_one]; exact is_setCells (fun i hi => d4 _ (by have hi : i < 1 := hi; omega)) q (d4 q hq), fun q => by rw [World.frozen?_setCell]; exact d5 q, fun q hq => ?_⟩
        have h6 := d6 q (by omega)
        have e6 : dlp G j (p + 1) q = if q < j then ptc G q else ptc G (q + 1) := by
          unfold dlp
          split
          · rfl
          · rw [if_pos (by omega)]
        rw [e6] at h6
        rw [setCell_one]
        refine h6.other (.inl ?_)
        have l1 : (if q < j then ptc G q else ptc G (q + 1)).length = 1 := by
          split
          · exact ptc_len _ _
          · exact ptc_len _ _
        rw [l1]
        omega
      obtain ⟨wz, hwz⟩ : ∃ wz, wz = wr.setCell ⟨g, p, none⟩ (.pointer none) := ⟨_, rfl⟩
      have RC' : Hid (∀ cc, (Builtin.clear_ #[62] 0 #[.slice (some ⟨g, p, none⟩) 1 cc]).run Try.prog wr = .ok (.tuple #[]) wz) := fun cc => by rw [hwz]; exact RC.out cc
      rw [← hwz] at FIN
      clear RC hwz
      have RCC := RC'.out
      go_wp2
      go_ret
      exact ⟨rfl, FIN.out⟩

theorem s1Ps (w : World) : (Go.sizeOf 62).run Try.prog w = .ok 1 w := by kernel_rfl
section
variable {ρ ρ' : Nat → Nat × Nat} {W W' : World} {b : Nat} {G G' : List (Nat × Gm)}
/-- the same blocks are whose they were -/
theorem FrAt.rerole (h : FrAt ρ W b G) (he : ∀ g, g < W.heap.size → ρ' g = ρ g) : FrAt ρ' W b G := by
  have hl := h.lt
  obtain ⟨v, h1, h2⟩ := h.row
  refine ⟨⟨v, h1, h2.own (fun g hg e => by rw [he g hg]; exact e)⟩, h.fz, by rw [he b hl]; exact h.me, fun p hp => ?_, h.nd, h.kn, h.len⟩
  obtain ⟨p1, p2, p3⟩ := h.gm p hp
  exact ⟨by rw [he p.1 p3.lt]; exact p1, p2, p3.own (fun g hg e => by rw [he g hg]; exact e) (fun g hg e => by rw [he g hg]; exact e)⟩
/-- a datagram stays while the list turns -/
theorem FrAt.keep (h : FrAt ρ W b G) (hb : But (fun g => g = b ∨ ρ g = (b, 3)) W W') {p : Nat × Gm} (hp : p ∈ G) : GmAt W' p.1 (fun g => ρ g = (p.1, 1)) (fun g => ρ g = (p.1, 2)) p.2 := by
  obtain ⟨p1, p2, p3⟩ := h.gm p hp
  have hm := h.me
  refine p3.but hb (fun g e e2 => ?_)
  rcases e with rfl | e | e
  · rcases e2 with e2 | e2
    · exact p2 e2
    · rw [p1] at e2; simp at e2
  · rcases e2 with e2 | e2
    · subst e2; rw [hm] at e; simp at e
    · rw [e] at e2; simp at e2
  · rcases e2 with e2 | e2
    · subst e2; rw [hm] at e; simp at e
    · rw [e] at e2; simp at e2
theorem FrAt.relist (h : FrAt ρ W b G) (hb : But (fun g => g = b ∨ ρ g = (b, 3)) W W') (hG : G'.Sublist G) (hrow : ∃ v, W'.cell? ⟨b, 0, none⟩ = some v ∧ RowF 1 (fun g => ρ g = (b, 3)) W' v G'.length (ptc G')) (hfz : W'.frozen? ⟨b, 0, none⟩ = false) : FrAt ρ W' b G' :=
  ⟨hrow, hfz, h.me, fun p hp => ⟨(h.gm p (hG.subset hp)).1, (h.gm p (hG.subset hp)).2.1, h.keep hb (hG.subset hp)⟩, (hG.map _).nodup h.nd, (hG.map _).nodup h.kn, Nat.le_trans hG.length_le h.len⟩
theorem FrAt.list (h : FrAt ρ W b G) : ∃ v, W.cell? ⟨b, 0, none⟩ = some v ∧ RowF 1 (fun g => ρ g = (b, 3)) W v G.length (ptc G) := h.row
theorem FrAt.uniq (h : FrAt ρ W b G) {i j : Nat} {p q : Nat × Gm} (hi : G[i]? = some p) (hj : G[j]? = some q) (hne : i ≠ j) : p.2.kd ≠ q.2.kd := by
  intro e
  have h1 : (G.map (·.2.kd))[i]? = some p.2.kd := by rw [List.getElem?_map, hi]; rfl
  have h2 : (G.map (·.2.kd))[j]? = some p.2.kd := by rw [List.getElem?_map, hj, e]; rfl
  have hli := (List.getElem?_eq_some_iff.1 h1).1
  have hlj := (List.getElem?_eq_some_iff.1 h2).1
  have hd := List.pairwise_iff_getElem.1 h.kn
  have g1 := (List.getElem?_eq_some_iff.1 h1).2
  have g2 := (List.getElem?_eq_some_iff.1 h2).2
  rcases Nat.lt_or_gt_of_ne hne with hl | hl
  · exact hd i j hli hlj hl (g1.trans g2.symm)
  · exact hd j i hlj hli hl (g2.trans g1.symm)
end
set_option maxRecDepth 100000 in
set_option maxHeartbeats 2000000 in
theorem drop_any {ρ : Nat → Nat × Nat} {w : World} {b : Nat} {G : List (Nat × Gm)} (h : FrAt ρ w b G) {j : Nat} {p : Nat × Gm} (hp : G[j]? = some p) : Calls Try.prog 37 #[.pointer (some ⟨b, 0, none⟩), .pointer (some ⟨p.1, 0, none⟩)] w fun e w' => e = .returned (.tuple #[]) ∧ FrAt ρ w' b (G.eraseIdx j) ∧ But (fun g => g = b ∨ ρ g = (b, 3)) w w' := by
  have hj := (List.getElem?_eq_some_iff.1 hp).1
  obtain ⟨n, hn⟩ : ∃ n, G.length = n + 1 := ⟨G.length - 1, by omega⟩
  have h4 := h.len
  obtain ⟨s, hs⟩ : ∃ s, s = w.heap.size := ⟨_, rfl⟩
  obtain ⟨pd, hpd⟩ : ∃ pd, pd = p.1 := ⟨_, rfl⟩
  rw [← hpd]
  obtain ⟨w1, hw1⟩ : ∃ w1, w1 = w.alloc (.cells #[.pointer (some ⟨pd, 0, none⟩)] 65) := ⟨_, rfl⟩
  have b1 : Below w.heap.size w w1 := by rw [hw1]; exact later_alloc _ _
  have c1 : w1.cell? ⟨s, 0, none⟩ = some (.pointer (some ⟨pd, 0, none⟩)) := by rw [hw1, hs]; exact CellsAt.new w [_] _ 0 _ rfl
  have H1 := h.later b1
  obtain ⟨v, cv, rv⟩ := H1.list
  obtain ⟨va, vc, rfl⟩ := rv.shape
  obtain ⟨g, rfl, hg, og, _, _⟩ := rv.at (by omega)
  rw [hn] at cv rv
  have rv1 : RowF 1 (Only g) w1 (.slice (some ⟨g, 0, none⟩) (n + 1) vc) (n + 1) (ptc G) := by
    obtain ⟨a, cap, e, c2, c3, c4, c5⟩ := rv
    refine ⟨a, cap, e, c2, c3, c4, fun ad ea => ?_⟩
    obtain ⟨g', d1, d2, rest⟩ := c5 ad ea
    simp only [Value.slice.injEq] at e
    rw [← e.1] at ea
    cases ea
    cases d1
    exact ⟨g, rfl, rfl, rest⟩
  have gsz : g < w.heap.size := by
    obtain ⟨v0, cv0, rv0⟩ := h.list
    have e0 := (b1.cell (p := ⟨b, 0, none⟩) h.lt).trans cv0
    rw [cv] at e0
    cases e0
    rw [hn] at rv0
    obtain ⟨g', e', hg', _⟩ := rv0.at (by omega)
    cases e'
    exact hg'
  have kk : ∀ (q : Nat) (x : Nat × Gm), G[q]? = some x → x.1 ≠ g ∧ CellsAt w1 x.1 0 x.2.kd.cells := fun q x hx => by
    obtain ⟨p1, p2, p3⟩ := H1.gm x (List.mem_of_getElem? hx)
    exact ⟨fun e => by rw [e, og] at p1; simp at p1, p3.kd⟩
  have DEL := dDelete_any g vc s pd n j G p.2.kd hn (by omega) c1 (by rw [hpd]; exact (kk j p hp).2) (by omega) (by rw [hpd]; exact (kk j p hp).1) rv1 kk p hp rfl (fun q y hq hy e => h.uniq hy hp hq e)
  have HDEL := hide DEL
  have HB1 := hide b1
  have HH := hide h
  have HH1 := hide H1
  have HS := hide hs
  have HN := hide hn
  have HG := hide og
  have HGS := hide gsz
  have f1 : w1.frozen? ⟨b, 0, none⟩ = false := H1.fz
  have HF := hide f1
  have CV := hide cv
  have hw1' := hw1.symm
  have hs' := hs.symm
  have HP := hide hp
  have HBL := hide h.lt
  have HGB : Hid (g ≠ b) := fun e => by rw [e, h.me] at og; simp at og
  clear h hw1 b1 c1 H1 rv rv1 hs hn og gsz kk DEL f1 h4 hj hpd hp
  go_enter Try.func37, Try.ntmps37
  go_wp2_with fail
  clear cv hw1' hs'
  refine HDEL.out.mono ?_
  rintro _ w2 ⟨rfl, r2, b2⟩
  have lb : b < w1.heap.size := HH1.out.lt
  have c2 : w2.cell? ⟨b, 0, none⟩ = some (.slice (some ⟨g, 0, none⟩) (n + 1) vc) := (b2.cell (p := ⟨b, 0, none⟩) lb (fun e => HGB.out e.symm)).trans CV.out
  have f2 : w2.frozen? ⟨b, 0, none⟩ = false := (b2.frozen (p := ⟨b, 0, none⟩) lb (fun e => HGB.out e.symm)).trans HF.out
  obtain ⟨w3, hw3⟩ : ∃ w3, w3 = w2.setCell ⟨b, 0, none⟩ (.slice (some ⟨g, 0, none⟩) n vc) := ⟨_, rfl⟩
  have b3 : But (Only b) w2 w3 := by rw [hw3]; exact (But.refl (Only b) w2).cellb (b := b) rfl 0 _
  have FIN : Hid (FrAt ρ w3 b (G.eraseIdx j) ∧ But (fun g => g = b ∨ ρ g = (b, 3)) w w3) := by
    have bb : But (fun g => g = b ∨ ρ g = (b, 3)) w1 w3 := (b2.mono (fun q e => .inr (by have e : q = g := e; rw [e]; exact HG.out))).trans (b3.mono (fun q e => .inl e))
    have bw : But (fun g => g = b ∨ ρ g = (b, 3)) w w3 := (But.of_below HB1.out).trans bb
    refine ⟨HH.out.relist bw (List.eraseIdx_sublist _ _) ⟨_, by rw [hw3]; exact World.cell?_setCell_same _ _ _ c2, ?_⟩ (by rw [hw3, World.frozen?_setCell]; exact f2), bw⟩
    have el : (G.eraseIdx j).length = n := by rw [List.length_eraseIdx_of_lt (List.getElem?_eq_some_iff.1 HP.out).1, HN.out]; rfl
    rw [el]
    refine ((r2.but b3 (fun q e e2 => HGB.out (by have e : q = g := e; have e2 : q = b := e2; omega))).own (fun q _ e => by have e : q = g := e; rw [e]; exact HG.out)).cong (fun q hq => ?_)
    unfold ptc
    rw [List.getElem?_eraseIdx]
    by_cases e : q < j
    · rw [if_pos e, if_pos e]
    · rw [if_neg e, if_neg e]
  have hw3' := hw3.symm
  clear r2 b2 b3 hw3 HDEL
  go_wp2
  go_end0
  exact ⟨rfl, FIN.out⟩
end Go.Proofs.Ytgempelfamjabaa
