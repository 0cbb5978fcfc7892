
/-
  Package core: the steps, as a list of functions; Judge.
-/
import Derived.Test.YtgdcdgofahhfdaaO7
namespace Go.Proofs.Ytgdcdgofahhfdaa
open Go.RowKit Go.Shelf

def fnv (F : FuncId) (b : Nat) : Value := .func (.func F) #[.pointer (some ⟨b, 0, none⟩)] #[]
section
variable {w : World} {b : Nat} {c : Ct} {s : Sg} {gv dv : Value} {v : Vd}
theorem steps_sent (J : JgAt w b c s gv dv v) (h : c.st = 1) : Calls Try.prog 24 #[.pointer (some ⟨b, 0, none⟩)] w fun e w' => ∃ g, e = .returned (.slice (some ⟨g, 0, none⟩) 3 3) ∧ CellsAt w' g 0 [fnv 36 b, fnv 37 b, fnv 38 b] ∧ g < w'.heap.size ∧ w.heap.size ≤ g ∧ Below w.heap.size w w' := by
  have x0 : w.cell? ⟨b, 0, none⟩ = some (.int .i64 c.st) := J.cc 0 _ rfl
  clear J
  go_enter Try.func24, Try.ntmps24
  go_wp2
  go_ret
  exact ⟨_, rfl, CellsAt.new w _ _, by simp, Nat.le_refl _, later_alloc _ _⟩
theorem steps_other (J : JgAt w b c s gv dv v) (h : c.st ≠ 1) : Calls Try.prog 24 #[.pointer (some ⟨b, 0, none⟩)] w fun e w' => ∃ g, e = .returned (.slice (some ⟨g, 0, none⟩) 7 7) ∧ CellsAt w' g 0 [fnv 39 b, fnv 40 b, fnv 41 b, fnv 42 b, fnv 43 b, fnv 44 b, fnv 45 b] ∧ g < w'.heap.size ∧ w.heap.size ≤ g ∧ Below w.heap.size w w' := by
  have x0 : w.cell? ⟨b, 0, none⟩ = some (.int .i64 c.st) := J.cc 0 _ rfl
  clear J
  go_enter Try.func24, Try.ntmps24
  go_wp2
  go_ret
  exact ⟨_, rfl, CellsAt.new w _ _, by simp, Nat.le_refl _, later_alloc _ _⟩
end
/-- the steps, one behind the other -/
def runS (s : Sg) : List (Ct → Sg → Vd → Bool × Ct × Vd) → Ct → Vd → Ct × Vd
  | [], c, v => (c, v)
  | f :: fs, c, v => if (f c s v).1 = true then runS s fs (f c s v).2.1 (f c s v).2.2 else ((f c s v).2.1, (f c s v).2.2)
def FS3 : List (Ct → Sg → Vd → Bool × Ct × Vd) := [fStray, fRefuse, fMeets]
def FS7 : List (Ct → Sg → Vd → Bool × Ct × Vd) := [fAccept, fReset, fSyn, fAckS, fHears, fThrough, fRecv]
def zVd : Vd := ⟨zCt, 0, 0, false, false, 0, 0, false⟩
def judgeR (c : Ct) (s : Sg) : Ct × Vd := runS s (if c.st = 1 then FS3 else FS7) c zVd
/-- what a segment means -/
def judge (c : Ct) (s : Sg) : Vd := { (judgeR c s).2 with nx := (judgeR c s).1 }
def jgL (c : Ct) (s : Sg) (gv dv : Value) (v : Vd) : List Value := c.cells ++ (s.cells gv dv ++ v.cells)
theorem jgL_len (c : Ct) (s : Sg) (gv dv : Value) (v : Vd) : (jgL c s gv dv v).length = 39 := rfl
theorem jgL_one (c : Ct) (s : Sg) (gv dv : Value) (v : Vd) (hg : gv.oneCell' = true) (hd : dv.oneCell' = true) : ∀ u ∈ jgL c s gv dv v, u.oneCell' = true := by
  intro u hu
  unfold jgL at hu
  rcases List.mem_append.1 hu with h | h
  · exact ct_one c u h
  · rcases List.mem_append.1 h with h | h
    · simp only [Sg.cells, List.mem_cons, List.not_mem_nil, or_false] at h
      rcases h with rfl | rfl | rfl | rfl | rfl | rfl | rfl | rfl | rfl | rfl
      all_goals first | rfl | exact hg | exact hd
    · exact vd_one v u h
def zSg0 : Sg := ⟨0, 0, 0, 0, 0, 0, 0, false, [], []⟩
def zJ : List Value := jgL zCt zSg0 (.slice none 0 0) (.slice none 0 0) zVd
theorem exec_bldJ {o : Oper} {w : World} {ev : Operand → Value} (x0 x1 : Operand) (c : Ct) (s : Sg) (gv dv : Value) (ho : o.op = .build 50 #[(0, x0), (1, x1)]) (h0 : ev x0 = .agg c.cells.toArray) (h1 : ev x1 = .agg (s.cells gv dv).toArray) : (execOp ev o).run Try.prog w = .ok (.value (.agg (jgL c s gv dv zVd).toArray)) w := by
  unfold execOp
  rw [ho]
  simp only [List.map_toArray, List.map_cons, List.map_nil, h0, h1]
  kernel_rfl
theorem JgAt.ofL {W : World} {b : Nat} {c : Ct} {s : Sg} {gv dv : Value} {v : Vd} (h : CellsAt W b 0 (jgL c s gv dv v)) (f : ∀ y, W.frozen? ⟨b, y, none⟩ = false) : JgAt W b c s gv dv v := by
  have hl := h.lt (by rw [jgL_len]; decide)
  unfold jgL at h
  obtain ⟨h1, h2⟩ := CellsAt.append.1 h
  obtain ⟨h2, h3⟩ := CellsAt.append.1 h2
  exact ⟨h1, h2, h3, f, hl⟩
section
variable {s : Sg} {gv : Value} {da : Option Addr} {dc : Nat}
set_option maxRecDepth 100000 in
set_option maxHeartbeats 16000000 in
theorem Judge_any (c : Ct) (hg : gv.oneCell' = true) (hl : s.dat.length ≤ 1125899906842624) (w : World) : Calls Try.prog 10 #[.agg c.cells.toArray, .agg (s.cells gv (.slice da s.dat.length dc)).toArray] w fun e w' => e = .returned (.agg (judge c s).cells.toArray) ∧ Below w.heap.size w w' := by
  obtain ⟨w1, s1, hs1, hw1, c1, f1, b1, l1⟩ := boxC w c
  obtain ⟨w2, s2, hs2, hw2, c2, f2, b2, l2⟩ := boxS w1 s gv (.slice da s.dat.length dc)
  obtain ⟨Z3, hZ3⟩ : ∃ Z, Z = zVd.cells := ⟨_, rfl⟩
  obtain ⟨w3, hw3⟩ : ∃ w3, w3 = w2.alloc (.cells Z3.toArray 32) := ⟨_, rfl⟩
  obtain ⟨s3, hs3⟩ : ∃ s3, s3 = w2.heap.size := ⟨_, rfl⟩
  obtain ⟨b, hb⟩ : ∃ b, b = w3.heap.size := ⟨_, rfl⟩
  obtain ⟨w4a, hw4a⟩ : ∃ w4, w4 = w3.alloc (.cells zJ.toArray 50) := ⟨_, rfl⟩
  obtain ⟨J0, hJ0⟩ : ∃ J, J = jgL c s gv (.slice da s.dat.length dc) zVd := ⟨_, rfl⟩
  obtain ⟨w4, hw4⟩ : ∃ w4, w4 = w4a.setCells b 0 J0 := ⟨_, rfl⟩
  have LZ3 : Hid (Z3.length = 18) := by rw [hZ3]; exact rfl
  have LJ0 : Hid (J0.length = 39) := by rw [hJ0]; exact rfl
  have OJ0 : Hid (∀ u ∈ J0, u.oneCell' = true) := by rw [hJ0]; exact jgL_one _ _ _ _ _ hg rfl
  have b3 : Below w2.heap.size w2 w3 := by rw [hw3]; exact later_alloc _ _
  have c3 : CellsAt w3 s3 0 Z3 := by rw [hw3, hs3]; exact CellsAt.new w2 _ _
  have l3 : s3 < w3.heap.size := c3.lt (by rw [LZ3.out]; decide)
  have f3 : ∀ y, w3.frozen? ⟨s3, y, none⟩ = false := fun y => by rw [hw3, hs3]; exact frozen_new _ _ _ _
  have b4a : Below w3.heap.size w3 w4a := by rw [hw4a]; exact later_alloc _ _
  have c4a : CellsAt w4a b 0 zJ := by rw [hw4a, hb]; exact CellsAt.new w3 _ _
  have f4a : ∀ y, w4a.frozen? ⟨b, y, none⟩ = false := fun y => by rw [hw4a, hb]; exact frozen_new _ _ _ _
  have n34 : s3 ≠ b := by omega
  have c4 : CellsAt w4 b 0 J0 := by rw [hw4]; exact c4a.stored (by rw [LJ0.out]; rfl)
  have f4 : ∀ y, w4.frozen? ⟨b, y, none⟩ = false := fun y => by rw [hw4, World.frozen?_setCells]; exact f4a y
  have J4 : Hid (JgAt w4 b c s gv (.slice da s.dat.length dc) zVd) := by rw [hJ0] at c4; exact JgAt.ofL c4 f4
  have b14 : Below w.heap.size w w3 := later (later b1 b2) b3
  have b24 : Below w.heap.size w w4a := later b14 b4a
  have bo4 : But (Only b) w4a w4 := by rw [hw4]; exact But.cells b J0 0 w4a
  have HB4 : Hid (Below w.heap.size w w4) := b24.trans (bo4.below b24.size (fun g hg e => by have e : g = b := e; have := b14.size; omega))
  have S34 : Hid (w.heap.size ≤ s3 ∧ w.heap.size ≤ b) := ⟨by have h := (later b1 b2).size; omega, by have := b14.size; omega⟩
  have c34 : CellsAt w4a s3 0 Z3 := c3.later l3 b4a
  have l34 : s3 < w4a.heap.size := Nat.lt_of_lt_of_le l3 b4a.size
  have C3 : Hid (CellsAt w4 s3 0 Z3) := c34.but l34 bo4 n34
  have L3 : Hid (s3 < w4.heap.size) := Nat.lt_of_lt_of_le l34 bo4.size
  have F3 : Hid (∀ y, w4.frozen? ⟨s3, y, none⟩ = false) := fun y => by rw [hw4, World.frozen?_setCells]; exact (b4a.frozen (p := ⟨s3, y, none⟩) l3).trans (f3 y)
  have N34 : Hid (s3 ≠ b) := n34
  obtain ⟨X, hX⟩ : ∃ X, X = c.cells := ⟨_, rfl⟩
  obtain ⟨Y, hY⟩ : ∃ Y, Y = s.cells gv (.slice da s.dat.length dc) := ⟨_, rfl⟩
  have LX : Hid (X.length = 11) := by rw [hX]; exact rfl
  have LY : Hid (Y.length = 10) := by rw [hY]; exact rfl
  have C1 : Hid (CellsAt w3 s1 0 X) := by rw [hX]; exact c1.later l1 (later b2 b3)
  have C2 : Hid (CellsAt w3 s2 0 Y) := by rw [hY]; exact c2.later l2 b3
  have BLD : Hid (∀ (o : Oper) (ev : Operand → Value) (W : World) (x0 x1 : Operand), o.op = .build 50 #[(0, x0), (1, x1)] → ev x0 = .agg X.toArray → ev x1 = .agg Y.toArray → (execOp ev o).run Try.prog W = .ok (.value (.agg J0.toArray)) W) := fun o ev W x0 x1 ho h0 h1 => by
    rw [hX] at h0
    rw [hY] at h1
    rw [hJ0]
    exact exec_bldJ x0 x1 c s gv _ ho h0 h1
  rw [show (Value.agg c.cells.toArray) = .agg #[.int .i64 c.st, .int .u32 c.iss, .int .u32 c.una, .int .u32 c.nxt, .bool c.fs, .int .i64 c.wnd, .int .u32 c.wl1, .int .u32 c.wl2, .int .u32 c.irs, .int .u32 c.rcv, .int .u32 c.adv] from rfl]
  rw [show (Value.agg (s.cells gv (.slice da s.dat.length dc)).toArray) = .agg #[.int .i64 s.src, .int .i64 s.dst, .int .u32 s.seq, .int .u32 s.ack, .int .i64 s.flg, .int .i64 s.wnd, .int .i64 s.mss, .bool s.sak, gv, .slice da s.dat.length dc] from rfl]
  have hs1' := hs1.symm
  have hw1' := hw1.symm
  have hs2' := hs2.symm
  have hw2' := hw2.symm
  have hs3' := hs3.symm
  have hw3' := hw3.symm
  rw [hZ3] at hw3'
  simp only [zVd, zCt, Vd.cells] at hw3'
  have hb' := hb.symm
  have hw4a' := hw4a.symm
  simp only [zJ, jgL, zVd, zCt, zSg0, Vd.cells, Ct.cells, Sg.cells, List.cons_append, List.nil_append] at hw4a'
  have hw4' := hw4.symm
  have C4A := hide c4a
  have F4A := hide f4a
  clear hs1 hw1 c1 f1 b1 l1 hs2 hw2 c2 f2 b2 l2 hZ3 hw3 hs3 hb hw4a hJ0 hw4 b3 c3 l3 f3 b4a c4a f4a n34 c4 f4 b14 b24 bo4 c34 l34 hX hY
  go_enter Try.func10, Try.ntmps10
  go_upto_region 2 with (first | refine wpList_loadA rfl 24 11 aggCt sizCt _ rfl s1 0 rfl X LX.out C1.out ?_ | refine wpList_loadA rfl 28 10 aggSg sizSg _ rfl s2 0 rfl Y LY.out C2.out ?_ | refine wpList_val rfl (BLD.out _ _ _ _ _ rfl rfl rfl) ?_ | (refine wpList_storeA rfl 50 39 sizJg _ _ rfl b 0 rfl J0 zJ rfl LJ0.out rfl C4A.out F4A.out OJ0.out ?_; intro _; rw [hw4']))
  clear hs1' hw1' hs2' hw2' hs3' hw3' hb' hw4a' hw4' C4A F4A BLD C1 C2
  by_cases h1 : c.st = 1
  · skip
    have ST := hide (steps_sent J4.out h1)
    have RJ : Hid (judgeR c s = runS s FS3 c zVd) := by unfold Hid judgeR; rw [if_pos h1]
    clear h1
    go_wp2_with fail
    refine ST.out.mono ?_
    rintro _ w5 ⟨g, rfl, cg, lg, ng, bg⟩
    have CG := hide cg
    have LG := hide lg
    have NG : Hid (g ≠ b) := fun e => by have := J4.out.lt; omega
    have J5 := hide (J4.out.later bg)
    have BO5 : Hid (But (Only b) w4 w5) := But.of_below bg
    clear cg lg ng bg ST J4
    go_wp2
    go_loopw [13] (fun vi wr => ∃ (k : Nat) (ck : Ct) (vk : Vd), vi = .int .i64 (k : Int) ∧ k ≤ 3 ∧ Hid (runS s (FS3.drop k) ck vk = judgeR c s) ∧ Hid (JgAt wr b ck s gv (.slice da s.dat.length dc) vk) ∧ Hid (But (Only b) w5 wr)) (fun vi _ => 3 - (intOf vi).toNat)
    case atStart => exact ⟨0, c, zVd, rfl, Nat.zero_le _, RJ.out.symm, J5.out, But.refl _ _⟩
    case round =>
      obtain ⟨k, ck, vk, rfl, hk, HR, HJ, HB⟩ := hrel
      have B4r : Hid (But (Only b) w4 wr) := BO5.out.trans HB.out
      have CGr : Hid (CellsAt wr g 0 [fnv 36 b, fnv 37 b, fnv 38 b]) := CG.out.but LG.out HB.out (fun e => NG.out e)
      by_cases hlt : k < 3
      · have hk' : k = 0 ∨ k = 1 ∨ k = 2 := by omega
        clear hk hlt
        rcases hk' with rfl | rfl | rfl
        · have xg : wr.cell? ⟨g, 0, none⟩ = some (fnv 36 b) := CGr.out 0 _ rfl
          unfold fnv at xg
          have SDc := isNoStray_any HJ.out
          unfold SD at SDc
          obtain ⟨rr, hrr⟩ : ∃ rr, rr = fStray ck s vk := ⟨_, rfl⟩
          obtain ⟨r1, c2, v2⟩ := rr
          rw [← hrr] at SDc
          have HSD := hide SDc
          have HRR := hide hrr
          clear SDc hrr
          go_wp2_with fail
          refine HSD.out.mono ?_
          rintro _ w8 ⟨rfl, j8, b8⟩
          have J8 := hide j8
          have HB8 : Hid (But (Only b) w5 w8) := HB.out.trans b8
          clear j8 b8 HSD xg CGr B4r
          cases r1 with
          | true =>
            go_wp2
            go_roundw
            case rel => exact ⟨1, c2, v2, rfl, by decide, by unfold Hid; rw [← HR.out]; show _ = (if (fStray ck s vk).1 = true then _ else _); rw [← HRR.out]; rfl, J8.out, HB8.out⟩
            case measure => simp [intOf]; try omega
          | false =>
            have RS : Hid (judgeR c s = (c2, v2)) := by unfold Hid; rw [← HR.out]; show (if (fStray ck s vk).1 = true then _ else _) = _; rw [← HRR.out]; rfl
            obtain ⟨wr, hwr⟩ : ∃ wr, wr = w8 := ⟨_, rfl⟩
            rw [← hwr] at J8 HB8 ⊢
            have BB : Hid (But (Only b) w4 wr) := BO5.out.trans HB8.out
            clear hwr HB8 HB HJ HR HRR
            obtain ⟨K1, hK1⟩ : ∃ K, K = (c2).cells := ⟨_, rfl⟩
            obtain ⟨N1, hN1⟩ : ∃ K, K = (v2).nx.cells := ⟨_, rfl⟩
            obtain ⟨V1, hV1⟩ : ∃ V, V = (judge c s).cells := ⟨_, rfl⟩
            have RE : judgeR c s = (c2, v2) := RS.out
            have EV : Hid (V1 = ({ v2 with nx := c2 } : Vd).cells) := by unfold Hid; rw [hV1]; unfold judge; rw [RE]
            have LK1 : Hid (K1.length = 11) := by rw [hK1]; exact rfl
            have LN1 : Hid (N1.length = 11) := by rw [hN1]; exact rfl
            have LV1 : Hid (V1.length = 18) := by rw [hV1]; exact rfl
            have OK1 : Hid (∀ u ∈ K1, u.oneCell' = true) := by rw [hK1]; exact ct_one _
            have OV1 : Hid (∀ u ∈ V1, u.oneCell' = true) := by rw [hV1]; exact vd_one _
            have CC : Hid (CellsAt wr b 0 K1) := by rw [hK1]; exact J8.out.cc
            have CN : Hid (CellsAt wr b 21 N1) := by rw [hN1]; exact (CellsAt.append.1 (by have h := J8.out.cv; rw [Vd.parts] at h; exact h)).1
            have FN : Hid (∀ y, wr.frozen? ⟨b, y, none⟩ = false) := J8.out.fz
            obtain ⟨w5, hw5⟩ : ∃ w5, w5 = wr.setCells b 21 K1 := ⟨_, rfl⟩
            have J5 : Hid (JgAt w5 b (c2) s gv (.slice da s.dat.length dc) { v2 with nx := c2 }) := by rw [hw5, hK1]; exact J8.out.stN (c2)
            have B5 : Hid (But (Only b) w4 w5) := by rw [hw5]; exact BB.out.trans (But.cells b K1 21 wr)
            have CV5 : Hid (CellsAt w5 b 21 V1) := by rw [EV.out]; exact J5.out.cv
            have CR5 : Hid (CellsAt w5 s3 0 Z3) := C3.out.but L3.out B5.out (fun e => N34.out e)
            have FR5 : Hid (∀ y, w5.frozen? ⟨s3, y, none⟩ = false) := fun y => by have h := B5.out.frozen (p := ⟨s3, y, none⟩) L3.out (fun e => N34.out e); exact h.trans (F3.out y)
            obtain ⟨w6, hw6⟩ : ∃ w6, w6 = w5.setCells s3 0 V1 := ⟨_, rfl⟩
            have CV6 : Hid (CellsAt w6 s3 0 V1) := by rw [hw6]; exact CR5.out.stored (by rw [LV1.out, LZ3.out])
            have B6 : Hid (Below w.heap.size w w6) := by
              have h1 := HB4.out.trans (B5.out.below HB4.out.size (fun g hg e => by have e : g = b := e; have := S34.out; omega))
              rw [hw6]
              exact h1.trans ((But.cells s3 V1 0 w5).below h1.size (fun g hg e => by have e : g = s3 := e; have := S34.out; omega))
            have hw5' := hw5.symm
            have hw6' := hw6.symm
            have HV1 := hide hV1
            clear hK1 hN1 hV1 RE hw5 hw6 EV J5 B5
            go_wp2_with (first | refine wpList_loadA rfl 24 11 aggCt sizCt _ rfl b 0 rfl K1 LK1.out CC.out ?_ | (refine wpList_storeA rfl 24 11 sizCt _ _ rfl b 21 rfl K1 N1 rfl LK1.out LN1.out CN.out FN.out OK1.out ?_; intro _; rw [hw5']) | refine wpList_loadA rfl 32 18 aggVd sizVd _ rfl b 21 rfl V1 LV1.out CV5.out ?_ | (refine wpList_storeA rfl 32 18 sizVd _ _ rfl s3 0 rfl V1 Z3 rfl LV1.out LZ3.out CR5.out FR5.out OV1.out ?_; intro _; rw [hw6']))
            refine bodyPost_ret (v := .agg V1.toArray) (results_A rfl _ _ s3 _ rfl (run_loadVarA 32 18 aggVd sizVd s3 0 _ LV1.out CV6.out)) rfl ?_
            exact ⟨by rw [HV1.out], B6.out⟩
        · have xg : wr.cell? ⟨g, 1, none⟩ = some (fnv 37 b) := CGr.out 1 _ rfl
          unfold fnv at xg
          have SDc := isNoRefusal_any HJ.out
          unfold SD at SDc
          obtain ⟨rr, hrr⟩ : ∃ rr, rr = fRefuse ck s vk := ⟨_, rfl⟩
          obtain ⟨r1, c2, v2⟩ := rr
          rw [← hrr] at SDc
          have HSD := hide SDc
          have HRR := hide hrr
          clear SDc hrr
          go_wp2_with fail
          refine HSD.out.mono ?_
          rintro _ w8 ⟨rfl, j8, b8⟩
          have J8 := hide j8
          have HB8 : Hid (But (Only b) w5 w8) := HB.out.trans b8
          clear j8 b8 HSD xg CGr B4r
          cases r1 with
          | true =>
            go_wp2
            go_roundw
            case rel => exact ⟨2, c2, v2, rfl, by decide, by unfold Hid; rw [← HR.out]; show _ = (if (fRefuse ck s vk).1 = true then _ else _); rw [← HRR.out]; rfl, J8.out, HB8.out⟩
            case measure => simp [intOf]; try omega
          | false =>
            have RS : Hid (judgeR c s = (c2, v2)) := by unfold Hid; rw [← HR.out]; show (if (fRefuse ck s vk).1 = true then _ else _) = _; rw [← HRR.out]; rfl
            obtain ⟨wr, hwr⟩ : ∃ wr, wr = w8 := ⟨_, rfl⟩
            rw [← hwr] at J8 HB8 ⊢
            have BB : Hid (But (Only b) w4 wr) := BO5.out.trans HB8.out
            clear hwr HB8 HB HJ HR HRR
            obtain ⟨K1, hK1⟩ : ∃ K, K = (c2).cells := ⟨_, rfl⟩
            obtain ⟨N1, hN1⟩ : ∃ K, K = (v2).nx.cells := ⟨_, rfl⟩
            obtain ⟨V1, hV1⟩ : ∃ V, V = (judge c s).cells := ⟨_, rfl⟩
            have RE : judgeR c s = (c2, v2) := RS.out
            have EV : Hid (V1 = ({ v2 with nx := c2 } : Vd).cells) := by unfold Hid; rw [hV1]; unfold judge; rw [RE]
            have LK1 : Hid (K1.length = 11) := by rw [hK1]; exact rfl
            have LN1 : Hid (N1.length = 11) := by rw [hN1]; exact rfl
            have LV1 : Hid (V1.length = 18) := by rw [hV1]; exact rfl
            have OK1 : Hid (∀ u ∈ K1, u.oneCell' = true) := by rw [hK1]; exact ct_one _
            have OV1 : Hid (∀ u ∈ V1, u.oneCell' = true) := by rw [hV1]; exact vd_one _
            have CC : Hid (CellsAt wr b 0 K1) := by rw [hK1]; exact J8.out.cc
            have CN : Hid (CellsAt wr b 21 N1) := by rw [hN1]; exact (CellsAt.append.1 (by have h := J8.out.cv; rw [Vd.parts] at h; exact h)).1
            have FN : Hid (∀ y, wr.frozen? ⟨b, y, none⟩ = false) := J8.out.fz
            obtain ⟨w5, hw5⟩ : ∃ w5, w5 = wr.setCells b 21 K1 := ⟨_, rfl⟩
            have J5 : Hid (JgAt w5 b (c2) s gv (.slice da s.dat.length dc) { v2 with nx := c2 }) := by rw [hw5, hK1]; exact J8.out.stN (c2)
            have B5 : Hid (But (Only b) w4 w5) := by rw [hw5]; exact BB.out.trans (But.cells b K1 21 wr)
            have CV5 : Hid (CellsAt w5 b 21 V1) := by rw [EV.out]; exact J5.out.cv
            have CR5 : Hid (CellsAt w5 s3 0 Z3) := C3.out.but L3.out B5.out (fun e => N34.out e)
            have FR5 : Hid (∀ y, w5.frozen? ⟨s3, y, none⟩ = false) := fun y => by have h := B5.out.frozen (p := ⟨s3, y, none⟩) L3.out (fun e => N34.out e); exact h.trans (F3.out y)
            obtain ⟨w6, hw6⟩ : ∃ w6, w6 = w5.setCells s3 0 V1 := ⟨_, rfl⟩
            have CV6 : Hid (CellsAt w6 s3 0 V1) := by rw [hw6]; exact CR5.out.stored (by rw [LV1.out, LZ3.out])
            have B6 : Hid (Below w.heap.size w w6) := by
              have h1 := HB4.out.trans (B5.out.below HB4.out.size (fun g hg e => by have e : g = b := e; have := S34.out; omega))
              rw [hw6]
              exact h1.trans ((But.cells s3 V1 0 w5).below h1.size (fun g hg e => by have e : g = s3 := e; have := S34.out; omega))
            have hw5' := hw5.symm
            have hw6' := hw6.symm
            have HV1 := hide hV1
            clear hK1 hN1 hV1 RE hw5 hw6 EV J5 B5
            go_wp2_with (first | refine wpList_loadA rfl 24 11 aggCt sizCt _ rfl b 0 rfl K1 LK1.out CC.out ?_ | (refine wpList_storeA rfl 24 11 sizCt _ _ rfl b 21 rfl K1 N1 rfl LK1.out LN1.out CN.out FN.out OK1.out ?_; intro _; rw [hw5']) | refine wpList_loadA rfl 32 18 aggVd sizVd _ rfl b 21 rfl V1 LV1.out CV5.out ?_ | (refine wpList_storeA rfl 32 18 sizVd _ _ rfl s3 0 rfl V1 Z3 rfl LV1.out LZ3.out CR5.out FR5.out OV1.out ?_; intro _; rw [hw6']))
            refine bodyPost_ret (v := .agg V1.toArray) (results_A rfl _ _ s3 _ rfl (run_loadVarA 32 18 aggVd sizVd s3 0 _ LV1.out CV6.out)) rfl ?_
            exact ⟨by rw [HV1.out], B6.out⟩
        · have xg : wr.cell? ⟨g, 2, none⟩ = some (fnv 38 b) := CGr.out 2 _ rfl
          unfold fnv at xg
          have SDc := meets_any HJ.out
          unfold SD at SDc
          obtain ⟨rr, hrr⟩ : ∃ rr, rr = fMeets ck s vk := ⟨_, rfl⟩
          obtain ⟨r1, c2, v2⟩ := rr
          rw [← hrr] at SDc
          have HSD := hide SDc
          have HRR := hide hrr
          clear SDc hrr
          go_wp2_with fail
          refine HSD.out.mono ?_
          rintro _ w8 ⟨rfl, j8, b8⟩
          have J8 := hide j8
          have HB8 : Hid (But (Only b) w5 w8) := HB.out.trans b8
          clear j8 b8 HSD xg CGr B4r
          cases r1 with
          | true =>
            go_wp2
            go_roundw
            case rel => exact ⟨3, c2, v2, rfl, by decide, by unfold Hid; rw [← HR.out]; show _ = (if (fMeets ck s vk).1 = true then _ else _); rw [← HRR.out]; rfl, J8.out, HB8.out⟩
            case measure => simp [intOf]; try omega
          | false =>
            have RS : Hid (judgeR c s = (c2, v2)) := by unfold Hid; rw [← HR.out]; show (if (fMeets ck s vk).1 = true then _ else _) = _; rw [← HRR.out]; rfl
            obtain ⟨wr, hwr⟩ : ∃ wr, wr = w8 := ⟨_, rfl⟩
            rw [← hwr] at J8 HB8 ⊢
            have BB : Hid (But (Only b) w4 wr) := BO5.out.trans HB8.out
            clear hwr HB8 HB HJ HR HRR
            obtain ⟨K1, hK1⟩ : ∃ K, K = (c2).cells := ⟨_, rfl⟩
            obtain ⟨N1, hN1⟩ : ∃ K, K = (v2).nx.cells := ⟨_, rfl⟩
            obtain ⟨V1, hV1⟩ : ∃ V, V = (judge c s).cells := ⟨_, rfl⟩
            have RE : judgeR c s = (c2, v2) := RS.out
            have EV : Hid (V1 = ({ v2 with nx := c2 } : Vd).cells) := by unfold Hid; rw [hV1]; unfold judge; rw [RE]
            have LK1 : Hid (K1.length = 11) := by rw [hK1]; exact rfl
            have LN1 : Hid (N1.length = 11) := by rw [hN1]; exact rfl
            have LV1 : Hid (V1.length = 18) := by rw [hV1]; exact rfl
            have OK1 : Hid (∀ u ∈ K1, u.oneCell' = true) := by rw [hK1]; exact ct_one _
            have OV1 : Hid (∀ u ∈ V1, u.oneCell' = true) := by rw [hV1]; exact vd_one _
            have CC : Hid (CellsAt wr b 0 K1) := by rw [hK1]; exact J8.out.cc
            have CN : Hid (CellsAt wr b 21 N1) := by rw [hN1]; exact (CellsAt.append.1 (by have h := J8.out.cv; rw [Vd.parts] at h; exact h)).1
            have FN : Hid (∀ y, wr.frozen? ⟨b, y, none⟩ = false) := J8.out.fz
            obtain ⟨w5, hw5⟩ : ∃ w5, w5 = wr.setCells b 21 K1 := ⟨_, rfl⟩
            have J5 : Hid (JgAt w5 b (c2) s gv (.slice da s.dat.length dc) { v2 with nx := c2 }) := by rw [hw5, hK1]; exact J8.out.stN (c2)
            have B5 : Hid (But (Only b) w4 w5) := by rw [hw5]; exact BB.out.trans (But.cells b K1 21 wr)
            have CV5 : Hid (CellsAt w5 b 21 V1) := by rw [EV.out]; exact J5.out.cv
            have CR5 : Hid (CellsAt w5 s3 0 Z3) := C3.out.but L3.out B5.out (fun e => N34.out e)
            have FR5 : Hid (∀ y, w5.frozen? ⟨s3, y, none⟩ = false) := fun y => by have h := B5.out.frozen (p := ⟨s3, y, none⟩) L3.out (fun e => N34.out e); exact h.trans (F3.out y)
            obtain ⟨w6, hw6⟩ : ∃ w6, w6 = w5.setCells s3 0 V1 := ⟨_, rfl⟩
            have CV6 : Hid (CellsAt w6 s3 0 V1) := by rw [hw6]; exact CR5.out.stored (by rw [LV1.out, LZ3.out])
            have B6 : Hid (Below w.heap.size w w6) := by
              have h1 := HB4.out.trans (B5.out.below HB4.out.size (fun g hg e => by have e : g = b := e; have := S34.out; omega))
              rw [hw6]
              exact h1.trans ((But.cells s3 V1 0 w5).below h1.size (fun g hg e => by have e : g = s3 := e; have := S34.out; omega))
            have hw5' := hw5.symm
            have hw6' := hw6.symm
            have HV1 := hide hV1
            clear hK1 hN1 hV1 RE hw5 hw6 EV J5 B5
            go_wp2_with (first | refine wpList_loadA rfl 24 11 aggCt sizCt _ rfl b 0 rfl K1 LK1.out CC.out ?_ | (refine wpList_storeA rfl 24 11 sizCt _ _ rfl b 21 rfl K1 N1 rfl LK1.out LN1.out CN.out FN.out OK1.out ?_; intro _; rw [hw5']) | refine wpList_loadA rfl 32 18 aggVd sizVd _ rfl b 21 rfl V1 LV1.out CV5.out ?_ | (refine wpList_storeA rfl 32 18 sizVd _ _ rfl s3 0 rfl V1 Z3 rfl LV1.out LZ3.out CR5.out FR5.out OV1.out ?_; intro _; rw [hw6']))
            refine bodyPost_ret (v := .agg V1.toArray) (results_A rfl _ _ s3 _ rfl (run_loadVarA 32 18 aggVd sizVd s3 0 _ LV1.out CV6.out)) rfl ?_
            exact ⟨by rw [HV1.out], B6.out⟩
      · have ek : k = 3 := by omega
        subst ek
        have RS : Hid (judgeR c s = (ck, vk)) := HR.out.symm
        clear HB HR hk hlt CGr
        obtain ⟨K1, hK1⟩ : ∃ K, K = (ck).cells := ⟨_, rfl⟩
        obtain ⟨N1, hN1⟩ : ∃ K, K = (vk).nx.cells := ⟨_, rfl⟩
        obtain ⟨V1, hV1⟩ : ∃ V, V = (judge c s).cells := ⟨_, rfl⟩
        have RE : judgeR c s = (ck, vk) := RS.out
        have EV : Hid (V1 = ({ vk with nx := ck } : Vd).cells) := by unfold Hid; rw [hV1]; unfold judge; rw [RE]
        have LK1 : Hid (K1.length = 11) := by rw [hK1]; exact rfl
        have LN1 : Hid (N1.length = 11) := by rw [hN1]; exact rfl
        have LV1 : Hid (V1.length = 18) := by rw [hV1]; exact rfl
        have OK1 : Hid (∀ u ∈ K1, u.oneCell' = true) := by rw [hK1]; exact ct_one _
        have OV1 : Hid (∀ u ∈ V1, u.oneCell' = true) := by rw [hV1]; exact vd_one _
        have CC : Hid (CellsAt wr b 0 K1) := by rw [hK1]; exact HJ.out.cc
        have CN : Hid (CellsAt wr b 21 N1) := by rw [hN1]; exact (CellsAt.append.1 (by have h := HJ.out.cv; rw [Vd.parts] at h; exact h)).1
        have FN : Hid (∀ y, wr.frozen? ⟨b, y, none⟩ = false) := HJ.out.fz
        obtain ⟨w5, hw5⟩ : ∃ w5, w5 = wr.setCells b 21 K1 := ⟨_, rfl⟩
        have J5 : Hid (JgAt w5 b (ck) s gv (.slice da s.dat.length dc) { vk with nx := ck }) := by rw [hw5, hK1]; exact HJ.out.stN (ck)
        have B5 : Hid (But (Only b) w4 w5) := by rw [hw5]; exact B4r.out.trans (But.cells b K1 21 wr)
        have CV5 : Hid (CellsAt w5 b 21 V1) := by rw [EV.out]; exact J5.out.cv
        have CR5 : Hid (CellsAt w5 s3 0 Z3) := C3.out.but L3.out B5.out (fun e => N34.out e)
        have FR5 : Hid (∀ y, w5.frozen? ⟨s3, y, none⟩ = false) := fun y => by have h := B5.out.frozen (p := ⟨s3, y, none⟩) L3.out (fun e => N34.out e); exact h.trans (F3.out y)
        obtain ⟨w6, hw6⟩ : ∃ w6, w6 = w5.setCells s3 0 V1 := ⟨_, rfl⟩
        have CV6 : Hid (CellsAt w6 s3 0 V1) := by rw [hw6]; exact CR5.out.stored (by rw [LV1.out, LZ3.out])
        have B6 : Hid (Below w.heap.size w w6) := by
          have h1 := HB4.out.trans (B5.out.below HB4.out.size (fun g hg e => by have e : g = b := e; have := S34.out; omega))
          rw [hw6]
          exact h1.trans ((But.cells s3 V1 0 w5).below h1.size (fun g hg e => by have e : g = s3 := e; have := S34.out; omega))
        have hw5' := hw5.symm
        have hw6' := hw6.symm
        have HV1 := hide hV1
        clear hK1 hN1 hV1 RE hw5 hw6 EV J5 B5
        go_wp2_with (first | refine wpList_loadA rfl 24 11 aggCt sizCt _ rfl b 0 rfl K1 LK1.out CC.out ?_ | (refine wpList_storeA rfl 24 11 sizCt _ _ rfl b 21 rfl K1 N1 rfl LK1.out LN1.out CN.out FN.out OK1.out ?_; intro _; rw [hw5']) | refine wpList_loadA rfl 32 18 aggVd sizVd _ rfl b 21 rfl V1 LV1.out CV5.out ?_ | (refine wpList_storeA rfl 32 18 sizVd _ _ rfl s3 0 rfl V1 Z3 rfl LV1.out LZ3.out CR5.out FR5.out OV1.out ?_; intro _; rw [hw6']))
        refine bodyPost_ret (v := .agg V1.toArray) (results_A rfl _ _ s3 _ rfl (run_loadVarA 32 18 aggVd sizVd s3 0 _ LV1.out CV6.out)) rfl ?_
        exact ⟨by rw [HV1.out], B6.out⟩
  · skip
    have ST := hide (steps_other J4.out h1)
    have RJ : Hid (judgeR c s = runS s FS7 c zVd) := by unfold Hid judgeR; rw [if_neg h1]
    clear h1
    go_wp2_with fail
    refine ST.out.mono ?_
    rintro _ w5 ⟨g, rfl, cg, lg, ng, bg⟩
    have CG := hide cg
    have LG := hide lg
    have NG : Hid (g ≠ b) := fun e => by have := J4.out.lt; omega
    have J5 := hide (J4.out.later bg)
    have BO5 : Hid (But (Only b) w4 w5) := But.of_below bg
    clear cg lg ng bg ST J4
    go_wp2
    go_loopw [13] (fun vi wr => ∃ (k : Nat) (ck : Ct) (vk : Vd), vi = .int .i64 (k : Int) ∧ k ≤ 7 ∧ Hid (runS s (FS7.drop k) ck vk = judgeR c s) ∧ Hid (JgAt wr b ck s gv (.slice da s.dat.length dc) vk) ∧ Hid (But (Only b) w5 wr)) (fun vi _ => 7 - (intOf vi).toNat)
    case atStart => exact ⟨0, c, zVd, rfl, Nat.zero_le _, RJ.out.symm, J5.out, But.refl _ _⟩
    case round =>
      obtain ⟨k, ck, vk, rfl, hk, HR, HJ, HB⟩ := hrel
      have B4r : Hid (But (Only b) w4 wr) := BO5.out.trans HB.out
      have CGr : Hid (CellsAt wr g 0 [fnv 39 b, fnv 40 b, fnv 41 b, fnv 42 b, fnv 43 b, fnv 44 b, fnv 45 b]) := CG.out.but LG.out HB.out (fun e => NG.out e)
      by_cases hlt : k < 7
      · have hk' : k = 0 ∨ k = 1 ∨ k = 2 ∨ k = 3 ∨ k = 4 ∨ k = 5 ∨ k = 6 := by omega
        clear hk hlt
        rcases hk' with rfl | rfl | rfl | rfl | rfl | rfl | rfl
        · have xg : wr.cell? ⟨g, 0, none⟩ = some (fnv 39 b) := CGr.out 0 _ rfl
          unfold fnv at xg
          have SDc := isAcceptable_any HJ.out hl
          unfold SD at SDc
          obtain ⟨rr, hrr⟩ : ∃ rr, rr = fAccept ck s vk := ⟨_, rfl⟩
          obtain ⟨r1, c2, v2⟩ := rr
          rw [← hrr] at SDc
          have HSD := hide SDc
          have HRR := hide hrr
          clear SDc hrr
          go_wp2_with fail
          refine HSD.out.mono ?_
          rintro _ w8 ⟨rfl, j8, b8⟩
          have J8 := hide j8
          have HB8 : Hid (But (Only b) w5 w8) := HB.out.trans b8
          clear j8 b8 HSD xg CGr B4r
          cases r1 with
          | true =>
            go_wp2
            go_roundw
            case rel => exact ⟨1, c2, v2, rfl, by decide, by unfold Hid; rw [← HR.out]; show _ = (if (fAccept ck s vk).1 = true then _ else _); rw [← HRR.out]; rfl, J8.out, HB8.out⟩
            case measure => simp [intOf]; try omega
          | false =>
            have RS : Hid (judgeR c s = (c2, v2)) := by unfold Hid; rw [← HR.out]; show (if (fAccept ck s vk).1 = true then _ else _) = _; rw [← HRR.out]; rfl
            obtain ⟨wr, hwr⟩ : ∃ wr, wr = w8 := ⟨_, rfl⟩
            rw [← hwr] at J8 HB8 ⊢
            have BB : Hid (But (Only b) w4 wr) := BO5.out.trans HB8.out
            clear hwr HB8 HB HJ HR HRR
            obtain ⟨K1, hK1⟩ : ∃ K, K = (c2).cells := ⟨_, rfl⟩
            obtain ⟨N1, hN1⟩ : ∃ K, K = (v2).nx.cells := ⟨_, rfl⟩
            obtain ⟨V1, hV1⟩ : ∃ V, V = (judge c s).cells := ⟨_, rfl⟩
            have RE : judgeR c s = (c2, v2) := RS.out
            have EV : Hid (V1 = ({ v2 with nx := c2 } : Vd).cells) := by unfold Hid; rw [hV1]; unfold judge; rw [RE]
            have LK1 : Hid (K1.length = 11) := by rw [hK1]; exact rfl
            have LN1 : Hid (N1.length = 11) := by rw [hN1]; exact rfl
            have LV1 : Hid (V1.length = 18) := by rw [hV1]; exact rfl
            have OK1 : Hid (∀ u ∈ K1, u.oneCell' = true) := by rw [hK1]; exact ct_one _
            have OV1 : Hid (∀ u ∈ V1, u.oneCell' = true) := by rw [hV1]; exact vd_one _
            have CC : Hid (CellsAt wr b 0 K1) := by rw [hK1]; exact J8.out.cc
            have CN : Hid (CellsAt wr b 21 N1) := by rw [hN1]; exact (CellsAt.append.1 (by have h := J8.out.cv; rw [Vd.parts] at h; exact h)).1
            have FN : Hid (∀ y, wr.frozen? ⟨b, y, none⟩ = false) := J8.out.fz
            obtain ⟨w5, hw5⟩ : ∃ w5, w5 = wr.setCells b 21 K1 := ⟨_, rfl⟩
            have J5 : Hid (JgAt w5 b (c2) s gv (.slice da s.dat.length dc) { v2 with nx := c2 }) := by rw [hw5, hK1]; exact J8.out.stN (c2)
            have B5 : Hid (But (Only b) w4 w5) := by rw [hw5]; exact BB.out.trans (But.cells b K1 21 wr)
            have CV5 : Hid (CellsAt w5 b 21 V1) := by rw [EV.out]; exact J5.out.cv
            have CR5 : Hid (CellsAt w5 s3 0 Z3) := C3.out.but L3.out B5.out (fun e => N34.out e)
            have FR5 : Hid (∀ y, w5.frozen? ⟨s3, y, none⟩ = false) := fun y => by have h := B5.out.frozen (p := ⟨s3, y, none⟩) L3.out (fun e => N34.out e); exact h.trans (F3.out y)
            obtain ⟨w6, hw6⟩ : ∃ w6, w6 = w5.setCells s3 0 V1 := ⟨_, rfl⟩
            have CV6 : Hid (CellsAt w6 s3 0 V1) := by rw [hw6]; exact CR5.out.stored (by rw [LV1.out, LZ3.out])
            have B6 : Hid (Below w.heap.size w w6) := by
              have h1 := HB4.out.trans (B5.out.below HB4.out.size (fun g hg e => by have e : g = b := e; have := S34.out; omega))
              rw [hw6]
              exact h1.trans ((But.cells s3 V1 0 w5).below h1.size (fun g hg e => by have e : g = s3 := e; have := S34.out; omega))
            have hw5' := hw5.symm
            have hw6' := hw6.symm
            have HV1 := hide hV1
            clear hK1 hN1 hV1 RE hw5 hw6 EV J5 B5
            go_wp2_with (first | refine wpList_loadA rfl 24 11 aggCt sizCt _ rfl b 0 rfl K1 LK1.out CC.out ?_ | (refine wpList_storeA rfl 24 11 sizCt _ _ rfl b 21 rfl K1 N1 rfl LK1.out LN1.out CN.out FN.out OK1.out ?_; intro _; rw [hw5']) | refine wpList_loadA rfl 32 18 aggVd sizVd _ rfl b 21 rfl V1 LV1.out CV5.out ?_ | (refine wpList_storeA rfl 32 18 sizVd _ _ rfl s3 0 rfl V1 Z3 rfl LV1.out LZ3.out CR5.out FR5.out OV1.out ?_; intro _; rw [hw6']))
            refine bodyPost_ret (v := .agg V1.toArray) (results_A rfl _ _ s3 _ rfl (run_loadVarA 32 18 aggVd sizVd s3 0 _ LV1.out CV6.out)) rfl ?_
            exact ⟨by rw [HV1.out], B6.out⟩
        · have xg : wr.cell? ⟨g, 1, none⟩ = some (fnv 40 b) := CGr.out 1 _ rfl
          unfold fnv at xg
          have SDc := isNoReset_any HJ.out
          unfold SD at SDc
          obtain ⟨rr, hrr⟩ : ∃ rr, rr = fReset ck s vk := ⟨_, rfl⟩
          obtain ⟨r1, c2, v2⟩ := rr
          rw [← hrr] at SDc
          have HSD := hide SDc
          have HRR := hide hrr
          clear SDc hrr
          go_wp2_with fail
          refine HSD.out.mono ?_
          rintro _ w8 ⟨rfl, j8, b8⟩
          have J8 := hide j8
          have HB8 : Hid (But (Only b) w5 w8) := HB.out.trans b8
          clear j8 b8 HSD xg CGr B4r
          cases r1 with
          | true =>
            go_wp2
            go_roundw
            case rel => exact ⟨2, c2, v2, rfl, by decide, by unfold Hid; rw [← HR.out]; show _ = (if (fReset ck s vk).1 = true then _ else _); rw [← HRR.out]; rfl, J8.out, HB8.out⟩
            case measure => simp [intOf]; try omega
          | false =>
            have RS : Hid (judgeR c s = (c2, v2)) := by unfold Hid; rw [← HR.out]; show (if (fReset ck s vk).1 = true then _ else _) = _; rw [← HRR.out]; rfl
            obtain ⟨wr, hwr⟩ : ∃ wr, wr = w8 := ⟨_, rfl⟩
            rw [← hwr] at J8 HB8 ⊢
            have BB : Hid (But (Only b) w4 wr) := BO5.out.trans HB8.out
            clear hwr HB8 HB HJ HR HRR
            obtain ⟨K1, hK1⟩ : ∃ K, K = (c2).cells := ⟨_, rfl⟩
            obtain ⟨N1, hN1⟩ : ∃ K, K = (v2).nx.cells := ⟨_, rfl⟩
            obtain ⟨V1, hV1⟩ : ∃ V, V = (judge c s).cells := ⟨_, rfl⟩
            have RE : judgeR c s = (c2, v2) := RS.out
            have EV : Hid (V1 = ({ v2 with nx := c2 } : Vd).cells) := by unfold Hid; rw [hV1]; unfold judge; rw [RE]
            have LK1 : Hid (K1.length = 11) := by rw [hK1]; exact rfl
            have LN1 : Hid (N1.length = 11) := by rw [hN1]; exact rfl
            have LV1 : Hid (V1.length = 18) := by rw [hV1]; exact rfl
            have OK1 : Hid (∀ u ∈ K1, u.oneCell' = true) := by rw [hK1]; exact ct_one _
            have OV1 : Hid (∀ u ∈ V1, u.oneCell' = true) := by rw [hV1]; exact vd_one _
            have CC : Hid (CellsAt wr b 0 K1) := by rw [hK1]; exact J8.out.cc
            have CN : Hid (CellsAt wr b 21 N1) := by rw [hN1]; exact (CellsAt.append.1 (by have h := J8.out.cv; rw [Vd.parts] at h; exact h)).1
            have FN : Hid (∀ y, wr.frozen? ⟨b, y, none⟩ = false) := J8.out.fz
            obtain ⟨w5, hw5⟩ : ∃ w5, w5 = wr.setCells b 21 K1 := ⟨_, rfl⟩
            have J5 : Hid (JgAt w5 b (c2) s gv (.slice da s.dat.length dc) { v2 with nx := c2 }) := by rw [hw5, hK1]; exact J8.out.stN (c2)
            have B5 : Hid (But (Only b) w4 w5) := by rw [hw5]; exact BB.out.trans (But.cells b K1 21 wr)
            have CV5 : Hid (CellsAt w5 b 21 V1) := by rw [EV.out]; exact J5.out.cv
            have CR5 : Hid (CellsAt w5 s3 0 Z3) := C3.out.but L3.out B5.out (fun e => N34.out e)
            have FR5 : Hid (∀ y, w5.frozen? ⟨s3, y, none⟩ = false) := fun y => by have h := B5.out.frozen (p := ⟨s3, y, none⟩) L3.out (fun e => N34.out e); exact h.trans (F3.out y)
            obtain ⟨w6, hw6⟩ : ∃ w6, w6 = w5.setCells s3 0 V1 := ⟨_, rfl⟩
            have CV6 : Hid (CellsAt w6 s3 0 V1) := by rw [hw6]; exact CR5.out.stored (by rw [LV1.out, LZ3.out])
            have B6 : Hid (Below w.heap.size w w6) := by
              have h1 := HB4.out.trans (B5.out.below HB4.out.size (fun g hg e => by have e : g = b := e; have := S34.out; omega))
              rw [hw6]
              exact h1.trans ((But.cells s3 V1 0 w5).below h1.size (fun g hg e => by have e : g = s3 := e; have := S34.out; omega))
            have hw5' := hw5.symm
            have hw6' := hw6.symm
            have HV1 := hide hV1
            clear hK1 hN1 hV1 RE hw5 hw6 EV J5 B5
            go_wp2_with (first | refine wpList_loadA rfl 24 11 aggCt sizCt _ rfl b 0 rfl K1 LK1.out CC.out ?_ | (refine wpList_storeA rfl 24 11 sizCt _ _ rfl b 21 rfl K1 N1 rfl LK1.out LN1.out CN.out FN.out OK1.out ?_; intro _; rw [hw5']) | refine wpList_loadA rfl 32 18 aggVd sizVd _ rfl b 21 rfl V1 LV1.out CV5.out ?_ | (refine wpList_storeA rfl 32 18 sizVd _ _ rfl s3 0 rfl V1 Z3 rfl LV1.out LZ3.out CR5.out FR5.out OV1.out ?_; intro _; rw [hw6']))
            refine bodyPost_ret (v := .agg V1.toArray) (results_A rfl _ _ s3 _ rfl (run_loadVarA 32 18 aggVd sizVd s3 0 _ LV1.out CV6.out)) rfl ?_
            exact ⟨by rw [HV1.out], B6.out⟩
        · have xg : wr.cell? ⟨g, 2, none⟩ = some (fnv 41 b) := CGr.out 2 _ rfl
          unfold fnv at xg
          have SDc := isNoSyn_any HJ.out
          unfold SD at SDc
          obtain ⟨rr, hrr⟩ : ∃ rr, rr = fSyn ck s vk := ⟨_, rfl⟩
          obtain ⟨r1, c2, v2⟩ := rr
          rw [← hrr] at SDc
          have HSD := hide SDc
          have HRR := hide hrr
          clear SDc hrr
          go_wp2_with fail
          refine HSD.out.mono ?_
          rintro _ w8 ⟨rfl, j8, b8⟩
          have J8 := hide j8
          have HB8 : Hid (But (Only b) w5 w8) := HB.out.trans b8
          clear j8 b8 HSD xg CGr B4r
          cases r1 with
          | true =>
            go_wp2
            go_roundw
            case rel => exact ⟨3, c2, v2, rfl, by decide, by unfold Hid; rw [← HR.out]; show _ = (if (fSyn ck s vk).1 = true then _ else _); rw [← HRR.out]; rfl, J8.out, HB8.out⟩
            case measure => simp [intOf]; try omega
          | false =>
            have RS : Hid (judgeR c s = (c2, v2)) := by unfold Hid; rw [← HR.out]; show (if (fSyn ck s vk).1 = true then _ else _) = _; rw [← HRR.out]; rfl
            obtain ⟨wr, hwr⟩ : ∃ wr, wr = w8 := ⟨_, rfl⟩
            rw [← hwr] at J8 HB8 ⊢
            have BB : Hid (But (Only b) w4 wr) := BO5.out.trans HB8.out
            clear hwr HB8 HB HJ HR HRR
            obtain ⟨K1, hK1⟩ : ∃ K, K = (c2).cells := ⟨_, rfl⟩
            obtain ⟨N1, hN1⟩ : ∃ K, K = (v2).nx.cells := ⟨_, rfl⟩
            obtain ⟨V1, hV1⟩ : ∃ V, V = (judge c s).cells := ⟨_, rfl⟩
            have RE : judgeR c s = (c2, v2) := RS.out
            have EV : Hid (V1 = ({ v2 with nx := c2 } : Vd).cells) := by unfold Hid; rw [hV1]; unfold judge; rw [RE]
            have LK1 : Hid (K1.length = 11) := by rw [hK1]; exact rfl
            have LN1 : Hid (N1.length = 11) := by rw [hN1]; exact rfl
            have LV1 : Hid (V1.length = 18) := by rw [hV1]; exact rfl
            have OK1 : Hid (∀ u ∈ K1, u.oneCell' = true) := by rw [hK1]; exact ct_one _
            have OV1 : Hid (∀ u ∈ V1, u.oneCell' = true) := by rw [hV1]; exact vd_one _
            have CC : Hid (CellsAt wr b 0 K1) := by rw [hK1]; exact J8.out.cc
            have CN : Hid (CellsAt wr b 21 N1) := by rw [hN1]; exact (CellsAt.append.1 (by have h := J8.out.cv; rw [Vd.parts] at h; exact h)).1
            have FN : Hid (∀ y, wr.frozen? ⟨b, y, none⟩ = false) := J8.out.fz
            obtain ⟨w5, hw5⟩ : ∃ w5, w5 = wr.setCells b 21 K1 := ⟨_, rfl⟩
            have J5 : Hid (JgAt w5 b (c2) s gv (.slice da s.dat.length dc) { v2 with nx := c2 }) := by rw [hw5, hK1]; exact J8.out.stN (c2)
            have B5 : Hid (But (Only b) w4 w5) := by rw [hw5]; exact BB.out.trans (But.cells b K1 21 wr)
            have CV5 : Hid (CellsAt w5 b 21 V1) := by rw [EV.out]; exact J5.out.cv
            have CR5 : Hid (CellsAt w5 s3 0 Z3) := C3.out.but L3.out B5.out (fun e => N34.out e)
            have FR5 : Hid (∀ y, w5.frozen? ⟨s3, y, none⟩ = false) := fun y => by have h := B5.out.frozen (p := ⟨s3, y, none⟩) L3.out (fun e => N34.out e); exact h.trans (F3.out y)
            obtain ⟨w6, hw6⟩ : ∃ w6, w6 = w5.setCells s3 0 V1 := ⟨_, rfl⟩
            have CV6 : Hid (CellsAt w6 s3 0 V1) := by rw [hw6]; exact CR5.out.stored (by rw [LV1.out, LZ3.out])
            have B6 : Hid (Below w.heap.size w w6) := by
              have h1 := HB4.out.trans (B5.out.below HB4.out.size (fun g hg e => by have e : g = b := e; have := S34.out; omega))
              rw [hw6]
              exact h1.trans ((But.cells s3 V1 0 w5).below h1.size (fun g hg e => by have e : g = s3 := e; have := S34.out; omega))
            have hw5' := hw5.symm
            have hw6' := hw6.symm
            have HV1 := hide hV1
            clear hK1 hN1 hV1 RE hw5 hw6 EV J5 B5
            go_wp2_with (first | refine wpList_loadA rfl 24 11 aggCt sizCt _ rfl b 0 rfl K1 LK1.out CC.out ?_ | (refine wpList_storeA rfl 24 11 sizCt _ _ rfl b 21 rfl K1 N1 rfl LK1.out LN1.out CN.out FN.out OK1.out ?_; intro _; rw [hw5']) | refine wpList_loadA rfl 32 18 aggVd sizVd _ rfl b 21 rfl V1 LV1.out CV5.out ?_ | (refine wpList_storeA rfl 32 18 sizVd _ _ rfl s3 0 rfl V1 Z3 rfl LV1.out LZ3.out CR5.out FR5.out OV1.out ?_; intro _; rw [hw6']))
            refine bodyPost_ret (v := .agg V1.toArray) (results_A rfl _ _ s3 _ rfl (run_loadVarA 32 18 aggVd sizVd s3 0 _ LV1.out CV6.out)) rfl ?_
            exact ⟨by rw [HV1.out], B6.out⟩
        · have xg : wr.cell? ⟨g, 3, none⟩ = some (fnv 42 b) := CGr.out 3 _ rfl
          unfold fnv at xg
          have SDc := hasAck_any HJ.out
          unfold SD at SDc
          obtain ⟨rr, hrr⟩ : ∃ rr, rr = fAckS ck s vk := ⟨_, rfl⟩
          obtain ⟨r1, c2, v2⟩ := rr
          rw [← hrr] at SDc
          have HSD := hide SDc
          have HRR := hide hrr
          clear SDc hrr
          go_wp2_with fail
          refine HSD.out.mono ?_
          rintro _ w8 ⟨rfl, j8, b8⟩
          have J8 := hide j8
          have HB8 : Hid (But (Only b) w5 w8) := HB.out.trans b8
          clear j8 b8 HSD xg CGr B4r
          cases r1 with
          | true =>
            go_wp2
            go_roundw
            case rel => exact ⟨4, c2, v2, rfl, by decide, by unfold Hid; rw [← HR.out]; show _ = (if (fAckS ck s vk).1 = true then _ else _); rw [← HRR.out]; rfl, J8.out, HB8.out⟩
            case measure => simp [intOf]; try omega
          | false =>
            have RS : Hid (judgeR c s = (c2, v2)) := by unfold Hid; rw [← HR.out]; show (if (fAckS ck s vk).1 = true then _ else _) = _; rw [← HRR.out]; rfl
            obtain ⟨wr, hwr⟩ : ∃ wr, wr = w8 := ⟨_, rfl⟩
            rw [← hwr] at J8 HB8 ⊢
            have BB : Hid (But (Only b) w4 wr) := BO5.out.trans HB8.out
            clear hwr HB8 HB HJ HR HRR
            obtain ⟨K1, hK1⟩ : ∃ K, K = (c2).cells := ⟨_, rfl⟩
            obtain ⟨N1, hN1⟩ : ∃ K, K = (v2).nx.cells := ⟨_, rfl⟩
            obtain ⟨V1, hV1⟩ : ∃ V, V = (judge c s).cells := ⟨_, rfl⟩
            have RE : judgeR c s = (c2, v2) := RS.out
            have EV : Hid (V1 = ({ v2 with nx := c2 } : Vd).cells) := by unfold Hid; rw [hV1]; unfold judge; rw [RE]
            have LK1 : Hid (K1.length = 11) := by rw [hK1]; exact rfl
            have LN1 : Hid (N1.length = 11) := by rw [hN1]; exact rfl
            have LV1 : Hid (V1.length = 18) := by rw [hV1]; exact rfl
            have OK1 : Hid (∀ u ∈ K1, u.oneCell' = true) := by rw [hK1]; exact ct_one _
            have OV1 : Hid (∀ u ∈ V1, u.oneCell' = true) := by rw [hV1]; exact vd_one _
            have CC : Hid (CellsAt wr b 0 K1) := by rw [hK1]; exact J8.out.cc
            have CN : Hid (CellsAt wr b 21 N1) := by rw [hN1]; exact (CellsAt.append.1 (by have h := J8.out.cv; rw [Vd.parts] at h; exact h)).1
            have FN : Hid (∀ y, wr.frozen? ⟨b, y, none⟩ = false) := J8.out.fz
            obtain ⟨w5, hw5⟩ : ∃ w5, w5 = wr.setCells b 21 K1 := ⟨_, rfl⟩
            have J5 : Hid (JgAt w5 b (c2) s gv (.slice da s.dat.length dc) { v2 with nx := c2 }) := by rw [hw5, hK1]; exact J8.out.stN (c2)
            have B5 : Hid (But (Only b) w4 w5) := by rw [hw5]; exact BB.out.trans (But.cells b K1 21 wr)
            have CV5 : Hid (CellsAt w5 b 21 V1) := by rw [EV.out]; exact J5.out.cv
            have CR5 : Hid (CellsAt w5 s3 0 Z3) := C3.out.but L3.out B5.out (fun e => N34.out e)
            have FR5 : Hid (∀ y, w5.frozen? ⟨s3, y, none⟩ = false) := fun y => by have h := B5.out.frozen (p := ⟨s3, y, none⟩) L3.out (fun e => N34.out e); exact h.trans (F3.out y)
            obtain ⟨w6, hw6⟩ : ∃ w6, w6 = w5.setCells s3 0 V1 := ⟨_, rfl⟩
            have CV6 : Hid (CellsAt w6 s3 0 V1) := by rw [hw6]; exact CR5.out.stored (by rw [LV1.out, LZ3.out])
            have B6 : Hid (Below w.heap.size w w6) := by
              have h1 := HB4.out.trans (B5.out.below HB4.out.size (fun g hg e => by have e : g = b := e; have := S34.out; omega))
              rw [hw6]
              exact h1.trans ((But.cells s3 V1 0 w5).below h1.size (fun g hg e => by have e : g = s3 := e; have := S34.out; omega))
            have hw5' := hw5.symm
            have hw6' := hw6.symm
            have HV1 := hide hV1
            clear hK1 hN1 hV1 RE hw5 hw6 EV J5 B5
            go_wp2_with (first | refine wpList_loadA rfl 24 11 aggCt sizCt _ rfl b 0 rfl K1 LK1.out CC.out ?_ | (refine wpList_storeA rfl 24 11 sizCt _ _ rfl b 21 rfl K1 N1 rfl LK1.out LN1.out CN.out FN.out OK1.out ?_; intro _; rw [hw5']) | refine wpList_loadA rfl 32 18 aggVd sizVd _ rfl b 21 rfl V1 LV1.out CV5.out ?_ | (refine wpList_storeA rfl 32 18 sizVd _ _ rfl s3 0 rfl V1 Z3 rfl LV1.out LZ3.out CR5.out FR5.out OV1.out ?_; intro _; rw [hw6']))
            refine bodyPost_ret (v := .agg V1.toArray) (results_A rfl _ _ s3 _ rfl (run_loadVarA 32 18 aggVd sizVd s3 0 _ LV1.out CV6.out)) rfl ?_
            exact ⟨by rw [HV1.out], B6.out⟩
        · have xg : wr.cell? ⟨g, 4, none⟩ = some (fnv 43 b) := CGr.out 4 _ rfl
          unfold fnv at xg
          have SDc := hears_any HJ.out hl
          unfold SD at SDc
          obtain ⟨rr, hrr⟩ : ∃ rr, rr = fHears ck s vk := ⟨_, rfl⟩
          obtain ⟨r1, c2, v2⟩ := rr
          rw [← hrr] at SDc
          have HSD := hide SDc
          have HRR := hide hrr
          clear SDc hrr
          go_wp2_with fail
          refine HSD.out.mono ?_
          rintro _ w8 ⟨rfl, j8, b8⟩
          have J8 := hide j8
          have HB8 : Hid (But (Only b) w5 w8) := HB.out.trans b8
          clear j8 b8 HSD xg CGr B4r
          cases r1 with
          | true =>
            go_wp2
            go_roundw
            case rel => exact ⟨5, c2, v2, rfl, by decide, by unfold Hid; rw [← HR.out]; show _ = (if (fHears ck s vk).1 = true then _ else _); rw [← HRR.out]; rfl, J8.out, HB8.out⟩
            case measure => simp [intOf]; try omega
          | false =>
            have RS : Hid (judgeR c s = (c2, v2)) := by unfold Hid; rw [← HR.out]; show (if (fHears ck s vk).1 = true then _ else _) = _; rw [← HRR.out]; rfl
            obtain ⟨wr, hwr⟩ : ∃ wr, wr = w8 := ⟨_, rfl⟩
            rw [← hwr] at J8 HB8 ⊢
            have BB : Hid (But (Only b) w4 wr) := BO5.out.trans HB8.out
            clear hwr HB8 HB HJ HR HRR
            obtain ⟨K1, hK1⟩ : ∃ K, K = (c2).cells := ⟨_, rfl⟩
            obtain ⟨N1, hN1⟩ : ∃ K, K = (v2).nx.cells := ⟨_, rfl⟩
            obtain ⟨V1, hV1⟩ : ∃ V, V = (judge c s).cells := ⟨_, rfl⟩
            have RE : judgeR c s = (c2, v2) := RS.out
            have EV : Hid (V1 = ({ v2 with nx := c2 } : Vd).cells) := by unfold Hid; rw [hV1]; unfold judge; rw [RE]
            have LK1 : Hid (K1.length = 11) := by rw [hK1]; exact rfl
            have LN1 : Hid (N1.length = 11) := by rw [hN1]; exact rfl
            have LV1 : Hid (V1.length = 18) := by rw [hV1]; exact rfl
            have OK1 : Hid (∀ u ∈ K1, u.oneCell' = true) := by rw [hK1]; exact ct_one _
            have OV1 : Hid (∀ u ∈ V1, u.oneCell' = true) := by rw [hV1]; exact vd_one _
            have CC : Hid (CellsAt wr b 0 K1) := by rw [hK1]; exact J8.out.cc
            have CN : Hid (CellsAt wr b 21 N1) := by rw [hN1]; exact (CellsAt.append.1 (by have h := J8.out.cv; rw [Vd.parts] at h; exact h)).1
            have FN : Hid (∀ y, wr.frozen? ⟨b, y, none⟩ = false) := J8.out.fz
            obtain ⟨w5, hw5⟩ : ∃ w5, w5 = wr.setCells b 21 K1 := ⟨_, rfl⟩
            have J5 : Hid (JgAt w5 b (c2) s gv (.slice da s.dat.length dc) { v2 with nx := c2 }) := by rw [hw5, hK1]; exact J8.out.stN (c2)
            have B5 : Hid (But (Only b) w4 w5) := by rw [hw5]; exact BB.out.trans (But.cells b K1 21 wr)
            have CV5 : Hid (CellsAt w5 b 21 V1) := by rw [EV.out]; exact J5.out.cv
            have CR5 : Hid (CellsAt w5 s3 0 Z3) := C3.out.but L3.out B5.out (fun e => N34.out e)
            have FR5 : Hid (∀ y, w5.frozen? ⟨s3, y, none⟩ = false) := fun y => by have h := B5.out.frozen (p := ⟨s3, y, none⟩) L3.out (fun e => N34.out e); exact h.trans (F3.out y)
            obtain ⟨w6, hw6⟩ : ∃ w6, w6 = w5.setCells s3 0 V1 := ⟨_, rfl⟩
            have CV6 : Hid (CellsAt w6 s3 0 V1) := by rw [hw6]; exact CR5.out.stored (by rw [LV1.out, LZ3.out])
            have B6 : Hid (Below w.heap.size w w6) := by
              have h1 := HB4.out.trans (B5.out.below HB4.out.size (fun g hg e => by have e : g = b := e; have := S34.out; omega))
              rw [hw6]
              exact h1.trans ((But.cells s3 V1 0 w5).below h1.size (fun g hg e => by have e : g = s3 := e; have := S34.out; omega))
            have hw5' := hw5.symm
            have hw6' := hw6.symm
            have HV1 := hide hV1
            clear hK1 hN1 hV1 RE hw5 hw6 EV J5 B5
            go_wp2_with (first | refine wpList_loadA rfl 24 11 aggCt sizCt _ rfl b 0 rfl K1 LK1.out CC.out ?_ | (refine wpList_storeA rfl 24 11 sizCt _ _ rfl b 21 rfl K1 N1 rfl LK1.out LN1.out CN.out FN.out OK1.out ?_; intro _; rw [hw5']) | refine wpList_loadA rfl 32 18 aggVd sizVd _ rfl b 21 rfl V1 LV1.out CV5.out ?_ | (refine wpList_storeA rfl 32 18 sizVd _ _ rfl s3 0 rfl V1 Z3 rfl LV1.out LZ3.out CR5.out FR5.out OV1.out ?_; intro _; rw [hw6']))
            refine bodyPost_ret (v := .agg V1.toArray) (results_A rfl _ _ s3 _ rfl (run_loadVarA 32 18 aggVd sizVd s3 0 _ LV1.out CV6.out)) rfl ?_
            exact ⟨by rw [HV1.out], B6.out⟩
        · have xg : wr.cell? ⟨g, 5, none⟩ = some (fnv 44 b) := CGr.out 5 _ rfl
          unfold fnv at xg
          have SDc := isNotThrough_any HJ.out
          unfold SD at SDc
          obtain ⟨rr, hrr⟩ : ∃ rr, rr = fThrough ck s vk := ⟨_, rfl⟩
          obtain ⟨r1, c2, v2⟩ := rr
          rw [← hrr] at SDc
          have HSD := hide SDc
          have HRR := hide hrr
          clear SDc hrr
          go_wp2_with fail
          refine HSD.out.mono ?_
          rintro _ w8 ⟨rfl, j8, b8⟩
          have J8 := hide j8
          have HB8 : Hid (But (Only b) w5 w8) := HB.out.trans b8
          clear j8 b8 HSD xg CGr B4r
          cases r1 with
          | true =>
            go_wp2
            go_roundw
            case rel => exact ⟨6, c2, v2, rfl, by decide, by unfold Hid; rw [← HR.out]; show _ = (if (fThrough ck s vk).1 = true then _ else _); rw [← HRR.out]; rfl, J8.out, HB8.out⟩
            case measure => simp [intOf]; try omega
          | false =>
            have RS : Hid (judgeR c s = (c2, v2)) := by unfold Hid; rw [← HR.out]; show (if (fThrough ck s vk).1 = true then _ else _) = _; rw [← HRR.out]; rfl
            obtain ⟨wr, hwr⟩ : ∃ wr, wr = w8 := ⟨_, rfl⟩
            rw [← hwr] at J8 HB8 ⊢
            have BB : Hid (But (Only b) w4 wr) := BO5.out.trans HB8.out
            clear hwr HB8 HB HJ HR HRR
            obtain ⟨K1, hK1⟩ : ∃ K, K = (c2).cells := ⟨_, rfl⟩
            obtain ⟨N1, hN1⟩ : ∃ K, K = (v2).nx.cells := ⟨_, rfl⟩
            obtain ⟨V1, hV1⟩ : ∃ V, V = (judge c s).cells := ⟨_, rfl⟩
            have RE : judgeR c s = (c2, v2) := RS.out
            have EV : Hid (V1 = ({ v2 with nx := c2 } : Vd).cells) := by unfold Hid; rw [hV1]; unfold judge; rw [RE]
            have LK1 : Hid (K1.length = 11) := by rw [hK1]; exact rfl
            have LN1 : Hid (N1.length = 11) := by rw [hN1]; exact rfl
            have LV1 : Hid (V1.length = 18) := by rw [hV1]; exact rfl
            have OK1 : Hid (∀ u ∈ K1, u.oneCell' = true) := by rw [hK1]; exact ct_one _
            have OV1 : Hid (∀ u ∈ V1, u.oneCell' = true) := by rw [hV1]; exact vd_one _
            have CC : Hid (CellsAt wr b 0 K1) := by rw [hK1]; exact J8.out.cc
            have CN : Hid (CellsAt wr b 21 N1) := by rw [hN1]; exact (CellsAt.append.1 (by have h := J8.out.cv; rw [Vd.parts] at h; exact h)).1
            have FN : Hid (∀ y, wr.frozen? ⟨b, y, none⟩ = false) := J8.out.fz
            obtain ⟨w5, hw5⟩ : ∃ w5, w5 = wr.setCells b 21 K1 := ⟨_, rfl⟩
            have J5 : Hid (JgAt w5 b (c2) s gv (.slice da s.dat.length dc) { v2 with nx := c2 }) := by rw [hw5, hK1]; exact J8.out.stN (c2)
            have B5 : Hid (But (Only b) w4 w5) := by rw [hw5]; exact BB.out.trans (But.cells b K1 21 wr)
            have CV5 : Hid (CellsAt w5 b 21 V1) := by rw [EV.out]; exact J5.out.cv
            have CR5 : Hid (CellsAt w5 s3 0 Z3) := C3.out.but L3.out B5.out (fun e => N34.out e)
            have FR5 : Hid (∀ y, w5.frozen? ⟨s3, y, none⟩ = false) := fun y => by have h := B5.out.frozen (p := ⟨s3, y, none⟩) L3.out (fun e => N34.out e); exact h.trans (F3.out y)
            obtain ⟨w6, hw6⟩ : ∃ w6, w6 = w5.setCells s3 0 V1 := ⟨_, rfl⟩
            have CV6 : Hid (CellsAt w6 s3 0 V1) := by rw [hw6]; exact CR5.out.stored (by rw [LV1.out, LZ3.out])
            have B6 : Hid (Below w.heap.size w w6) := by
              have h1 := HB4.out.trans (B5.out.below HB4.out.size (fun g hg e => by have e : g = b := e; have := S34.out; omega))
              rw [hw6]
              exact h1.trans ((But.cells s3 V1 0 w5).below h1.size (fun g hg e => by have e : g = s3 := e; have := S34.out; omega))
            have hw5' := hw5.symm
            have hw6' := hw6.symm
            have HV1 := hide hV1
            clear hK1 hN1 hV1 RE hw5 hw6 EV J5 B5
            go_wp2_with (first | refine wpList_loadA rfl 24 11 aggCt sizCt _ rfl b 0 rfl K1 LK1.out CC.out ?_ | (refine wpList_storeA rfl 24 11 sizCt _ _ rfl b 21 rfl K1 N1 rfl LK1.out LN1.out CN.out FN.out OK1.out ?_; intro _; rw [hw5']) | refine wpList_loadA rfl 32 18 aggVd sizVd _ rfl b 21 rfl V1 LV1.out CV5.out ?_ | (refine wpList_storeA rfl 32 18 sizVd _ _ rfl s3 0 rfl V1 Z3 rfl LV1.out LZ3.out CR5.out FR5.out OV1.out ?_; intro _; rw [hw6']))
            refine bodyPost_ret (v := .agg V1.toArray) (results_A rfl _ _ s3 _ rfl (run_loadVarA 32 18 aggVd sizVd s3 0 _ LV1.out CV6.out)) rfl ?_
            exact ⟨by rw [HV1.out], B6.out⟩
        · have xg : wr.cell? ⟨g, 6, none⟩ = some (fnv 45 b) := CGr.out 6 _ rfl
          unfold fnv at xg
          have SDc := receives_any HJ.out hl
          unfold SD at SDc
          obtain ⟨rr, hrr⟩ : ∃ rr, rr = fRecv ck s vk := ⟨_, rfl⟩
          obtain ⟨r1, c2, v2⟩ := rr
          rw [← hrr] at SDc
          have HSD := hide SDc
          have HRR := hide hrr
          clear SDc hrr
          go_wp2_with fail
          refine HSD.out.mono ?_
          rintro _ w8 ⟨rfl, j8, b8⟩
          have J8 := hide j8
          have HB8 : Hid (But (Only b) w5 w8) := HB.out.trans b8
          clear j8 b8 HSD xg CGr B4r
          cases r1 with
          | true =>
            go_wp2
            go_roundw
            case rel => exact ⟨7, c2, v2, rfl, by decide, by unfold Hid; rw [← HR.out]; show _ = (if (fRecv ck s vk).1 = true then _ else _); rw [← HRR.out]; rfl, J8.out, HB8.out⟩
            case measure => simp [intOf]; try omega
          | false =>
            have RS : Hid (judgeR c s = (c2, v2)) := by unfold Hid; rw [← HR.out]; show (if (fRecv ck s vk).1 = true then _ else _) = _; rw [← HRR.out]; rfl
            obtain ⟨wr, hwr⟩ : ∃ wr, wr = w8 := ⟨_, rfl⟩
            rw [← hwr] at J8 HB8 ⊢
            have BB : Hid (But (Only b) w4 wr) := BO5.out.trans HB8.out
            clear hwr HB8 HB HJ HR HRR
            obtain ⟨K1, hK1⟩ : ∃ K, K = (c2).cells := ⟨_, rfl⟩
            obtain ⟨N1, hN1⟩ : ∃ K, K = (v2).nx.cells := ⟨_, rfl⟩
            obtain ⟨V1, hV1⟩ : ∃ V, V = (judge c s).cells := ⟨_, rfl⟩
            have RE : judgeR c s = (c2, v2) := RS.out
            have EV : Hid (V1 = ({ v2 with nx := c2 } : Vd).cells) := by unfold Hid; rw [hV1]; unfold judge; rw [RE]
            have LK1 : Hid (K1.length = 11) := by rw [hK1]; exact rfl
            have LN1 : Hid (N1.length = 11) := by rw [hN1]; exact rfl
            have LV1 : Hid (V1.length = 18) := by rw [hV1]; exact rfl
            have OK1 : Hid (∀ u ∈ K1, u.oneCell' = true) := by rw [hK1]; exact ct_one _
            have OV1 : Hid (∀ u ∈ V1, u.oneCell' = true) := by rw [hV1]; exact vd_one _
            have CC : Hid (CellsAt wr b 0 K1) := by rw [hK1]; exact J8.out.cc
            have CN : Hid (CellsAt wr b 21 N1) := by rw [hN1]; exact (CellsAt.append.1 (by have h := J8.out.cv; rw [Vd.parts] at h; exact h)).1
            have FN : Hid (∀ y, wr.frozen? ⟨b, y, none⟩ = false) := J8.out.fz
            obtain ⟨w5, hw5⟩ : ∃ w5, w5 = wr.setCells b 21 K1 := ⟨_, rfl⟩
            have J5 : Hid (JgAt w5 b (c2) s gv (.slice da s.dat.length dc) { v2 with nx := c2 }) := by rw [hw5, hK1]; exact J8.out.stN (c2)
            have B5 : Hid (But (Only b) w4 w5) := by rw [hw5]; exact BB.out.trans (But.cells b K1 21 wr)
            have CV5 : Hid (CellsAt w5 b 21 V1) := by rw [EV.out]; exact J5.out.cv
            have CR5 : Hid (CellsAt w5 s3 0 Z3) := C3.out.but L3.out B5.out (fun e => N34.out e)
            have FR5 : Hid (∀ y, w5.frozen? ⟨s3, y, none⟩ = false) := fun y => by have h := B5.out.frozen (p := ⟨s3, y, none⟩) L3.out (fun e => N34.out e); exact h.trans (F3.out y)
            obtain ⟨w6, hw6⟩ : ∃ w6, w6 = w5.setCells s3 0 V1 := ⟨_, rfl⟩
            have CV6 : Hid (CellsAt w6 s3 0 V1) := by rw [hw6]; exact CR5.out.stored (by rw [LV1.out, LZ3.out])
            have B6 : Hid (Below w.heap.size w w6) := by
              have h1 := HB4.out.trans (B5.out.below HB4.out.size (fun g hg e => by have e : g = b := e; have := S34.out; omega))
              rw [hw6]
              exact h1.trans ((But.cells s3 V1 0 w5).below h1.size (fun g hg e => by have e : g = s3 := e; have := S34.out; omega))
            have hw5' := hw5.symm
            have hw6' := hw6.symm
            have HV1 := hide hV1
            clear hK1 hN1 hV1 RE hw5 hw6 EV J5 B5
            go_wp2_with (first | refine wpList_loadA rfl 24 11 aggCt sizCt _ rfl b 0 rfl K1 LK1.out CC.out ?_ | (refine wpList_storeA rfl 24 11 sizCt _ _ rfl b 21 rfl K1 N1 rfl LK1.out LN1.out CN.out FN.out OK1.out ?_; intro _; rw [hw5']) | refine wpList_loadA rfl 32 18 aggVd sizVd _ rfl b 21 rfl V1 LV1.out CV5.out ?_ | (refine wpList_storeA rfl 32 18 sizVd _ _ rfl s3 0 rfl V1 Z3 rfl LV1.out LZ3.out CR5.out FR5.out OV1.out ?_; intro _; rw [hw6']))
            refine bodyPost_ret (v := .agg V1.toArray) (results_A rfl _ _ s3 _ rfl (run_loadVarA 32 18 aggVd sizVd s3 0 _ LV1.out CV6.out)) rfl ?_
            exact ⟨by rw [HV1.out], B6.out⟩
      · have ek : k = 7 := by omega
        subst ek
        have RS : Hid (judgeR c s = (ck, vk)) := HR.out.symm
        clear HB HR hk hlt CGr
        obtain ⟨K1, hK1⟩ : ∃ K, K = (ck).cells := ⟨_, rfl⟩
        obtain ⟨N1, hN1⟩ : ∃ K, K = (vk).nx.cells := ⟨_, rfl⟩
        obtain ⟨V1, hV1⟩ : ∃ V, V = (judge c s).cells := ⟨_, rfl⟩
        have RE : judgeR c s = (ck, vk) := RS.out
        have EV : Hid (V1 = ({ vk with nx := ck } : Vd).cells) := by unfold Hid; rw [hV1]; unfold judge; rw [RE]
        have LK1 : Hid (K1.length = 11) := by rw [hK1]; exact rfl
        have LN1 : Hid (N1.length = 11) := by rw [hN1]; exact rfl
        have LV1 : Hid (V1.length = 18) := by rw [hV1]; exact rfl
        have OK1 : Hid (∀ u ∈ K1, u.oneCell' = true) := by rw [hK1]; exact ct_one _
        have OV1 : Hid (∀ u ∈ V1, u.oneCell' = true) := by rw [hV1]; exact vd_one _
        have CC : Hid (CellsAt wr b 0 K1) := by rw [hK1]; exact HJ.out.cc
        have CN : Hid (CellsAt wr b 21 N1) := by rw [hN1]; exact (CellsAt.append.1 (by have h := HJ.out.cv; rw [Vd.parts] at h; exact h)).1
        have FN : Hid (∀ y, wr.frozen? ⟨b, y, none⟩ = false) := HJ.out.fz
        obtain ⟨w5, hw5⟩ : ∃ w5, w5 = wr.setCells b 21 K1 := ⟨_, rfl⟩
        have J5 : Hid (JgAt w5 b (ck) s gv (.slice da s.dat.length dc) { vk with nx := ck }) := by rw [hw5, hK1]; exact HJ.out.stN (ck)
        have B5 : Hid (But (Only b) w4 w5) := by rw [hw5]; exact B4r.out.trans (But.cells b K1 21 wr)
        have CV5 : Hid (CellsAt w5 b 21 V1) := by rw [EV.out]; exact J5.out.cv
        have CR5 : Hid (CellsAt w5 s3 0 Z3) := C3.out.but L3.out B5.out (fun e => N34.out e)
        have FR5 : Hid (∀ y, w5.frozen? ⟨s3, y, none⟩ = false) := fun y => by have h := B5.out.frozen (p := ⟨s3, y, none⟩) L3.out (fun e => N34.out e); exact h.trans (F3.out y)
        obtain ⟨w6, hw6⟩ : ∃ w6, w6 = w5.setCells s3 0 V1 := ⟨_, rfl⟩
        have CV6 : Hid (CellsAt w6 s3 0 V1) := by rw [hw6]; exact CR5.out.stored (by rw [LV1.out, LZ3.out])
        have B6 : Hid (Below w.heap.size w w6) := by
          have h1 := HB4.out.trans (B5.out.below HB4.out.size (fun g hg e => by have e : g = b := e; have := S34.out; omega))
          rw [hw6]
          exact h1.trans ((But.cells s3 V1 0 w5).below h1.size (fun g hg e => by have e : g = s3 := e; have := S34.out; omega))
        have hw5' := hw5.symm
        have hw6' := hw6.symm
        have HV1 := hide hV1
        clear hK1 hN1 hV1 RE hw5 hw6 EV J5 B5
        go_wp2_with (first | refine wpList_loadA rfl 24 11 aggCt sizCt _ rfl b 0 rfl K1 LK1.out CC.out ?_ | (refine wpList_storeA rfl 24 11 sizCt _ _ rfl b 21 rfl K1 N1 rfl LK1.out LN1.out CN.out FN.out OK1.out ?_; intro _; rw [hw5']) | refine wpList_loadA rfl 32 18 aggVd sizVd _ rfl b 21 rfl V1 LV1.out CV5.out ?_ | (refine wpList_storeA rfl 32 18 sizVd _ _ rfl s3 0 rfl V1 Z3 rfl LV1.out LZ3.out CR5.out FR5.out OV1.out ?_; intro _; rw [hw6']))
        refine bodyPost_ret (v := .agg V1.toArray) (results_A rfl _ _ s3 _ rfl (run_loadVarA 32 18 aggVd sizVd s3 0 _ LV1.out CV6.out)) rfl ?_
        exact ⟨by rw [HV1.out], B6.out⟩
end
end Go.Proofs.Ytgdcdgofahhfdaa
