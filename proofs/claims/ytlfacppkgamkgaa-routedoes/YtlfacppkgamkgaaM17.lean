
/-
  slices.AppendSeq over the map's rows.
-/
import Derived.Test.YtlfacppkgamkgaaM16
namespace Go.Proofs.Ytlfacppkgamkgaa
open Go.RowKit Go.Shelf
attribute [local go_sem] Oper.semAt_some

theorem put_but (W : World) (l : Nat) (o : Obj) : But (fun g => g = l) W (W.putObj l o) := by
  have hg := grownBy_putObj' W l o
  exact ⟨hg.os, hg.tape, hg.output, hg.size, fun k hk hn => hg.block k hk (fun e => hn (Option.some.inj e))⟩
theorem But.put {K : Nat → Prop} {a W : World} (h : But K a W) {l : Nat} (hl : a.heap.size ≤ l) (o : Obj) : But K a (W.putObj l o) :=
  h.trans' (put_but W l o) (fun g hg e => by omega)
theorem KeepsFrom.of_but {B : Nat} {K : Nat → Prop} {W W' : World} (hb : But K W W') (hk : ∀ g, K g → ∃ o, W.heap[g]? = some o ∧ o.isCells = true) : KeepsFrom B W W' :=
  ⟨hb.size, fun k o _ ho hc => (hb.block k (Array.getElem?_eq_some_iff.1 ho).1 (fun e => by
    obtain ⟨o', h1, h2⟩ := hk k e
    rw [ho] at h1; cases h1; rw [hc] at h2; cases h2)).trans ho⟩
theorem cells_of_cell {W : World} {p : Addr} {v : Value} (h : W.cell? p = some v) : ∃ o, W.heap[p.block]? = some o ∧ o.isCells = true := by
  unfold World.cell? at h
  cases ho : W.heap[p.block]? with
  | none => rw [ho] at h; simp at h
  | some o => refine ⟨o, rfl, ?_⟩; rw [ho] at h; cases o <;> simp_all [Obj.isCells]

def Cel (W : World) (h : Nat) : Prop := ∃ o, W.heap[h]? = some o ∧ o.isCells = true
theorem Cel.but {K : Nat → Prop} {W W' : World} {h : Nat} (c : Cel W h) (hb : But K W W') (hk : ¬ K h) : Cel W' h := by
  obtain ⟨o, h1, h2⟩ := c
  exact ⟨o, (hb.block h (Array.getElem?_eq_some_iff.1 h1).1 hk).trans h1, h2⟩
theorem Cel.ne {W : World} {h l : Nat} {o : Obj} (c : Cel W h) (ho : W.heap[l]? = some o) (hc : o.isCells = false) : h ≠ l := by
  rintro rfl
  obtain ⟨o', h1, h2⟩ := c
  rw [ho] at h1
  cases h1
  rw [hc] at h2
  cases h2
theorem RowF.cel {n : Nat} {O : Nat → Prop} {W : World} {v : Value} {len : Nat} {c : Nat → List Value} (h : RowF n O W v len c) (hl : 0 < len) (hn : 0 < n) : RowF n (fun g => O g ∧ Cel W g) W v len c := by
  obtain ⟨a, cap, e, c2, c3, c4, c5⟩ := h
  refine ⟨a, cap, e, c2, c3, c4, fun ad ea => ?_⟩
  obtain ⟨g, d1, d2, d3, d4, rest⟩ := c5 ad ea
  have : 0 < cap * n := Nat.mul_pos (by omega) hn
  obtain ⟨x, hx⟩ := Option.isSome_iff_exists.1 (d4 0 this)
  exact ⟨g, d1, ⟨d2, cells_of_cell hx⟩, d3, d4, rest⟩
section
variable {l n : Nat} {ops : Array Oper} {rest : List Oper} {o : Oper} {a : Act} {w w' : World} {Q : Exit → Act → World → Prop}
/-- an operation of a region that keeps its order, in a round: a value, a store, a call -/
theorem listV (d : Tmp) (v : Value) (hgd : o.guard = none) (hnd : noDefer o = true) (hd : o.dst = some d) (hrun : (execOp a.eval o).run Try.prog w = .ok (.value v) w') (h : wpListIn (Fence.wide.inRound l) n Try.prog ops Q rest (a.put (some d) v) w') : wpListIn (Fence.wide.inRound l) n Try.prog ops Q (o :: rest) a w := by
  refine wpListIn_plain hgd fun K hK => ⟨fun _ _ => trivial, ?_⟩
  rw [Oper.semAt_eq _ _ _ (fun c e => by unfold noDefer at hnd; rw [e] at hnd; cases hnd), hrun]
  simp only [Oper.uponIn, hd]
  exact hK _ _ h
theorem listS (hgd : o.guard = none) (hnd : noDefer o = true) (hd : o.dst = none) (hrun : (execOp a.eval o).run Try.prog w = .ok .skip w') (h : wpListIn (Fence.wide.inRound l) n Try.prog ops Q rest a w') : wpListIn (Fence.wide.inRound l) n Try.prog ops Q (o :: rest) a w := by
  refine wpListIn_plain hgd fun K hK => ⟨fun _ _ => trivial, ?_⟩
  rw [Oper.semAt_eq _ _ _ (fun c e => by unfold noDefer at hnd; rw [e] at hnd; cases hnd), hrun]
  simp only [Oper.uponIn, hd, Act.put]
  exact hK _ _ h
theorem listC (d : Tmp) (F : FuncId) (vals : Array Value) (hgd : o.guard = none) (hnd : noDefer o = true) (hd : o.dst = some d) (hrun : (execOp a.eval o).run Try.prog w = .ok (.enter F vals) w') (R : Value → World → Prop) (hC : Calls Try.prog F vals w' fun e w2 => ∃ v, e = .returned v ∧ R v w2)
    (h : ∀ v w2, R v w2 → wpListIn (Fence.wide.inRound l) n Try.prog ops Q rest (a.put (some d) v) w2) : wpListIn (Fence.wide.inRound l) n Try.prog ops Q (o :: rest) a w := by
  refine wpListIn_plain hgd fun K hK => ⟨fun _ _ => trivial, ?_⟩
  rw [Oper.semAt_eq _ _ _ (fun c e => by unfold noDefer at hnd; rw [e] at hnd; cases hnd), hrun]
  simp only [Oper.uponIn, hd]
  refine ⟨fun h => by simp [Fence.wide] at h, callsIn_round (hC.mono ?_)⟩
  rintro _ w2 ⟨v, rfl, hR⟩
  exact hK _ _ (h v w2 hR)
end
theorem keeps_trans {B : Nat} {a b c : World} (h : KeepsFrom B a b) (h' : KeepsFrom B b c) : KeepsFrom B a c := ⟨Nat.le_trans h.size h'.size, fun k o hk ho hc => h'.same k o hk (h.same k o hk ho hc) hc⟩

theorem setCell_one (W : World) (g o : Nat) (v : Value) : W.setCell ⟨g, o, none⟩ v = W.setCells g o [v] := rfl
theorem info_row : (Try.prog.info? 57).map (fun i => (i.zero, i.size, i.bytes)) = some (some (.agg zRw.cells.toArray), 11, 32) := by kernel_rfl
def rwc (T : List Rw) (q : Nat) : List Value := ((T[q]?).getD zRw).cells
theorem rwc_len (T : List Rw) (q : Nat) : (rwc T q).length = 11 := rfl
theorem oneRs (w : World) : (isAgg 62).run Try.prog w = .ok false w := by kernel_rfl
theorem s1Rs (w : World) : (Go.sizeOf 62).run Try.prog w = .ok 1 w := by kernel_rfl
theorem exec_bsR {o : Oper} {w : World} {ev : Operand → Value} (x : Operand) (y : Rw) (ho : o.op = .buildSlice 62 1 #[(0, x)]) (hx : ev x = .agg y.cells.toArray) : (execOp ev o).run Try.prog w = .ok (.value (.slice (some ⟨w.heap.size, 0, none⟩) 1 1)) (w.alloc (.cells y.cells.toArray 57)) := by
  obtain ⟨⟨⟨a1, a2, a3, a4⟩, k5, ⟨g1, g2, g3, g4⟩, v6⟩, p7, s8⟩ := y
  unfold execOp
  simp [ho, hx, go_sem, Rw.cells, Wy.cells, I4.vals]
/-- between two rounds -/
def ApI (w1 : World) (L : List Rw) (s : Nat) (T : List Rw) (W : World) : Prop :=
  But (Only s) w1 W ∧ W.frozen? ⟨s, 0, none⟩ = false ∧ Told L T ∧ ∃ v, W.cell? ⟨s, 0, none⟩ = some v ∧ RowF 11 (fun h => w1.heap.size ≤ h ∧ Cel W h) W v T.length (rwc T)
theorem ApI.keep {w1 : World} {L : List Rw} {s : Nat} {T : List Rw} {W W' : World} {K : Nat → Prop} (h : ApI w1 L s T W) (hs : s < w1.heap.size) (hb : But K W W') (hk : ∀ g, K g → w1.heap.size ≤ g ∧ ¬ Cel W g) : ApI w1 L s T W' := by
  obtain ⟨h1, h2, h3, v, h4, h5⟩ := h
  have ns : ¬ K s := fun e => by have := (hk s e).1; omega
  have hl : s < W.heap.size := by have := h1.size; omega
  refine ⟨h1.trans' hb (fun q hq e => by have := (hk q e).1; omega), (hb.frozen (p := ⟨s, 0, none⟩) hl ns).trans h2, h3, v, (hb.cell (p := ⟨s, 0, none⟩) hl ns).trans h4, (h5.but hb (fun g e e2 => (hk g e2).2 e.2)).own (fun g _ e => ⟨e.1, ?_⟩)⟩
  exact e.2.but hb (fun e2 => (hk g e2).2 e.2)
set_option maxRecDepth 100000 in
set_option maxHeartbeats 4000000 in
theorem AppendSeq_in (n : Nat) (hn : 3 ≤ n) {w : World} (Bc b ck : Nat) (L : List Rw) (bh : Int) (hL : TbOk L ck bh) (hB : w.cell? ⟨Bc, 0, none⟩ = some (.map (some b))) (hM : MapAt w b L ck) :
    CallsIn Fence.wide n Try.prog 30 #[.slice none 0 0, .func (.func 28) #[] #[.pointer (some ⟨Bc, 0, none⟩)]] w fun e w' => ∃ v T, e = .returned v ∧ T.Perm L ∧ RowF 11 (fun h => w.heap.size ≤ h) w' v T.length (rwc T) ∧ Below w.heap.size w w' := by
  have h1 : 1 ≤ n := by omega
  have hBl : Bc < w.heap.size := World.block_lt_of_cell? w _ hB
  have hbl := hM.lt
  refine callsIn_of_wp_marks Try.func30 rfl trivial ?_ rfl
  simp only [Try.ntmps30, List.size_toArray, List.length_cons, List.length_nil, Nat.reduceAdd, Nat.reduceSub, Array.replicate_succ, Array.replicate_zero, List.push_toArray, List.append_toArray, List.nil_append, List.cons_append]
  obtain ⟨s, hs⟩ : ∃ s, s = w.heap.size := ⟨_, rfl⟩
  obtain ⟨w1, hw1⟩ : ∃ w1, w1 = w.alloc (.cells #[.slice none 0 0] 62) := ⟨_, rfl⟩
  have hb1 : Below w.heap.size w w1 := by rw [hw1]; exact (Below.refl _ _).alloc (Nat.le_refl _) _
  have hz1 : w1.heap.size = s + 1 := by rw [hw1, hs]; simp
  have c1 : w1.cell? ⟨s, 0, none⟩ = some (.slice none 0 0) := by
    have h := CellsAt.new w [.slice none 0 0] 62
    rw [hw1, hs]; exact h 0 _ rfl
  have f1 : w1.frozen? ⟨s, 0, none⟩ = false := by rw [hw1, hs]; exact frozen_new w _ _ _
  have I0 : ApI w1 L s [] w1 := ⟨But.refl _ _, f1, ⟨(fun _ h => by cases h), .nil⟩, _, c1, RowF.nil _ _ _ _⟩
  have sl : Hid (s < w1.heap.size) := by unfold Hid; omega
  have CB := hide ((hb1.cell (p := ⟨Bc, 0, none⟩) hBl).trans hB)
  have CM := hide (hM.later hb1)
  have HB1 := hide hb1
  have HS := hide hs
  have HZ1 := hide hz1
  have HL := hide hL
  have HW := hide (And.intro hBl hbl)
  have hw1' := hw1.symm
  have hs' := hs.symm
  clear hb1 hz1 c1 f1 hw1 hs hB hM hL hBl hbl
  gi_wp2
  clear hw1' hs'
  refine wpIn_range2 h1 (gf := 28) (lb := #[.pointer (some ⟨Bc, 0, none⟩)]) rfl (enters_of Try.func28 (by kernel_rfl) rfl) (ApI w1 L s) (fun _ _ => False) []
    (values_tells (n - 1) (by omega) Bc b w1.heap.size L ck bh HL.out _ (fun T W hI => ⟨(hI.1.cell (p := ⟨Bc, 0, none⟩) (by have := HZ1.out; have := HS.out; have := HW.out.1; show Bc < _; omega) (fun e => by have e : Bc = s := e; have := HS.out; have := HW.out.1; omega)).trans CB.out, CM.out.but hI.1 (fun e => by have e : b = s := e; have := HS.out; have := HW.out.2; omega)⟩)
      (fun T W W' hI hb => hI.keep sl.out (But.of_below (K := fun _ => False) hb) (fun _ e => e.elim)) (fun T W r o o' hr ho hc hI => hI.keep sl.out (put_but W r o') (fun q e => by subst e; exact ⟨hr, fun hcc => hcc.ne ho hc rfl⟩)))
    (fun T args ⟨_, _, _, e⟩ => by rw [e]; rfl) (fun T W o hI => hI.keep sl.out ((But.refl (fun _ => False) W).alloc o) (fun _ e => e.elim)) (fun T W l o o' hl ho hc hI => hI.keep sl.out (put_but W l o') (fun q e => by subst e; exact ⟨hl, fun hcc => hcc.ne ho hc rfl⟩)) (fun c W l o o' hl ho hc h => h.elim) I0 ?round ?done ?stop
  case stop => intro D c W _ h; exact h.elim
  case done =>
    intro D T W hD hF hI hDW
    obtain ⟨hbW, hfz, _, v, cv, rv⟩ := hI
    obtain ⟨xa, xc, hxv⟩ := rv.shape
    have nD : ¬ Cel W D := fun e => e.ne hDW rfl rfl
    have bp := put_but W D (.deferred none)
    have zW := hbW.size
    have FE : Hid (RowF 11 (fun q => w.heap.size ≤ q) (W.putObj D (.deferred none)) v T.length (rwc T) ∧ Below w.heap.size w (W.putObj D (.deferred none))) :=
      ⟨(rv.but bp (fun q e e2 => by rw [e2] at e; exact nD e.2)).own (fun q _ e => by have := HZ1.out; have := HS.out; have := e.1; omega), (HB1.out.trans (hbW.below HB1.out.size (fun q hq e => by have e : q = s := e; have := HS.out; omega))).trans (bp.below (by have := HB1.out.size; omega) (fun q hq e => by have := HB1.out.size; omega))⟩
    have HDW := hide hDW
    have HF := hide hF
    rw [hxv] at cv FE
    clear hbW hfz rv hDW nD bp zW hD hF
    gi_wp2
    refine ⟨by simp, .inl ⟨_, _, rfl, run_takeDeferred HDW.out, ?_⟩⟩
    exact ⟨_, by simp [results, go_sem], _, T, rfl, HF.out, FE.out⟩
  case round =>
    rintro l T args W' hlS hI ⟨q, hq, hqn, rfl⟩
    -- the new variable
    obtain ⟨p, hp⟩ : ∃ p, p = W'.heap.size := ⟨_, rfl⟩
    obtain ⟨wA, wB, hwA, hwB, cA, fA, cB, bB, lB⟩ := newV W' 57 zRw.cells q.cells rfl
    rw [← hp] at hwB cA fA cB lB
    simp only [List.zip_toArray, List.zip_cons_cons, List.zip_nil_right, List.foldl_toArray, List.foldl_cons, List.foldl_nil]
    refine wpIn_region_lit ?_
    refine listV (w' := wA) 5 (.pointer (some ⟨p, 0, none⟩)) rfl rfl rfl (by rw [hwA, hp]; exact exec_allocR rfl) ?_
    try simp only [Act.put, List.setIfInBounds_toArray, List.set_cons_zero, List.set_cons_succ]
    refine listS (w' := wB) rfl rfl rfl (by rw [hwB]; exact exec_storeA 57 11 sizR _ _ rfl p 0 rfl q.cells zRw.cells rfl rfl rfl cA fA (row_one _)) ?_
    refine ⟨KeepsFrom.of_but (But.of_below (K := fun _ => False) bB) (fun _ e => e.elim), ?_⟩
    intro o o' hoo hc
    have hI2 : ApI w1 L s T (wB.putObj l o') := (hI.keep sl.out (But.of_below (K := fun _ => False) bB) (fun _ e => e.elim)).keep sl.out (put_but wB l o') (fun q e => by subst e; exact ⟨hlS, fun hcc => hcc.ne hoo hc rfl⟩)
    have pl : ¬ (p = l) := by
      have h0 := cB 0 (.int .u8 q.w.net.a) rfl
      exact Cel.ne (cells_of_cell h0) hoo hc
    have cP : CellsAt (wB.putObj l o') p 0 q.cells := cB.but lB (put_but wB l o') pl
    clear hoo hc hwA hwB cA fA bB hI
    generalize wB.putObj l o' = W2 at *
    refine wpIn_block ?_
    obtain ⟨hbW, hfz, hT, v, cv, rv⟩ := hI2
    have z1 := HZ1.out
    have zW := hbW.size
    have hls : s < W2.heap.size := World.block_lt_of_cell? W2 _ cv
    have lT : T.length < 8 := by have := hT.len HL.out hq hqn; have := HL.out.len; omega
    obtain ⟨p2, hp2⟩ : ∃ p2, p2 = W2.heap.size := ⟨_, rfl⟩
    obtain ⟨wE, hwE⟩ : ∃ z, z = W2.alloc (.cells q.cells.toArray 57) := ⟨_, rfl⟩
    have nE : But (fun _ => False) W2 wE := by rw [hwE]; exact (But.refl _ _).alloc _
    have cE : CellsAt wE p2 0 q.cells := by rw [hwE, hp2]; exact CellsAt.new W2 _ 57
    have zE : wE.heap.size = p2 + 1 := by rw [hwE, hp2]; simp
    obtain ⟨i0, hi, hz0, hz1, hz2⟩ := info_parts info_row
    obtain ⟨a', c', wF, hrun, rF, hbF⟩ := (rv.but nE (fun _ _ => id)).push 62 57 i0 _ Try.underlying62 hi hz0 hz1 (by omega) rfl (fun j hj => rwc_len T j) (fun j hj => row_one _) q.cells rfl (row_one _) p2 cE (by omega)
    have zF := hbF.size
    have ns1 : ¬ (w1.heap.size ≤ s ∧ Cel W2 s) := fun e => by have := e.1; omega
    have cvE : wE.cell? ⟨s, 0, none⟩ = some v := (nE.cell (p := ⟨s, 0, none⟩) hls id).trans cv
    have hlE : s < wE.heap.size := World.block_lt_of_cell? wE _ cvE
    have cvF : wF.cell? ⟨s, 0, none⟩ = some v := (hbF.cell (p := ⟨s, 0, none⟩) hlE ns1).trans cvE
    have fvF : wF.frozen? ⟨s, 0, none⟩ = false := (hbF.frozen (p := ⟨s, 0, none⟩) hlE ns1).trans ((nE.frozen (p := ⟨s, 0, none⟩) hls id).trans hfz)
    obtain ⟨wG, hwG⟩ : ∃ z, z = wF.setCell ⟨s, 0, none⟩ (.slice a' (T.length + 1) c') := ⟨_, rfl⟩
    have nG : But (Only s) wF wG := by rw [hwG]; exact (But.refl (Only s) wF).setCell (p := ⟨s, 0, none⟩) (.inr rfl) _
    have FIN : KeepsFrom w1.heap.size W2 wG ∧ ApI w1 L s (T ++ [q]) wG := by
      refine ⟨keeps_trans (KeepsFrom.of_but nE (fun _ e => e.elim)) (keeps_trans (KeepsFrom.of_but hbF (fun q e => e.2.but nE id)) (KeepsFrom.of_but nG (fun q e => by have e : q = s := e; rw [e]; exact cells_of_cell cvF))), ((hbW.trans (nE.mono (fun _ e => e.elim))).trans' hbF (fun q hq e => by have := e.1; omega)).trans nG, by rw [hwG, setCell_one, World.frozen?_setCells]; exact fvF, hT.more hq hqn, .slice a' (T.length + 1) c', by rw [hwG]; exact World.cell?_setCell_same _ _ _ cvF, ?_⟩
      have r1 := (rF.own (O' := fun h => w1.heap.size ≤ h ∧ h ≠ s) (fun h hh e => by
        rcases e with e | e
        · exact ⟨e.1, fun e2 => ns1 (e2 ▸ e)⟩
        · exact ⟨by omega, by omega⟩)).but nG (fun h e e2 => e.2 e2)
      have r2 := ((r1.cel (by omega) (by omega)).own (O' := fun h => w1.heap.size ≤ h ∧ Cel wG h) (fun h _ e => ⟨e.1.1, e.2⟩)).cong (c' := rwc (T ++ [q])) (fun j hj => by
        unfold rwc
        by_cases e : j < T.length
        · rw [if_pos e, List.getElem?_append_left e]
        · have ej : j = T.length := by omega
          subst ej
          rw [if_neg e]
          simp)
      rw [show (T ++ [q]).length = T.length + 1 by simp]
      exact r2
    refine wpIn_region_lit ?_
    refine listV (w' := W2) 8 (v) rfl rfl rfl (exec_load1 62 oneRs _ rfl s 0 rfl v cv) ?_
    try simp only [Act.put, List.setIfInBounds_toArray, List.set_cons_zero, List.set_cons_succ]
    refine listV (w' := W2) 9 (.agg (q.cells).toArray) rfl rfl rfl (exec_loadA 57 11 aggR sizR _ rfl p 0 rfl (q.cells) rfl (cP)) ?_
    try simp only [Act.put, List.setIfInBounds_toArray, List.set_cons_zero, List.set_cons_succ]
    refine listV (w' := wE) 10 (.slice (some ⟨p2, 0, none⟩) 1 1) rfl rfl rfl (by rw [hwE, hp2]; exact exec_bsR _ q rfl rfl) ?_
    try simp only [Act.put, List.setIfInBounds_toArray, List.set_cons_zero, List.set_cons_succ]
    refine listV (w' := wF) 11 (.slice a' (T.length + 1) c') rfl rfl rfl (exec_app _ _ 62 62 rfl v (.slice (some ⟨p2, 0, none⟩) 1 1) rfl rfl 62 rfl hrun) ?_
    try simp only [Act.put, List.setIfInBounds_toArray, List.set_cons_zero, List.set_cons_succ]
    refine listS (w' := wG) rfl rfl rfl (by rw [hwG]; exact exec_store1 62 s1Rs _ _ rfl s 0 rfl v _ rfl cvF fvF rfl) ?_
    exact ⟨FIN.1, _, ⟨q, hq, hqn, rfl, rfl⟩, FIN.2⟩
end Go.Proofs.Ytlfacppkgamkgaa
