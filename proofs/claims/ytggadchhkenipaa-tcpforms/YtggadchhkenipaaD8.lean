
/-
  Package tcp: spans.
-/
import Derived.Test.YtggadchhkenipaaD7
namespace Go.Proofs.Ytggadchhkenipaa
open Go.RowKit Go.Shelf
attribute [local go_sem] Oper.semAt_some

/-- block h holds cells -/
def Cel (W : World) (h : Nat) : Prop := ∃ o, W.heap[h]? = some o ∧ o.isCells = true
theorem Cel.but {K : Nat → Prop} {W W' : World} {h : Nat} (c : Cel W h) (hb : But K W W') (hk : ¬ K h) : Cel W' h := by
  obtain ⟨o, h1, h2⟩ := c
  exact ⟨o, (hb.block h (Array.getElem?_eq_some_iff.1 h1).1 hk).trans h1, h2⟩
theorem Cel.ne {W : World} {h l : Nat} {o : Obj} (c : Cel W h) (ho : W.heap[l]? = some o) (hc : o.isCells = false) : h ≠ l := by
  rintro rfl
  obtain ⟨o', h1, h2⟩ := c
  rw [ho] at h1
  cases h1
  rw [hc] at h2
  cases h2
theorem RowF.cel {n : Nat} {O : Nat → Prop} {W : World} {v : Value} {len : Nat} {c : Nat → List Value} (h : RowF n O W v len c) (hl : 0 < len) (hn : 0 < n) : RowF n (fun g => O g ∧ Cel W g) W v len c := by
  obtain ⟨a, cap, e, c2, c3, c4, c5⟩ := h
  refine ⟨a, cap, e, c2, c3, c4, fun ad ea => ?_⟩
  obtain ⟨g, d1, d2, d3, d4, rest⟩ := c5 ad ea
  have : 0 < cap * n := Nat.mul_pos (by omega) hn
  obtain ⟨x, hx⟩ := Option.isSome_iff_exists.1 (d4 0 this)
  exact ⟨g, d1, ⟨d2, cells_of_cell hx⟩, d3, d4, rest⟩
theorem keeps_trans {B : Nat} {a b c : World} (h : KeepsFrom B a b) (h' : KeepsFrom B b c) : KeepsFrom B a c := ⟨Nat.le_trans h.size h'.size, fun k o hk ho hc => h'.same k o hk (h.same k o hk ho hc) hc⟩
/-- variables that are boxed one behind the other -/
def boxes : List (Value × TypeId) → World → World
  | [], w => w
  | p :: l, w => boxes l (w.alloc (.cells #[p.1] p.2))
theorem boxes_below : ∀ (l : List (Value × TypeId)) (w : World), Below w.heap.size w (boxes l w) ∧ (boxes l w).heap.size = w.heap.size + l.length
  | [], w => ⟨Below.refl _ _, rfl⟩
  | p :: l, w => by
    obtain ⟨h1, h2⟩ := boxes_below l (w.alloc (.cells #[p.1] p.2))
    rw [World.size_alloc] at h1 h2
    exact ⟨((Below.refl _ w).alloc (Nat.le_refl _) _).trans (h1.mono (by omega)), by unfold boxes; rw [h2, List.length_cons]; omega⟩
theorem boxes_at : ∀ (l : List (Value × TypeId)) (w : World) (j : Nat) (v : Value) (t : TypeId), l[j]? = some (v, t) → (boxes l w).cell? ⟨w.heap.size + j, 0, none⟩ = some v ∧ (boxes l w).frozen? ⟨w.heap.size + j, 0, none⟩ = false
  | p :: l, w, 0, v, t, h => by
    cases h
    have hb := (boxes_below l (w.alloc (.cells #[v] t))).1
    have hc := CellsAt.new w [v] t 0 v rfl
    have hf := frozen_new w #[v] t 0
    have hl : w.heap.size < (w.alloc (.cells #[v] t)).heap.size := by simp
    exact ⟨(hb.cell (p := ⟨w.heap.size, 0, none⟩) hl).trans hc, (hb.frozen (p := ⟨w.heap.size, 0, none⟩) hl).trans hf⟩
  | p :: l, w, j + 1, v, t, h => by
    have := boxes_at l (w.alloc (.cells #[p.1] p.2)) j v t (by simpa using h)
    rw [World.size_alloc, show w.heap.size + 1 + j = w.heap.size + (j + 1) by omega] at this
    exact this
section
variable {l n : Nat} {ops : Array Oper} {rest : List Oper} {o : Oper} {a : Act} {w w' : World} {Q : Exit → Act → World → Prop}
/-- an operation of a region that keeps its order, in a round: a value, a store, a call -/
theorem listV (d : Tmp) (v : Value) (hgd : o.guard = none) (hnd : noDefer o = true) (hd : o.dst = some d) (hrun : (execOp a.eval o).run Try.prog w = .ok (.value v) w') (h : wpListIn (Fence.wide.inRound l) n Try.prog ops Q rest (a.put (some d) v) w') : wpListIn (Fence.wide.inRound l) n Try.prog ops Q (o :: rest) a w := by
  refine wpListIn_plain hgd fun K hK => ⟨fun _ _ => trivial, ?_⟩
  rw [Oper.semAt_eq _ _ _ (fun c e => by unfold noDefer at hnd; rw [e] at hnd; cases hnd), hrun]
  simp only [Oper.uponIn, hd]
  exact hK _ _ h
theorem listS (hgd : o.guard = none) (hnd : noDefer o = true) (hd : o.dst = none) (hrun : (execOp a.eval o).run Try.prog w = .ok .skip w') (h : wpListIn (Fence.wide.inRound l) n Try.prog ops Q rest a w') : wpListIn (Fence.wide.inRound l) n Try.prog ops Q (o :: rest) a w := by
  refine wpListIn_plain hgd fun K hK => ⟨fun _ _ => trivial, ?_⟩
  rw [Oper.semAt_eq _ _ _ (fun c e => by unfold noDefer at hnd; rw [e] at hnd; cases hnd), hrun]
  simp only [Oper.uponIn, hd, Act.put]
  exact hK _ _ h
theorem listC (d : Tmp) (F : FuncId) (vals : Array Value) (hgd : o.guard = none) (hnd : noDefer o = true) (hd : o.dst = some d) (hrun : (execOp a.eval o).run Try.prog w = .ok (.enter F vals) w') (R : Value → World → Prop) (hC : Calls Try.prog F vals w' fun e w2 => ∃ v, e = .returned v ∧ R v w2)
    (h : ∀ v w2, R v w2 → wpListIn (Fence.wide.inRound l) n Try.prog ops Q rest (a.put (some d) v) w2) : wpListIn (Fence.wide.inRound l) n Try.prog ops Q (o :: rest) a w := by
  refine wpListIn_plain hgd fun K hK => ⟨fun _ _ => trivial, ?_⟩
  rw [Oper.semAt_eq _ _ _ (fun c e => by unfold noDefer at hnd; rw [e] at hnd; cases hnd), hrun]
  simp only [Oper.uponIn, hd]
  refine ⟨fun h => by simp [Fence.wide] at h, callsIn_round (hC.mono ?_)⟩
  rintro _ w2 ⟨v, rfl, hR⟩
  exact hK _ _ (h v w2 hR)
end


def zSp : Sp := ⟨0, 0⟩
theorem info_sp : (Try.prog.info? 68).map (fun i => (i.zero, i.size, i.bytes)) = some (some (.agg zSp.cells.toArray), 2, 8) := by kernel_rfl
theorem s1Sps (w : World) : (Go.sizeOf 23).run Try.prog w = .ok 1 w := by kernel_rfl
/-- the cells of the j-th span -/
def spc (L : List Sp) (j : Nat) : List Value := ((L[j]?).getD zSp).cells
theorem spc_len (L : List Sp) (j : Nat) : (spc L j).length = 2 := rfl
theorem spc_at {L : List Sp} {j : Nat} {x : Sp} (h : L[j]? = some x) : spc L j = x.cells := by unfold spc; rw [h]; rfl
theorem spc_app (L : List Sp) (r : Sp) (q : Nat) (hq : q < L.length + 1) : spc (L ++ [r]) q = if q < L.length then spc L q else r.cells := by
  unfold spc
  by_cases e : q < L.length
  · rw [if_pos e, List.getElem?_append_left e]
  · rw [if_neg e, show q = L.length by omega]
    simp
theorem sp_one (x : Sp) : ∀ u ∈ x.cells, u.oneCell' = true := by
  intro u hu
  simp only [Sp.cells, List.mem_cons, List.not_mem_nil, or_false] at hu
  rcases hu with rfl | rfl <;> rfl
/-- the slice v holds spans, in a block of O, from its beginning on -/
def GG (O : Nat → Prop) (W : World) (v : Value) (L : List Sp) : Prop := RowF 2 O W v L.length (spc L)
theorem GG.cg {O : Nat → Prop} {W : World} {v : Value} {L : List Sp} (h : GG O W v L) : CG O W v L := by
  have h' := h
  obtain ⟨a, cap, e, c2, c3, c4, c5⟩ := h
  subst e
  refine ⟨a, cap, rfl, c2, c4, fun h0 => ?_⟩
  obtain ⟨g, rfl, hg, ho, hf, hc⟩ := h'.at h0
  exact ⟨g, 0, rfl, ho, hg, fun k x hx => by rw [Nat.zero_add, ← spc_at hx]; exact hc k (List.getElem?_eq_some_iff.1 hx).1⟩
/-- spans out of bytes -/
def spL (bs : List Int) (q : Nat) : List Sp := (List.range q).map (fun i => ⟨w32 bs (8 * i), w32 bs (8 * i + 4)⟩)
theorem spL_len (bs : List Int) (q : Nat) : (spL bs q).length = q := by unfold spL; simp
theorem spL_succ (bs : List Int) (q : Nat) : spL bs (q + 1) = spL bs q ++ [⟨w32 bs (8 * q), w32 bs (8 * q + 4)⟩] := by
  unfold spL
  rw [List.range_succ, List.map_append]
  rfl
theorem w32_take (bs : List Int) (a k n : Nat) (h : k + 4 ≤ n) : w32 ((bs.drop a).take n) k = w32 bs (a + k) := by
  have e : ∀ i, i < n → nb ((bs.drop a).take n) i = nb bs (a + i) := fun i hi => by
    unfold nb
    rw [List.getElem?_take, if_pos hi, List.getElem?_drop]
  unfold w32
  rw [e k (by omega), e (k + 1) (by omega), e (k + 2) (by omega), e (k + 3) (by omega)]
  rfl
theorem exec_bldSp {o : Oper} {w : World} {ev : Operand → Value} (x y : Operand) (a b : Int) (ho : o.op = .build 68 #[(0, x), (1, y)]) (hx : ev x = .int .u32 a) (hy : ev y = .int .u32 b) :
    (execOp ev o).run Try.prog w = .ok (.value (.agg (Sp.cells ⟨a, b⟩).toArray)) w := by
  unfold execOp
  rw [ho]
  simp only [List.map_toArray, List.map_cons, List.map_nil, hx, hy]
  kernel_rfl
theorem exec_bsSp {o : Oper} {w : World} {ev : Operand → Value} (x : Operand) (s : Sp) (ho : o.op = .buildSlice 23 1 #[(0, x)]) (hx : ev x = .agg s.cells.toArray) : (execOp ev o).run Try.prog w = .ok (.value (.slice (some ⟨w.heap.size, 0, none⟩) 1 1)) (w.alloc (.cells s.cells.toArray 68)) := by
  unfold execOp
  rw [ho]
  simp only [List.map_toArray, List.map_cons, List.map_nil, hx]
  kernel_rfl
/-- between two rounds of spans: its variable is at s -/
def SpI (w1 : World) (s : Nat) (bs : List Int) (k : Nat) (W : World) : Prop :=
  But (Only s) w1 W ∧ W.frozen? ⟨s, 0, none⟩ = false ∧ ∃ v, W.cell? ⟨s, 0, none⟩ = some v ∧ GG (fun g => w1.heap.size ≤ g ∧ Cel W g) W v (spL bs k)
theorem SpI.keep {w1 : World} {s : Nat} {bs : List Int} {k : Nat} {W W' : World} {K : Nat → Prop} (h : SpI w1 s bs k W) (hs : s < w1.heap.size) (hb : But K W W') (hk : ∀ g, K g → w1.heap.size ≤ g ∧ ¬ Cel W g) : SpI w1 s bs k W' := by
  obtain ⟨h1, h2, v, h3, h4⟩ := h
  have zs : s < W.heap.size := World.block_lt_of_cell? W _ h3
  have ks : ¬ K s := fun e => by have := (hk s e).1; omega
  refine ⟨h1.trans' hb (fun g hg e => by have := (hk g e).1; omega), (hb.frozen (p := ⟨s, 0, none⟩) zs ks).trans h2, v, (hb.cell (p := ⟨s, 0, none⟩) zs ks).trans h3, ?_⟩
  exact (RowF.but h4 hb (fun g e e2 => (hk g e2).2 e.2)).own (fun g hg e => ⟨e.1, e.2.but hb (fun e2 => (hk g e2).2 e.2)⟩)
set_option maxRecDepth 100000 in
set_option maxHeartbeats 4000000 in
theorem spans_in (n : Nat) (hn : 3 ≤ n) {w : World} (a0 : Option Addr) (C q : Nat) (bs : List Int) (hq : q ≤ 3) (hlq : bs.length = 8 * q) (hb : IsB w.heap.size w (.slice a0 bs.length C) bs) (hB : Bytes bs) :
    CallsIn Fence.wide n Try.prog 61 #[.slice a0 bs.length C] w fun e w' => ∃ v, e = .returned v ∧ GG (fun g => w.heap.size ≤ g) w' v (spL bs q) ∧ Below w.heap.size w w' := by
  have h1 : 1 ≤ n := by omega
  obtain ⟨a', c', e', hlc, hnil, hc⟩ := hb
  simp only [Value.slice.injEq] at e'
  obtain ⟨rfl, -, rfl⟩ := e'
  obtain ⟨g, off, hga, hgl, hcs⟩ : ∃ g off, (0 < bs.length → a0 = some ⟨g, off, none⟩) ∧ (0 < bs.length → g < w.heap.size) ∧ ∀ j, j < bs.length → w.cell? ⟨g, off + j, none⟩ = some (.int .u8 (bs[j]?.getD 0)) := by
    by_cases h0 : 0 < bs.length
    · obtain ⟨g, off, e, hg, hcs⟩ := hc (by omega)
      exact ⟨g, off, fun _ => e, fun _ => hg, fun j hj => hcs j (by omega)⟩
    · exact ⟨0, 0, fun h => absurd h h0, fun h => absurd h h0, fun j hj => by omega⟩
  have HLQ := hide hlq
  have HGA := hide hga
  have HGL := hide hgl
  have HCS := hide hcs
  have HBY := hide hB
  obtain ⟨N, hN⟩ : ∃ N, N = bs.length := ⟨_, rfl⟩
  rw [← hN] at HGA HGL HCS hlc ⊢
  have HN : Hid (N = 8 * q) := by rw [hN]; exact hlq
  have HN2 := hide hN
  clear hlq hga hgl hcs hB hc hnil hN
  refine callsIn_of_wp_marks Try.func61 rfl trivial ?_ rfl
  simp only [Try.ntmps61, List.size_toArray, List.length_cons, List.length_nil, Nat.reduceAdd, Nat.reduceSub, Array.replicate_succ, Array.replicate_zero, List.push_toArray, List.append_toArray, List.nil_append, List.cons_append]
  gi_wp2_with fail
  refine ⟨trivial, ?_⟩
  refine (chunk_in (n - 1) a0 N C _).mono ?_
  rintro e w' ⟨rfl, rfl⟩
  simp only [World.size_alloc]
  obtain ⟨s, hs⟩ : ∃ s, s = w.heap.size := ⟨_, rfl⟩
  rw [← hs]
  obtain ⟨w1, hw1⟩ : ∃ w1, w1 = boxes [(.slice none 0 0, 23), (.slice a0 N C, 24), (.int .i64 8, 3)] w := ⟨_, rfl⟩
  have hbx := boxes_at [(.slice none 0 0, 23), (.slice a0 N C, 24), (.int .i64 8, 3)] w
  obtain ⟨hb1, hz0⟩ := boxes_below [(.slice none 0 0, 23), (.slice a0 N C, 24), (.int .i64 8, 3)] w
  rw [← hw1, ← hs] at hbx
  rw [← hw1] at hb1 hz0
  have hz1 : w1.heap.size = s + 3 := by rw [hz0, hs]; rfl
  clear hz0
  have k0 := hbx 0 _ _ rfl
  have cB : w1.cell? ⟨s + 1, 0, none⟩ = some (.slice a0 N C) := (hbx 1 _ _ rfl).1
  have cN : w1.cell? ⟨s + 2, 0, none⟩ = some (.int .i64 8) := (hbx 2 _ _ rfl).1
  have hw1' := hw1.symm
  simp only [boxes] at hw1'
  rw [hw1']
  have I0 : SpI w1 s bs 0 w1 := ⟨But.refl _ _, k0.2, _, k0.1, RowF.nil _ _ _ _⟩
  have HB1 := hide hb1
  have HS := hide hs
  have HZ1 := hide hz1
  have sl : Hid (s < w1.heap.size) := by unfold Hid; omega
  have CB := hide cB
  have CN := hide cN
  clear hs hw1 hw1' hbx hb1 k0 hz1 cB cN
  gi_wp2
  refine wpIn_range h1 (gf := 73) (lb := #[.pointer (some ⟨s + 1, 0, none⟩), .pointer (some ⟨s + 2, 0, none⟩)]) rfl (enters_of Try.func73 (by kernel_rfl) rfl) (SpI w1 s bs) (fun _ _ => False) 0
    (chunk_tells (n - 1) (by omega) (s + 1) (s + 2) g off q C a0 hq (by have := HN.out; omega) (fun hl => HGA.out (by have := HN.out; omega)) _ (fun j W hI => ⟨by rw [← HN.out]; exact (hI.1.cell (p := ⟨s + 1, 0, none⟩) (by have := HZ1.out; show s + 1 < _; omega) (fun e => by have e : s + 1 = s := e; omega)).trans CB.out, (hI.1.cell (p := ⟨s + 2, 0, none⟩) (by have := HZ1.out; show s + 2 < _; omega) (fun e => by have e : s + 2 = s := e; omega)).trans CN.out⟩) (fun j W hI => hI.keep sl.out ((But.refl (fun _ => False) W).drew) (fun _ e => e.elim)))
    (fun j args ⟨_, e⟩ => by rw [e]; rfl) (fun j W o hI => hI.keep sl.out ((But.refl (fun _ => False) W).alloc o) (fun _ e => e.elim)) (fun j W l o o' hl ho hc hI => hI.keep sl.out (put_but W l o') (fun q e => by subst e; exact ⟨hl, fun hcc => hcc.ne ho hc rfl⟩)) (fun c W o h => h.elim) (fun c W l o o' hl ho hc h => h.elim) (fun c W h => h.elim) I0 ?round ?done ?stop
  case stop => intro D c W _ h; exact h.elim
  case done =>
    intro D j W hD hj hI hDW
    subst hj
    obtain ⟨hbW, hfz, v, cv, rv⟩ := hI
    have z1 := HZ1.out
    have hsW := HS.out
    obtain ⟨xa, xc, hxv⟩ := rv.shape
    have nD : ¬ Cel W D := fun e => e.ne hDW rfl rfl
    have zW := hbW.size
    have bp := put_but W D (.deferred none)
    have FE : Hid (GG (fun q => w.heap.size ≤ q) (W.putObj D (.deferred none)) v (spL bs j) ∧ Below w.heap.size w (W.putObj D (.deferred none))) :=
      ⟨(RowF.but rv bp (fun q e e2 => by rw [e2] at e; exact nD e.2)).own (fun q _ e => by have := e.1; omega), (HB1.out.trans (hbW.below HB1.out.size (fun q hq e => by have e : q = s := e; omega))).trans (bp.below (by have := HB1.out.size; omega) (fun q hq e => by omega))⟩
    have HDW := hide hDW
    rw [hxv] at cv FE
    clear hbW hfz rv hDW nD bp z1 hsW zW hD
    gi_wp2
    refine ⟨by simp, .inl ⟨_, _, rfl, run_takeDeferred HDW.out, ?_⟩⟩
    exact ⟨_, by simp [results, go_sem], _, rfl, FE.out⟩
  case round =>
    rintro l j args W' hlS hI ⟨hjq, rfl⟩
    have HI := hide hI
    clear hI
    gi_wp2
    refine ⟨KeepsFrom.refl _ _, ?_⟩
    intro o o' hoo hc
    have I2 : SpI w1 s bs j (W'.putObj l o') := HI.out.keep sl.out (put_but W' l o') (fun q e => by subst e; exact ⟨hlS, fun hcc => hcc.ne hoo hc rfl⟩)
    clear hoo hc HI
    generalize W'.putObj l o' = W2 at *
    refine wpIn_block ?_
    obtain ⟨hbW, hfz, v, cv, rv⟩ := I2
    have z1 := HZ1.out
    have zW := hbW.size
    have hls : s < W2.heap.size := World.block_lt_of_cell? W2 _ cv
    have hs1 := HS.out
    have IB2 : IsB W2.heap.size W2 (.slice (some ⟨g, off + 8 * j, none⟩) 8 8) ((bs.drop (8 * j)).take 8) := by
      have e8 : ((bs.drop (8 * j)).take 8).length = 8 := by rw [List.length_take, List.length_drop]; have := HLQ.out; omega
      have hl0 : 0 < N := by have := HN.out; omega
      have gl := HGL.out hl0
      refine ⟨_, 8, by rw [e8], by rw [e8]; exact Nat.le_refl _, (fun e => by cases e), fun _ => ⟨g, off + 8 * j, rfl, by omega, fun i hi => ?_⟩⟩
      rw [e8] at hi
      have hg : w1.cell? ⟨g, off + 8 * j + i, none⟩ = some (.int .u8 (bs[8 * j + i]?.getD 0)) := by
        rw [Nat.add_assoc]
        exact (HB1.out.cell (p := ⟨g, off + (8 * j + i), none⟩) gl).trans (HCS.out _ (by have := HN.out; omega))
      rw [(hbW.cell (p := ⟨g, off + 8 * j + i, none⟩) (by show g < _; omega) (fun e => by have e : g = s := e; omega)), hg, List.getElem?_take, if_pos hi, List.getElem?_drop]
    have BB2 : Bytes ((bs.drop (8 * j)).take 8) := (HBY.out.drop _).take _
    have L8 : ((bs.drop (8 * j)).take 8).length = 8 := by rw [List.length_take, List.length_drop]; have := HLQ.out; omega
    obtain ⟨x, hx⟩ : ∃ x : Sp, x = ⟨w32 bs (8 * j), w32 bs (8 * j + 4)⟩ := ⟨_, rfl⟩
    have A0 : ∀ W, Below W2.heap.size W2 W → Calls Try.prog 58 #[.slice (some ⟨g, off + 8 * j, none⟩) 8 8, .int .i64 0] W fun e w' => e = .returned (.int .u32 x.f) ∧ Below W.heap.size W w' := fun W hW => by
      have h := at32_any _ _ 0 W (IB2.later hW) BB2 (by rw [L8]; decide) (by rw [L8]; decide)
      rw [w32_take _ _ _ _ (by decide)] at h
      rw [hx]
      exact h
    have A4 : ∀ W, Below W2.heap.size W2 W → Calls Try.prog 58 #[.slice (some ⟨g, off + 8 * j, none⟩) 8 8, .int .i64 4] W fun e w' => e = .returned (.int .u32 x.t) ∧ Below W.heap.size W w' := fun W hW => by
      have h := at32_any _ _ 4 W (IB2.later hW) BB2 (by rw [L8]; decide) (by rw [L8]; decide)
      rw [w32_take _ _ _ _ (by decide)] at h
      rw [hx]
      exact h
    have TK : spL bs (j + 1) = spL bs j ++ [x] := by rw [hx]; exact spL_succ bs j
    have QL : (spL bs j).length = j := spL_len bs j
    generalize spL bs j = Q at *
    obtain ⟨va, vc, rfl⟩ := rv.shape
    rw [QL] at cv
    have S0 : ∀ W, Below W2.heap.size W2 W → W.cell? ⟨s, 0, none⟩ = some (.slice va j vc) ∧ W.frozen? ⟨s, 0, none⟩ = false := fun W hW => ⟨(hW.cell (p := ⟨s, 0, none⟩) hls).trans cv, (hW.frozen (p := ⟨s, 0, none⟩) hls).trans hfz⟩
    refine regionJ_in (fun i => decide (i ≤ 7)) (fun W => W.cell? ⟨s, 0, none⟩ = some (.slice va j vc)) (by kernel_rfl) (by kernel_rfl) ?_
    refine takeJ (i := 0) (v := .slice va j vc) 8 rfl rfl (by kernel_rfl) (by kernel_rfl) (by kernel_rfl) (by kernel_rfl) (fun _ _ _ h => h) (.inl ⟨by rfl, fun W hW => exec_load1 23 oneSps _ rfl s 0 rfl (.slice va j vc) (hW)⟩) (cv) ?_
    try simp only [Act.put, List.setIfInBounds_toArray, List.set_cons_zero, List.set_cons_succ]
    refine takeJ (i := 1) (v := .slice (some ⟨g, off + 8 * j, none⟩) 8 8) 9 rfl rfl (by kernel_rfl) (by kernel_rfl) (by kernel_rfl) (by kernel_rfl) (fun _ _ _ h => h) (.inl ⟨by rfl, fun W hW => exec_move _ _ rfl rfl⟩) (cv) ?_
    try simp only [Act.put, List.setIfInBounds_toArray, List.set_cons_zero, List.set_cons_succ]
    refine takeJ (i := 3) (v := .slice (some ⟨g, off + 8 * j, none⟩) 8 8) 11 rfl rfl (by kernel_rfl) (by kernel_rfl) (by kernel_rfl) (by kernel_rfl) (fun _ _ _ h => h) (.inl ⟨by rfl, fun W hW => exec_move _ _ rfl rfl⟩) (cv) ?_
    try simp only [Act.put, List.setIfInBounds_toArray, List.set_cons_zero, List.set_cons_succ]
    refine callJ 2 10 (by kernel_rfl) rfl rfl (by rfl) 58 #[.slice (some ⟨g, off + 8 * j, none⟩) 8 8, .int .i64 0] (exec_callF _ _ _ _ rfl (map2 rfl rfl) (enters_of Try.func58 (by kernel_rfl) rfl)) (fun v w9 => v = .int .u32 x.f ∧ Below W2.heap.size W2 w9) ((A0 _ (later_drew _)).mono (fun e w' h => ⟨_, h.1, rfl, later (later_drew _) h.2⟩)) ?_
    rintro v w3 ⟨rfl, b3⟩
    refine ⟨(S0 _ b3).1, ?_⟩
    simp only [Act.put, List.setIfInBounds_toArray, List.set_cons_zero, List.set_cons_succ]
    refine callJ 4 12 (by kernel_rfl) rfl rfl (by rfl) 58 #[.slice (some ⟨g, off + 8 * j, none⟩) 8 8, .int .i64 4] (exec_callF _ _ _ _ rfl (map2 rfl rfl) (enters_of Try.func58 (by kernel_rfl) rfl)) (fun v w9 => v = .int .u32 x.t ∧ Below W2.heap.size W2 w9) ((A4 _ b3).mono (fun e w' h => ⟨_, h.1, rfl, later b3 h.2⟩)) ?_
    rintro v w4 ⟨rfl, b4⟩
    refine ⟨(S0 _ b4).1, ?_⟩
    simp only [Act.put, List.setIfInBounds_toArray, List.set_cons_zero, List.set_cons_succ]
    -- the new span, appended
    obtain ⟨i0, hi0, hz0, hz1', hz2⟩ := info_parts info_sp
    obtain ⟨w5, hw5⟩ : ∃ w5, w5 = w4.alloc (.cells x.cells.toArray 68) := ⟨_, rfl⟩
    obtain ⟨p5, hp5⟩ : ∃ p5, p5 = w4.heap.size := ⟨_, rfl⟩
    have b5 : Below w4.heap.size w4 w5 := by rw [hw5]; exact later_alloc _ _
    have c5 : CellsAt w5 p5 0 x.cells := by rw [hw5, hp5]; exact CellsAt.new w4 _ _
    have r5 : GG (fun g => w1.heap.size ≤ g ∧ Cel W2 g) w5 (.slice va Q.length vc) Q := RowF.later rv (later b4 b5)
    obtain ⟨a', c', wF, hrun, rF, hbF⟩ := RowF.push 23 68 i0 _ Try.underlying23 hi0 hz0 hz1' (by rw [hz2]; decide) rfl r5 (fun q _ => spc_len Q q) (fun q hq u hu => sp_one _ u hu) x.cells rfl (sp_one x) p5 c5 (by omega)
    rw [QL] at hrun rF
    have ns : ¬ (w1.heap.size ≤ s ∧ Cel W2 s) := fun e => by have := e.1; omega
    have l5 : s < w5.heap.size := by have := b4.size; have := b5.size; omega
    have cvF : wF.cell? ⟨s, 0, none⟩ = some (.slice va j vc) := (hbF.cell (p := ⟨s, 0, none⟩) l5 ns).trans (S0 _ (later b4 b5)).1
    have fvF : wF.frozen? ⟨s, 0, none⟩ = false := (hbF.frozen (p := ⟨s, 0, none⟩) l5 ns).trans (S0 _ (later b4 b5)).2
    obtain ⟨wG, hwG⟩ : ∃ z, z = wF.setCell ⟨s, 0, none⟩ (.slice a' (j + 1) c') := ⟨_, rfl⟩
    have nG : But (Only s) wF wG := by rw [hwG]; exact (But.refl (Only s) wF).setCell (p := ⟨s, 0, none⟩) (.inr rfl) _
    have bF : But (fun g => w1.heap.size ≤ g ∧ Cel W2 g) W2 wF := ((But.of_below (K := fun g => w1.heap.size ≤ g ∧ Cel W2 g) (later b4 b5))).trans hbF
    have FIN : KeepsFrom w1.heap.size W2 wG ∧ SpI w1 s bs (j + 1) wG := by
      refine ⟨keeps_trans (KeepsFrom.of_but bF (fun q e => e.2)) (KeepsFrom.of_but nG (fun q e => by have e : q = s := e; rw [e]; exact cells_of_cell cvF)), (hbW.trans' bF (fun q hq e => by have := e.1; omega)).trans nG, by rw [hwG, World.frozen?_setCell]; exact fvF, _, by rw [hwG]; exact World.cell?_setCell_same _ _ _ cvF, ?_⟩
      rw [TK]
      have r1 : GG (fun q => w1.heap.size ≤ q) wG (.slice a' (j + 1) c') (Q ++ [x]) := by
        unfold GG
        rw [List.length_append, QL]
        refine ((RowF.own rF (O' := fun q => w1.heap.size ≤ q) (fun q hq e => by
          rcases e with e | e
          · exact e.1
          · have := b4.size; have := b5.size; omega)).cong (fun q hq => by rw [spc_app Q x q (by omega), QL])).but nG (fun q e e2 => by have e2 : q = s := e2; omega)
      have := RowF.cel r1 (by simp) (by decide)
      exact this
    refine nextJ (w' := w4) 5 13 (.agg x.cells.toArray) (by kernel_rfl) rfl rfl (by rfl) (exec_bldSp _ _ _ _ rfl rfl rfl) ((S0 _ b4).1) ?_
    try simp only [Act.put, List.setIfInBounds_toArray, List.set_cons_zero, List.set_cons_succ]
    refine nextJ (w' := w5) 6 14 (.slice (some ⟨p5, 0, none⟩) 1 1) (by kernel_rfl) rfl rfl (by rfl) (by rw [hw5, hp5]; exact exec_bsSp _ x rfl rfl) ((S0 _ (later b4 b5)).1) ?_
    try simp only [Act.put, List.setIfInBounds_toArray, List.set_cons_zero, List.set_cons_succ]
    refine nextJ (w' := wF) 7 15 (.slice a' (j + 1) c') (by kernel_rfl) rfl rfl (by rfl) (exec_app _ _ 23 23 rfl (.slice va j vc) (.slice (some ⟨p5, 0, none⟩) 1 1) rfl rfl 23 rfl hrun) cvF ?_
    simp only [Act.put, List.setIfInBounds_toArray, List.set_cons_zero, List.set_cons_succ]
    refine storeJ (w' := wG) 8 (by kernel_rfl) rfl rfl (by rfl) (by rw [hwG]; exact exec_store1 23 s1Sps _ _ rfl s 0 rfl _ _ rfl cvF fvF rfl) (by simp) ?_
    refine doneJW (by kernel_rfl) _ ?_
    exact ⟨FIN.1, _, rfl, FIN.2⟩
theorem spans_any {w : World} {v : Value} (q : Nat) {bs : List Int} (hq : q ≤ 3) (hlq : bs.length = 8 * q) (hb : IsB w.heap.size w v bs) (hB : Bytes bs) :
    Calls Try.prog 61 #[v] w fun e w' => ∃ u, e = .returned u ∧ GG (fun g => w.heap.size ≤ g) w' u (spL bs q) ∧ Below w.heap.size w w' := by
  obtain ⟨a, c, rfl, r⟩ := hb
  exact callsIn_wide.1 (spans_in 3 (Nat.le_refl _) a c q bs hq hlq ⟨a, c, rfl, r⟩ hB)
end Go.Proofs.Ytggadchhkenipaa
