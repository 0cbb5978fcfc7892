
/-
  Package frag: rows of bytes with owners; what joined does in a round.
-/
import Derived.Test.YtgempelfamjabaaF16
namespace Go.Proofs.Ytgempelfamjabaa
open Go.RowKit Go.Shelf

section
variable {ops : Array Oper} {rest : List Oper} {o : Oper} {a : Act} {w w' : World} {Q : Exit → Act → World → Prop}
/-- an operation of a region that keeps its order: a value, a store -/
theorem listVP (d : Tmp) (v : Value) (hgd : o.guard = none) (_hnd : noDefer o = true) (hd : o.dst = some d) (hrun : (execOp a.eval o).run Try.prog w = .ok (.value v) w') (h : wpList Try.prog ops Q rest (a.put (some d) v) w') : wpList Try.prog ops Q (o :: rest) a w := by
  refine wpList_plain hgd fun K hK => ?_
  unfold Oper.wp
  rw [hrun, ← hd] at *
  exact hK _ _ h
theorem listSP (hgd : o.guard = none) (_hnd : noDefer o = true) (hd : o.dst = none) (hrun : (execOp a.eval o).run Try.prog w = .ok .skip w') (h : wpList Try.prog ops Q rest a w') : wpList Try.prog ops Q (o :: rest) a w := by
  refine wpList_plain hgd fun K hK => ?_
  unfold Oper.wp
  rw [hrun]
  simp only [Oper.upon, hd, Act.put]
  exact hK _ _ h
end
/-- the slice v holds the bytes L, from the beginning of a block of O on -/
def RowB (O : Nat → Prop) (W : World) (v : Value) (L : List Int) : Prop := RowF 1 O W v L.length (fun q => [.int .u8 (L[q]?.getD 0)])
theorem RowB.nil (O : Nat → Prop) (W : World) : RowB O W (.slice none 0 0) [] := RowF.nil _ _ _ _
theorem RowB.cn {O : Nat → Prop} {W : World} {v : Value} {L : List Int} (h : RowB O W v L) : CB O W v L := by
  obtain ⟨a, cap, c1, c2, c3, c4, c5⟩ := h
  refine ⟨a, cap, c1, c2, c4, fun h0 => ?_⟩
  cases a with
  | none => have := c4 rfl; omega
  | some ad =>
    obtain ⟨g, rfl, d2, d3, d4, d5, d6⟩ := c5 ad rfl
    refine ⟨g, 0, rfl, d2, d3, fun k x hx => ?_⟩
    have := d6 k (List.getElem?_eq_some_iff.1 hx).1 0 (.int .u8 x) (by show [Value.int .u8 (L[k]?.getD 0)][0]? = _; rw [hx]; rfl)
    rw [Nat.mul_one, Nat.add_zero] at this
    rw [Nat.zero_add]
    exact this
theorem run_appB_zero (W : World) (a : Option Addr) (n c : Nat) (hc : n ≤ c) (a2 : Option Addr) (c2 : Nat) : (Builtin.append_ #[24, 24] 24 #[.slice a n c, .slice a2 0 c2]).run Try.prog W = .ok (.slice a n c) W := by
  obtain ⟨i, hi, hz0, hz1, hz2⟩ := info_parts info_u8
  have hs : (loadCells (a2.getD ⟨0, 0, none⟩) 0).run Try.prog W = .ok #[] W := rfl
  cases a2 with
  | none => cases a with
    | none => simp [Builtin.append_, run_underlying Try.underlying24, sizeOf, typeInfo, hi, hc, Builtin.lenOf, Builtin.firstCells]
    | some ad => simp [Builtin.append_, run_underlying Try.underlying24, sizeOf, typeInfo, hi, hc, Builtin.lenOf, Builtin.firstCells, storeCells]
  | some a2 =>
    simp only [Option.getD_some] at hs
    cases a with
    | none => simp [Builtin.append_, run_underlying Try.underlying24, sizeOf, typeInfo, hi, hc, Builtin.lenOf, Builtin.firstCells, hs]
    | some ad => simp [Builtin.append_, run_underlying Try.underlying24, sizeOf, typeInfo, hi, hc, Builtin.lenOf, Builtin.firstCells, storeCells, hs]
/-- bytes of any slice behind a row of our own -/
theorem RowB.more {O P : Nat → Prop} {W : World} {v tv : Value} {xs ys : List Int} (h : RowB O W v xs) (hy : CB P W tv ys) (hl : xs.length + ys.length ≤ 1000000000) :
    ∃ a' c' w2, (Builtin.append_ #[24, 24] 24 #[v, tv]).run Try.prog W = .ok (.slice a' (xs.length + ys.length) c') w2 ∧ RowB (fun g => O g ∨ W.heap.size ≤ g) w2 (.slice a' (xs.length + ys.length) c') (xs ++ ys) ∧ But O W w2 := by
  by_cases h0 : 0 < ys.length
  · obtain ⟨a, cap, rfl, c2, c3, c4⟩ := hy
    obtain ⟨g, off, rfl, d2, d3, d4⟩ := c4 h0
    obtain ⟨i, hi, hz0, hz1, hz2⟩ := info_parts info_u8
    obtain ⟨a', c', w2, hr, rr, hb⟩ := RowF.more 24 5 i _ Try.underlying24 hi hz0 hz1 (by omega) rfl h (fun _ _ => rfl) (fun q hq u hu => by simp only [List.mem_singleton] at hu; subst hu; rfl) (.slice (some ⟨g, off, none⟩) ys.length cap) ys.length (fun q => [.int .u8 (ys[q]?.getD 0)]) (ys.map (Value.int .u8)) (by simp) (fun q hq j u hu => by
        have hj : j = 0 := by have := (List.getElem?_eq_some_iff.1 hu).1; simp at this; omega
        subst hj
        rw [Nat.mul_one, Nat.add_zero, List.getElem?_map, List.getElem?_eq_getElem hq]
        simp [List.getElem?_eq_getElem hq] at hu
        simp [hu]) (fun _ _ => rfl)
      (Src.ofSlice (P := Try.prog) _ Try.underlying24 ⟨g, off, none⟩ ys.length cap _ (by simp) (fun j u hu => by
        have hj : j < ys.length := by have := (List.getElem?_eq_some_iff.1 hu).1; simpa using this
        rw [Addr.add_mid]
        simp only [List.getElem?_map, List.getElem?_eq_getElem hj, Option.map_some, Option.some.injEq] at hu
        rw [d4 j _ (List.getElem?_eq_getElem hj), hu]) (ints_oneCell _ _)) h0 hl
    refine ⟨a', c', w2, hr, ?_, hb⟩
    unfold RowB
    rw [List.length_append]
    refine (rr.own (fun g _ e => by
      rcases e with e | e
      · exact .inl e
      · exact .inr (by omega))).cong (fun q hq => ?_)
    by_cases e : q < xs.length
    · rw [if_pos e, List.getElem?_append_left e]
    · rw [if_neg e, List.getElem?_append_right (by omega)]
  · have : ys = [] := List.eq_nil_of_length_eq_zero (by omega)
    subst this
    obtain ⟨a2, c2, rfl⟩ := hy.shape
    have h' := h
    obtain ⟨a, cap, rfl, e2, _⟩ := h
    exact ⟨a, cap, W, run_appB_zero W a _ cap e2 a2 c2, by rw [List.append_nil]; exact RowF.own h' (fun g _ e => .inl e), But.refl _ _⟩
theorem RowB.later {O : Nat → Prop} {W W' : World} {v : Value} {L : List Int} (h : RowB O W v L) (hb : Below W.heap.size W W') : RowB O W' v L := RowF.later h hb
theorem RowB.but {O K : Nat → Prop} {W W' : World} {v : Value} {L : List Int} (h : RowB O W v L) (hb : But K W W') (hk : ∀ g, O g → ¬ K g) : RowB O W' v L := RowF.but h hb hk
theorem RowB.own {O O' : Nat → Prop} {W : World} {v : Value} {L : List Int} (h : RowB O W v L) (ho : ∀ g, g < W.heap.size → O g → O' g) : RowB O' W v L := RowF.own h ho
theorem RowB.shape {O : Nat → Prop} {W : World} {v : Value} {L : List Int} (h : RowB O W v L) : ∃ a cap, v = .slice a L.length cap := RowF.shape h
/-- a whole datagram's cells -/
def whC (p : Pk) (hv dv bv : Value) : List Value := p.cells hv ++ [dv, bv]
theorem whC_len (p : Pk) (hv dv bv : Value) : (whC p hv dv bv).length = 18 := rfl
/-- joined's memory between two rounds: the datagram that is made lies at s + 2, the answer at s + 1 -/
structure JoM (w : World) (s : Nat) (hd : Pk) (hv : Value) (A : List Pc) (i : Nat) (dv bv : Value) (W : World) : Prop where
  b : Below w.heap.size w W
  c : CellsAt W (s + 2) 0 (whC hd hv dv bv)
  f : ∀ y, W.frozen? ⟨s + 2, y, none⟩ = false
  c1 : CellsAt W (s + 1) 0 (whC zF (.slice none 0 0) (.slice none 0 0) (.slice none 0 0))
  f1 : ∀ y, W.frozen? ⟨s + 1, y, none⟩ = false
  rows : ∃ τ : Nat → Nat, RowB (fun g => τ g = 1 ∧ s + 3 ≤ g) W dv ((A.take i).flatMap (·.D)) ∧ RowN (fun g => τ g = 2 ∧ s + 3 ≤ g) W bv ((A.take i).map (·.buf))
theorem whC_data (p : Pk) (hv dv bv u : Value) : (whC p hv dv bv).set 16 u = whC p hv u bv := rfl
theorem whC_bufs (p : Pk) (hv dv bv u : Value) : (whC p hv dv bv).set 17 u = whC p hv dv u := rfl
theorem flat_le {A : List Pc} (h : ∀ x ∈ A, x.D.length ≤ 1024) : (A.flatMap (·.D)).length ≤ A.length * 1024 := by
  induction A with
  | nil => exact Nat.le_refl _
  | cons x l ih =>
    have h1 := h x (by simp)
    have h2 := ih (fun y hy => h y (by simp [hy]))
    simp only [List.flatMap_cons, List.length_append, List.length_cons]
    omega
set_option maxHeartbeats 1000000 in
theorem JoM.step {w W0 : World} {s : Nat} {hd : Pk} {hv : Value} {A : List Pc} {i : Nat} {dv bv : Value} (h : JoM w s hd hv A i dv bv W0) (hs : s = w.heap.size) {x : Pc} (hx : A[i]? = some x) {CO : Nat → Prop} (hok : ∀ y ∈ A, y.Ok CO w) (hl : A.length ≤ 2000) :
    ∃ (va ba a' b' : Option Addr) (vn bn vc bc n' c' c2' : Nat) (W1 wF wG wE wH wI : World), dv = .slice va vn vc ∧ bv = .slice ba bn bc ∧ W1 = W0.alloc (.cells x.cells.toArray 80) ∧ CellsAt W1 W0.heap.size 0 x.cells ∧ W1.cell? ⟨s + 2, 16, none⟩ = some dv ∧
      (Builtin.append_ #[24, 24] 24 #[dv, x.dv]).run Try.prog W1 = .ok (.slice a' n' c') wF ∧ wF.cell? ⟨s + 2, 16, none⟩ = some dv ∧ wF.frozen? ⟨s + 2, 16, none⟩ = false ∧ wG = wF.setCell ⟨s + 2, 16, none⟩ (.slice a' n' c') ∧
      CellsAt wG W0.heap.size 0 x.cells ∧ wG.cell? ⟨s + 2, 17, none⟩ = some bv ∧ wE = wG.alloc (.cells #[.int .i64 x.buf] 3) ∧
      (Builtin.append_ #[46, 46] 46 #[bv, .slice (some ⟨wG.heap.size, 0, none⟩) 1 1]).run Try.prog wE = .ok (.slice b' (bn + 1) c2') wH ∧ wH.cell? ⟨s + 2, 17, none⟩ = some bv ∧ wH.frozen? ⟨s + 2, 17, none⟩ = false ∧ wI = wH.setCell ⟨s + 2, 17, none⟩ (.slice b' (bn + 1) c2') ∧
      JoM w s hd hv A (i + 1) (.slice a' n' c') (.slice b' (bn + 1) c2') wI := by
  obtain ⟨hb, hc, hf, hc1, hf1, τ, rB, rN⟩ := h
  obtain ⟨va, vc, rfl⟩ := rB.shape
  obtain ⟨ba, bc, rfl⟩ := rN.shape
  have hxA := List.mem_of_getElem? hx
  have t1 : (A.take (i + 1)).flatMap (·.D) = (A.take i).flatMap (·.D) ++ x.D := by rw [take_moreG hx]; simp
  have t2 : (A.take (i + 1)).map (·.buf) = (A.take i).map (·.buf) ++ [x.buf] := by rw [take_moreG hx]; simp
  have hle : ((A.take i).flatMap (·.D)).length ≤ 2048000 := by
    have := flat_le (A := A.take i) (fun y hy => (hok y (List.mem_of_mem_take hy)).len)
    rw [List.length_take] at this
    omega
  have hle2 : ((A.take i).map (·.buf)).length ≤ 2000 := by rw [List.length_map, List.length_take]; omega
  have hx4 := (hok x hxA).len
  have z0 := hb.size
  have l2 : s + 2 < W0.heap.size := hc.lt (by rw [whC_len]; decide)
  have l1 : s + 1 < W0.heap.size := by omega
  -- the piece's own box
  obtain ⟨W1, hW1⟩ : ∃ W1, W1 = W0.alloc (.cells x.cells.toArray 80) := ⟨_, rfl⟩
  have b1 : Below W0.heap.size W0 W1 := by rw [hW1]; exact later_alloc _ _
  have cX : CellsAt W1 W0.heap.size 0 x.cells := by rw [hW1]; exact CellsAt.new W0 x.cells _
  have z1 : W1.heap.size = W0.heap.size + 1 := by rw [hW1, World.size_alloc]
  obtain ⟨τ1, hτ1⟩ : ∃ τ1 : Nat → Nat, τ1 = fun g => if g < W0.heap.size then τ g else 0 := ⟨_, rfl⟩
  have hτ1' : ∀ g, g < W0.heap.size → τ1 g = τ g := fun g hg => by rw [hτ1]; exact if_pos hg
  have τx : τ1 W0.heap.size = 0 := by rw [hτ1]; exact if_neg (Nat.lt_irrefl _)
  have rB1 := (rB.own (O' := fun g => (τ1 g = 1 ∧ s + 3 ≤ g) ∧ g < W0.heap.size) (fun g hg e => ⟨⟨by rw [hτ1' g hg]; exact e.1, e.2⟩, hg⟩)).later b1
  have rN1 := (rN.own (O' := fun g => (τ1 g = 2 ∧ s + 3 ≤ g) ∧ g < W0.heap.size) (fun g hg e => ⟨⟨by rw [hτ1' g hg]; exact e.1, e.2⟩, hg⟩)).later b1
  have cW1 := hc.later l2 b1
  have cR1 := hc1.later l1 b1
  have hB1 := later hb b1
  -- its bytes
  obtain ⟨a', c', wF, hrun, rF, bF⟩ := rB1.more ((hok x hxA).d.later hB1) (by omega)
  have no : ∀ k, k < 3 → ¬ ((τ1 (s + k) = 1 ∧ s + 3 ≤ s + k) ∧ s + k < W0.heap.size) := fun k hk e => by have := e.1.2; omega
  have nx : ¬ ((τ1 W0.heap.size = 1 ∧ s + 3 ≤ W0.heap.size) ∧ W0.heap.size < W0.heap.size) := fun e => by have := e.2; omega
  have k16F : wF.cell? ⟨s + 2, 16, none⟩ = some _ := (bF.cell (p := ⟨s + 2, 16, none⟩) (by show s + 2 < _; omega) (no 2 (by omega))).trans (cW1 16 _ rfl)
  have fF : ∀ y, wF.frozen? ⟨s + 2, y, none⟩ = false := fun y => (bF.frozen (p := ⟨s + 2, y, none⟩) (by show s + 2 < _; omega) (no 2 (by omega))).trans ((b1.frozen (p := ⟨s + 2, y, none⟩) l2).trans (hf y))
  have cWF := cW1.but (by omega) bF (no 2 (by omega))
  obtain ⟨wG, hwG⟩ : ∃ z, z = wF.setCell ⟨s + 2, 16, none⟩ (.slice a' (((A.take i).flatMap (·.D)).length + x.D.length) c') := ⟨_, rfl⟩
  have bG : But (Only (s + 2)) wF wG := by rw [hwG]; exact (But.refl (Only (s + 2)) wF).cellb (b := s + 2) rfl 16 _
  have zF := bF.size
  have zG := bG.size
  have cWG : CellsAt wG (s + 2) 0 (whC hd hv (.slice a' (((A.take i).flatMap (·.D)).length + x.D.length) c') (.slice ba ((A.take i).map (·.buf)).length bc)) := by
    rw [hwG, ← whC_data hd hv (.slice va ((A.take i).flatMap (·.D)).length vc)]
    exact cWF.set 16 _
  have fG : ∀ y, wG.frozen? ⟨s + 2, y, none⟩ = false := fun y => by rw [hwG, World.frozen?_setCell]; exact fF y
  have cXG : CellsAt wG W0.heap.size 0 x.cells := (cX.but (by omega) bF nx).but (by omega) bG (fun e => by have e : W0.heap.size = s + 2 := e; omega)
  have cRG := (cR1.but (by omega) bF (no 1 (by omega))).but (by omega) bG (fun e => by have e : s + 1 = s + 2 := e; omega)
  have fRG : ∀ y, wG.frozen? ⟨s + 1, y, none⟩ = false := fun y => (bG.frozen (p := ⟨s + 1, y, none⟩) (by show s + 1 < _; omega) (fun e => by have e : s + 1 = s + 2 := e; omega)).trans ((bF.frozen (p := ⟨s + 1, y, none⟩) (by show s + 1 < _; omega) (no 1 (by omega))).trans ((b1.frozen (p := ⟨s + 1, y, none⟩) l1).trans (hf1 y)))
  obtain ⟨τ2, hτ2⟩ : ∃ τ2 : Nat → Nat, τ2 = fun g => if g < W1.heap.size then τ1 g else if g < wG.heap.size then 1 else 2 := ⟨_, rfl⟩
  have e1 : ∀ g, g < W1.heap.size → τ2 g = τ1 g := fun g hg => by rw [hτ2]; exact if_pos hg
  have e2 : ∀ g, W1.heap.size ≤ g → g < wG.heap.size → τ2 g = 1 := fun g hg h2 => by rw [hτ2]; show (if _ then _ else _) = _; rw [if_neg (by omega), if_pos h2]
  have e3 : ∀ g, wG.heap.size ≤ g → τ2 g = 2 := fun g hg => by rw [hτ2]; show (if _ then _ else _) = _; rw [if_neg (by omega), if_neg (by omega)]
  have rBG : RowB (fun g => (τ2 g = 1 ∧ s + 3 ≤ g)) wG _ _ := ((rF.own (O' := fun g => (τ2 g = 1 ∧ s + 3 ≤ g)) (fun g hg e => by
    rcases e with e | e
    · exact ⟨by rw [e1 g (by omega)]; exact e.1.1, e.1.2⟩
    · exact ⟨e2 g e (by omega), by omega⟩)).but bG (fun g e e2 => by have e2 : g = s + 2 := e2; omega))
  have rNG : RowN (fun g => (τ2 g = 2 ∧ s + 3 ≤ g)) wG _ _ := (((rN1.but bF (fun g e e2 => by have := e.1.1; have := e2.1.1; omega)).but bG (fun g e e2 => by have e2 : g = s + 2 := e2; have := e.1.2; omega)).own (fun g _ e => ⟨by rw [e1 g (by have := e.2; omega)]; exact e.1.1, e.1.2⟩))
  -- its buffer
  obtain ⟨b', c2', wH, hrun2, rH, bH⟩ := rNG.push x.buf (by omega)
  obtain ⟨wE, hwE⟩ : ∃ wE, wE = wG.alloc (.cells #[.int .i64 x.buf] 3) := ⟨_, rfl⟩
  rw [← hwE] at hrun2
  have no2 : ∀ k, k < 3 → ¬ (τ2 (s + k) = 2 ∧ s + 3 ≤ s + k) := fun k hk e => by have := e.2; omega
  have k17 : wG.cell? ⟨s + 2, 17, none⟩ = some (.slice ba ((A.take i).map (·.buf)).length bc) := cWG 17 _ rfl
  have cWH := cWG.but (by omega) bH (no2 2 (by omega))
  have fH : ∀ y, wH.frozen? ⟨s + 2, y, none⟩ = false := fun y => (bH.frozen (p := ⟨s + 2, y, none⟩) (by show s + 2 < _; omega) (no2 2 (by omega))).trans (fG y)
  obtain ⟨wI, hwI⟩ : ∃ z, z = wH.setCell ⟨s + 2, 17, none⟩ (.slice b' (((A.take i).map (·.buf)).length + 1) c2') := ⟨_, rfl⟩
  have bI : But (Only (s + 2)) wH wI := by rw [hwI]; exact (But.refl (Only (s + 2)) wH).cellb (b := s + 2) rfl 17 _
  have zH := bH.size
  have zI := bI.size
  refine ⟨va, ba, a', b', _, _, vc, bc, _, c', c2', W1, wF, wG, wE, wH, wI, rfl, rfl, hW1, cX, cW1 16 _ rfl, hrun, k16F, fF 16, hwG, cXG, k17, hwE, hrun2, cWH 17 _ rfl, fH 17, hwI, ?_⟩
  refine ⟨?_, ?_, fun y => by rw [hwI, World.frozen?_setCell]; exact fH y, (cRG.but (by omega) bH (no2 1 (by omega))).but (by omega) bI (fun e => by have e : s + 1 = s + 2 := e; omega), fun y => (bI.frozen (p := ⟨s + 1, y, none⟩) (by show s + 1 < _; omega) (fun e => by have e : s + 1 = s + 2 := e; omega)).trans ((bH.frozen (p := ⟨s + 1, y, none⟩) (by show s + 1 < _; omega) (no2 1 (by omega))).trans (fRG y)), τ2, ?_, ?_⟩
  · exact (((hB1.trans (bF.below (by omega) (fun g hg e => by have := e.1.2; omega))).trans (bG.below (by omega) (fun g hg e => by have e : g = s + 2 := e; omega))).trans (bH.below (by omega) (fun g hg e => by have := e.2; omega))).trans (bI.below (by omega) (fun g hg e => by have e : g = s + 2 := e; omega))
  · rw [hwI, ← whC_bufs hd hv _ (.slice ba ((A.take i).map (·.buf)).length bc)]
    exact cWH.set 17 _
  · rw [t1]
    exact (rBG.but bH (fun g e e2 => by have := e.1; have := e2.1; omega)).but bI (fun g e e2 => by have e2 : g = s + 2 := e2; omega)
  · rw [t2]
    refine (rH.own (O' := fun g => τ2 g = 2 ∧ s + 3 ≤ g) (fun g hg e => ?_)).but bI (fun g e e2 => by have e2 : g = s + 2 := e2; omega)
    rcases e with e | e
    · exact e
    · exact ⟨e3 g (by omega), by omega⟩
end Go.Proofs.Ytgempelfamjabaa
