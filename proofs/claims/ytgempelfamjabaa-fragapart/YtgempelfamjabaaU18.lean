
/-
  What a slice holds, whoever's it is; copies; datagrams; slices.Delete of the first one.
-/
import Derived.Test.YtgempelfamjabaaU6
import Derived.Test.YtgempelfamjabaaA1
namespace Go.Proofs.Ytgempelfamjabaa
open Go.RowKit Go.Shelf

/-- the slice v holds L, in a block of P -/
def Cn (mk : Int → Value) (P : Nat → Prop) (W : World) (v : Value) (L : List Int) : Prop :=
  ∃ a cap, v = .slice a L.length cap ∧ L.length ≤ cap ∧ (a = none → cap = 0) ∧ (0 < L.length → ∃ g off, a = some ⟨g, off, none⟩ ∧ P g ∧ g < W.heap.size ∧ ∀ k x, L[k]? = some x → W.cell? ⟨g, off + k, none⟩ = some (mk x))
abbrev CB := Cn (Value.int .u8)
abbrev CI := Cn (Value.int .i64)
section
variable {mk : Int → Value} {P K : Nat → Prop} {W W' : World} {v : Value} {L : List Int}
theorem Cn.but (h : Cn mk P W v L) (hb : But K W W') (hk : ∀ g, P g → ¬ K g) : Cn mk P W' v L := by
  obtain ⟨a, cap, c1, c2, c3, c4⟩ := h
  refine ⟨a, cap, c1, c2, c3, fun h0 => ?_⟩
  obtain ⟨g, off, d1, d2, d3, d4⟩ := c4 h0
  exact ⟨g, off, d1, d2, Nat.lt_of_lt_of_le d3 hb.size, fun k x hx => (hb.cell (p := ⟨g, off + k, none⟩) d3 (hk g d2)).trans (d4 k x hx)⟩
theorem Cn.later (h : Cn mk P W v L) (hb : Below W.heap.size W W') : Cn mk P W' v L := h.but (K := fun _ => False) (But.of_below hb) (fun _ _ => id)
theorem Cn.own {P' : Nat → Prop} (h : Cn mk P W v L) (ho : ∀ g, g < W.heap.size → P g → P' g) : Cn mk P' W v L := by
  obtain ⟨a, cap, c1, c2, c3, c4⟩ := h
  refine ⟨a, cap, c1, c2, c3, fun h0 => ?_⟩
  obtain ⟨g, off, d1, d2, d3, d4⟩ := c4 h0
  exact ⟨g, off, d1, ho g d3 d2, d3, d4⟩
theorem Cn.shape (h : Cn mk P W v L) : ∃ a cap, v = .slice a L.length cap := by
  obtain ⟨a, cap, c1, _⟩ := h
  exact ⟨a, cap, c1⟩
theorem Cn.one (h : Cn mk P W v L) : v.oneCell' = true := by
  obtain ⟨a, cap, rfl⟩ := h.shape
  rfl
theorem Cn.nil (mk : Int → Value) (P : Nat → Prop) (W : World) : Cn mk P W (.slice none 0 0) [] := ⟨none, 0, rfl, Nat.le_refl _, fun _ => rfl, fun h => by simp at h⟩
end
theorem Cn.isB {P : Nat → Prop} {W : World} {v : Value} {L : List Int} (h : CB P W v L) : IsB W.heap.size W v L := by
  obtain ⟨a, cap, c1, c2, c3, c4⟩ := h
  refine ⟨a, cap, c1, c2, c3, fun h0 => ?_⟩
  obtain ⟨g, off, d1, d2, d3, d4⟩ := c4 h0
  exact ⟨g, off, d1, d3, fun j hj => by rw [d4 j _ (List.getElem?_eq_getElem hj), List.getElem?_eq_getElem hj]; rfl⟩
theorem IsB.cn {n₀ : Nat} {W : World} {v : Value} {L : List Int} (h : IsB n₀ W v L) (hn : n₀ ≤ W.heap.size) : CB (fun g => g < n₀) W v L := by
  obtain ⟨a, cap, c1, c2, c3, c4⟩ := h
  refine ⟨a, cap, c1, c2, c3, fun h0 => ?_⟩
  obtain ⟨g, off, d1, d2, d4⟩ := c4 h0
  exact ⟨g, off, d1, d2, by omega, fun k x hx => by rw [d4 k (List.getElem?_eq_some_iff.1 hx).1, hx]; rfl⟩
theorem Gro.cn {B : Nat} {W : World} {v : Value} {L : List Int} (h : Gro B W v L) : CB (fun g => B ≤ g ∧ g < W.heap.size) W v L := by
  have hl := h.lies
  obtain ⟨a, cap, c1, c2, c3, c4⟩ := h.isB
  subst c1
  refine ⟨a, cap, rfl, c2, c3, fun h0 => ?_⟩
  obtain ⟨g, rfl, _, hc, hf⟩ := h.block h0
  have := hl g _ _ rfl
  exact ⟨g, 0, rfl, this, this.2, fun k x hx => by rw [Nat.zero_add, hc k (List.getElem?_eq_some_iff.1 hx).1, hx]; rfl⟩
theorem RowN.cn {O : Nat → Prop} {W : World} {v : Value} {L : List Int} (h : RowN O W v L) : CI O W v L := by
  obtain ⟨a, cap, c1, c2, c3, c4, c5⟩ := h
  refine ⟨a, cap, c1, c2, c4, fun h0 => ?_⟩
  cases a with
  | none => have := c4 rfl; omega
  | some ad =>
    obtain ⟨g, off, d1, d3, d4, d5, d6, d7⟩ := c5 ad rfl
    obtain rfl := d4 (by omega)
    exact ⟨g, off, rfl, d1, d3, d7⟩
section
variable {w : World} {ops : Array Oper} {rest : List Oper} {o : Oper} {a : Act} {Q : Exit → Act → World → Prop}
theorem wpList_appJ (hgd : o.guard = none) (s x : Operand) (hop : o.op = Op.call { callee := Callee.builtin Builtin.append, args := #[s, x], argTypes := #[46, 46] }) (hty : o.type = 46) (v u : Value) (hs : a.eval s = v) (hx : a.eval x = u) {v' : Value} {w' : World}
    (hr : (Builtin.append_ #[46, 46] 46 #[v, u]).run Try.prog w = .ok v' w') (h : wpList Try.prog ops Q rest (a.put o.dst v') w') : wpList Try.prog ops Q (o :: rest) a w := by
  refine wpList_plain hgd fun K hK => ?_
  unfold Oper.wp
  simp only [execOp, hop, hty]
  simp [resolve, invoke, builtin, hs, hx, hr, Result.andThen]
  exact hK _ _ h
end
theorem cloneB_big {P : Nat → Prop} {w : World} {v : Value} {D : List Int} (h : CB P w v D) (hl : D.length ≤ 140737488355328) :
    Calls Try.prog 32 #[v] w fun e w' => ∃ u, e = .returned u ∧ CB (fun g => w.heap.size ≤ g ∧ g < w'.heap.size) w' u D ∧ Below w.heap.size w w' := by
  have q22 : ∀ (w : World) (a : Option Addr) (n c n' c' : Nat), (binOp .eql 24 (.slice a n c) (.slice none n' c')).run Try.prog w = .ok (.bool a.isNone) w := fun w a n c n' c' => Lib.run_eql_slice_nil w _ _ a n c n' c' Try.underlying24
  obtain ⟨a, cap, rfl, c2, c3, c4⟩ := h
  cases a with
  | none =>
    have h0 := c3 rfl
    have : D = [] := List.eq_nil_of_length_eq_zero (by omega)
    subst this
    subst h0
    clear c2 c3 c4 hl
    go_enter Try.func32, Try.ntmps32
    go_wp2
    go_ret
    exact ⟨_, rfl, Cn.nil _ _ _, Below.refl _ _⟩
  | some ad =>
    refine (Clone_any (.slice (some ad) D.length cap) D w (Cn.isB (P := P) ⟨some ad, cap, rfl, c2, c3, c4⟩) (by omega) (fun a n c e => by cases e; simp)).mono ?_
    rintro _ w' ⟨u, rfl, g, b⟩
    exact ⟨u, rfl, g.cn, b⟩
theorem cloneB_any {P : Nat → Prop} {w : World} {v : Value} {D : List Int} (h : CB P w v D) (hl : D.length ≤ 100000000) :
    Calls Try.prog 32 #[v] w fun e w' => ∃ u, e = .returned u ∧ CB (fun g => w.heap.size ≤ g ∧ g < w'.heap.size) w' u D ∧ Below w.heap.size w w' := cloneB_big h (by omega)
/-- 'append' of no number -/
theorem run_appI_zero (W : World) (a : Option Addr) (n c : Nat) (hc : n ≤ c) (a2 : Option Addr) (c2 : Nat) : (Builtin.append_ #[46, 46] 46 #[.slice a n c, .slice a2 0 c2]).run Try.prog W = .ok (.slice a n c) W := by
  obtain ⟨i, hi, hz0, hz1, hz2⟩ := info_parts info_int
  have hs : (loadCells (a2.getD ⟨0, 0, none⟩) 0).run Try.prog W = .ok #[] W := rfl
  cases a2 with
  | none => cases a with
    | none => simp [Builtin.append_, run_underlying Try.underlying46, sizeOf, typeInfo, hi, hc, Builtin.lenOf, Builtin.firstCells]
    | some ad => simp [Builtin.append_, run_underlying Try.underlying46, sizeOf, typeInfo, hi, hc, Builtin.lenOf, Builtin.firstCells, storeCells]
  | some a2 =>
    simp only [Option.getD_some] at hs
    cases a with
    | none => simp [Builtin.append_, run_underlying Try.underlying46, sizeOf, typeInfo, hi, hc, Builtin.lenOf, Builtin.firstCells, hs]
    | some ad => simp [Builtin.append_, run_underlying Try.underlying46, sizeOf, typeInfo, hi, hc, Builtin.lenOf, Builtin.firstCells, storeCells, hs]
/-- numbers of any slice behind a row of our own -/
theorem appI_run {O P : Nat → Prop} {W : World} {v tv : Value} {xs ys : List Int} (h : RowN O W v xs) (hy : CI P W tv ys) (hl : xs.length + ys.length ≤ 1000000000) :
    ∃ a' c' w2, (Builtin.append_ #[46, 46] 46 #[v, tv]).run Try.prog W = .ok (.slice a' (xs.length + ys.length) c') w2 ∧ RowN (fun g => O g ∨ W.heap.size ≤ g ∧ g < w2.heap.size) w2 (.slice a' (xs.length + ys.length) c') (xs ++ ys) ∧ But O W w2 := by
  by_cases h0 : 0 < ys.length
  · obtain ⟨a, cap, rfl, c2, c3, c4⟩ := hy
    obtain ⟨g, off, rfl, d2, d3, d4⟩ := c4 h0
    have hm := h.more _ ys (src_ints g off cap ys d4) h0 (by omega)
    rw [List.length_append] at hm
    exact hm
  · have : ys = [] := List.eq_nil_of_length_eq_zero (by omega)
    subst this
    obtain ⟨a2, c2, rfl⟩ := hy.shape
    have h' := h
    obtain ⟨a, cap, rfl, e2, _⟩ := h
    exact ⟨a, cap, W, run_appI_zero W a _ cap e2 a2 c2, by rw [List.append_nil]; exact h'.own (fun g _ e => .inl e), But.refl _ _⟩
/-- a datagram: its cells, and what they hold -/
structure Dg where
  src : I4
  port : Int
  dv : Value
  bv : Value
  D : List Int
  B : List Int
def Dg.cells (d : Dg) : List Value := [.int .u8 d.src.a, .int .u8 d.src.b, .int .u8 d.src.c, .int .u8 d.src.d, .int .i64 d.port, d.dv, d.bv]
theorem Dg.len (d : Dg) : d.cells.length = 7 := rfl
structure Dg.Ok (P : Nat → Prop) (W : World) (m : Dg) : Prop where
  d : CB P W m.dv m.D
  b : CI P W m.bv m.B
  ld : m.D.length ≤ 10000000
  lb : m.B.length ≤ 10000000
def zD : Dg := ⟨zI, 0, .slice none 0 0, .slice none 0 0, [], []⟩
def dgc (M : List Dg) (j : Nat) : List Value := ((M[j]?).getD zD).cells
theorem dgc_len (M : List Dg) (j : Nat) : (dgc M j).length = 7 := rfl
theorem dgc_at {M : List Dg} {j : Nat} {d : Dg} (h : M[j]? = some d) : dgc M j = d.cells := by unfold dgc; rw [h]; rfl
theorem dgc_app (L : List Dg) (r : Dg) (q : Nat) (hq : q < L.length + 1) : dgc (L ++ [r]) q = if q < L.length then dgc L q else r.cells := by
  unfold dgc
  by_cases e : q < L.length
  · rw [if_pos e, List.getElem?_append_left e]
  · rw [if_neg e, show q = L.length by omega]
    simp
section
variable {P K : Nat → Prop} {W W' : World} {d : Dg}
theorem Dg.Ok.but (h : d.Ok P W) (hb : But K W W') (hk : ∀ g, P g → ¬ K g) : d.Ok P W' := ⟨h.d.but hb hk, h.b.but hb hk, h.ld, h.lb⟩
theorem Dg.Ok.later (h : d.Ok P W) (hb : Below W.heap.size W W') : d.Ok P W' := ⟨h.d.later hb, h.b.later hb, h.ld, h.lb⟩
theorem Dg.Ok.own {P' : Nat → Prop} (h : d.Ok P W) (ho : ∀ g, g < W.heap.size → P g → P' g) : d.Ok P' W := ⟨h.d.own ho, h.b.own ho, h.ld, h.lb⟩
theorem Dg.Ok.one (h : d.Ok P W) : ∀ u ∈ d.cells, u.oneCell' = true := by
  intro u hu
  simp only [Dg.cells, List.mem_cons, List.not_mem_nil, or_false] at hu
  rcases hu with rfl | rfl | rfl | rfl | rfl | rfl | rfl
  · rfl
  · rfl
  · rfl
  · rfl
  · rfl
  · exact h.d.one
  · exact h.b.one
end
theorem flat_len (f : Nat → List Value) (hf : ∀ j, (f j).length = 7) : ∀ m, ((List.range m).flatMap f).length = m * 7
  | 0 => rfl
  | m + 1 => by rw [List.range_succ, List.flatMap_append, List.length_append, flat_len f hf m]; simp [hf]; omega
theorem flat_at (f : Nat → List Value) (hf : ∀ j, (f j).length = 7) : ∀ m j, j < m * 7 → ((List.range m).flatMap f)[j]? = (f (j / 7))[j % 7]?
  | 0, j, hj => by omega
  | m + 1, j, hj => by
    rw [List.range_succ, List.flatMap_append]
    have hl := flat_len f hf m
    by_cases e : j < m * 7
    · rw [List.getElem?_append_left (by omega)]; exact flat_at f hf m j e
    · rw [List.getElem?_append_right (by omega), hl]
      have e1 : j / 7 = m := by omega
      have e2 : j - m * 7 = j % 7 := by omega
      rw [e1, e2]
      simp
end Go.Proofs.Ytgempelfamjabaa
