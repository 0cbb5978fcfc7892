
/-
  Package tcp: mayBe, optionsOf.
-/
import Derived.Test.YtgdcdgofahhfdaaD1
namespace Go.Proofs.Ytgdcdgofahhfdaa
open Go.RowKit Go.Shelf

/-- the slice v holds spans, in a block of P -/
def CG (P : Nat → Prop) (W : World) (v : Value) (L : List Sp) : Prop :=
  ∃ a cap, v = .slice a L.length cap ∧ L.length ≤ cap ∧ (a = none → cap = 0) ∧ (0 < L.length → ∃ g off, a = some ⟨g, off, none⟩ ∧ P g ∧ g < W.heap.size ∧ ∀ k x, L[k]? = some x → CellsAt W g (off + k * 2) x.cells)
section
variable {P K : Nat → Prop} {W W' : World} {v : Value} {L : List Sp}
theorem CG.but (h : CG P W v L) (hb : But K W W') (hk : ∀ g, P g → ¬ K g) : CG P W' v L := by
  obtain ⟨a, cap, c1, c2, c3, c4⟩ := h
  refine ⟨a, cap, c1, c2, c3, fun h0 => ?_⟩
  obtain ⟨g, off, d1, d2, d3, d4⟩ := c4 h0
  exact ⟨g, off, d1, d2, Nat.lt_of_lt_of_le d3 hb.size, fun k x hx => (d4 k x hx).but d3 hb (hk g d2)⟩
theorem CG.later (h : CG P W v L) (hb : Below W.heap.size W W') : CG P W' v L := h.but (K := fun _ => False) (But.of_below hb) (fun _ _ => id)
theorem CG.own {P' : Nat → Prop} (h : CG P W v L) (ho : ∀ g, g < W.heap.size → P g → P' g) : CG P' W v L := by
  obtain ⟨a, cap, c1, c2, c3, c4⟩ := h
  refine ⟨a, cap, c1, c2, c3, fun h0 => ?_⟩
  obtain ⟨g, off, d1, d2, d3, d4⟩ := c4 h0
  exact ⟨g, off, d1, ho g d3 d2, d3, d4⟩
theorem CG.shape (h : CG P W v L) : ∃ a cap, v = .slice a L.length cap := by
  obtain ⟨a, cap, c1, _⟩ := h
  exact ⟨a, cap, c1⟩
theorem CG.nil (P : Nat → Prop) (W : World) : CG P W (.slice none 0 0) [] := ⟨none, 0, rfl, Nat.le_refl _, fun _ => rfl, fun h => by simp at h⟩
end
/-- may a segment be, its data aside? -/
def mbS (s : Sg) : Bool := prt s.src && (prt s.dst && (upT 31 s.flg && (upT 65535 s.wnd && (upT 65535 s.mss && decide (s.got.length ≤ 3)))))
/-- the options: one that tells the greatest size; that one may tell what was got; what was got; filled up -/
def spB (x : Sp) : List Int := put32 x.f ++ put32 x.t
def oM (s : Sg) : List Int := if s.mss = 0 then [] else [2, 4] ++ put16 s.mss
def oS (s : Sg) : List Int := if s.sak = true then oM s ++ [4, 2] else oM s
def oG (s : Sg) : List Int := if s.got.length = 0 then oS s else oS s ++ [5, ((2 + 8 * s.got.length : Nat) : Int)]
def oL (s : Sg) (k : Nat) : List Int := oG s ++ (s.got.take k).flatMap spB
def padT (b : List Int) : List Int := b ++ List.replicate ((4 - b.length % 4) % 4) 1
def otB (s : Sg) : List Int := padT (oL s s.got.length)
theorem spB_len (x : Sp) : (spB x).length = 8 := rfl
theorem spBs_len : ∀ L : List Sp, (L.flatMap spB).length = 8 * L.length
  | [] => rfl
  | x :: L => by rw [List.flatMap_cons, List.length_append, spB_len, spBs_len L, List.length_cons]; omega
theorem oM_len (s : Sg) : (oM s).length ≤ 4 := by unfold oM; split <;> simp [put16]
theorem oS_len (s : Sg) : (oS s).length ≤ 6 := by
  have := oM_len s
  unfold oS
  split
  · simp; omega
  · omega
theorem oG_len (s : Sg) : (oG s).length ≤ 8 := by
  have := oS_len s
  unfold oG
  split
  · omega
  · simp; omega
theorem oL_len (s : Sg) (k : Nat) : (oL s k).length ≤ 8 + 8 * k := by
  have := oG_len s
  have h : (s.got.take k).length ≤ k := by rw [List.length_take]; omega
  unfold oL
  rw [List.length_append, spBs_len]
  omega
theorem padT_step (l : List Int) (h : l.length % 4 ≠ 0) : padT (l ++ [1]) = padT l := by
  unfold padT
  rw [List.length_append, List.length_singleton, List.append_assoc]
  congr 1
  rw [show (4 - l.length % 4) % 4 = (4 - (l.length + 1) % 4) % 4 + 1 by omega, List.replicate_succ]
  rfl
theorem padT_end (l : List Int) (h : l.length % 4 = 0) : padT l = l := by
  unfold padT
  rw [h]
  simp
theorem padT_len (l : List Int) : (padT l).length ≤ l.length + 3 ∧ (padT l).length % 4 = 0 := by
  unfold padT
  rw [List.length_append, List.length_replicate]
  omega
theorem otB_len (s : Sg) (h : s.got.length ≤ 3) : (otB s).length ≤ 35 ∧ (otB s).length % 4 = 0 := by
  have h1 := padT_len (oL s s.got.length)
  have h2 := oL_len s s.got.length
  unfold otB
  omega
theorem oL_succ (s : Sg) (k : Nat) (x : Sp) (h : s.got[k]? = some x) : oL s (k + 1) = oL s k ++ put32 x.f ++ put32 x.t := by
  unfold oL
  obtain ⟨hk, e⟩ := List.getElem?_eq_some_iff.1 h
  rw [List.take_add_one, h]
  simp [spB]
/-- two bytes of the call's own -/
theorem lit2 (W : World) (a b : Int) : ∃ W2 s, s = W.heap.size ∧ W2 = W.alloc (.cells #[.int .u8 a, .int .u8 b] 5) ∧ IsB W2.heap.size W2 (.slice (some ⟨s, 0, none⟩) 2 2) [a, b] ∧ Below W.heap.size W W2 :=
  ⟨_, _, rfl, rfl, by rw [World.size_alloc]; exact IsB_new [a, b] (by omega), later_alloc _ _⟩
theorem lit1 (W : World) (a : Int) : ∃ W2 s, s = W.heap.size ∧ W2 = W.alloc (.cells #[.int .u8 a] 5) ∧ IsB W2.heap.size W2 (.slice (some ⟨s, 0, none⟩) 1 1) [a] ∧ Below W.heap.size W W2 :=
  ⟨_, _, rfl, rfl, by rw [World.size_alloc]; exact IsB_new [a] (by omega), later_alloc _ _⟩
/-- append to nothing -/
theorem app_nil {ev : Operand → Value} {o : Oper} {W : World} {x y : Operand} {ys : List Int} (ho : o.op = Op.call { callee := Callee.builtin Builtin.append, args := #[x, y], argTypes := #[26, 26] }) (hty : o.type = 26) (hx : ev x = .slice none 0 0) (hy : IsB W.heap.size W (ev y) ys) (hl : ys.length ≤ 100000) :
    ∃ v W', (execOp ev o).run Try.prog W = .ok (.value v) W' ∧ Below W.heap.size W W' ∧ IsB W'.heap.size W' v ys := by
  obtain ⟨v', w', hrun, g', b'⟩ := append_runB (xs := []) (B := W.heap.size) (Gro.nil _ _) hy (Nat.le_refl _) (by simp; omega)
  refine ⟨v', w', ?_, b', g'.isB⟩
  rw [← hx] at hrun
  simp only [execOp, ho, hty]
  simp [resolve, invoke, builtin, hx, Result.andThen] at hrun ⊢
  rw [hrun]
end Go.Proofs.Ytgdcdgofahhfdaa
