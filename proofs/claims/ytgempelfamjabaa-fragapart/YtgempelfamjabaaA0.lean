
/-
  Addresses, requests and neighbours as values; a struct in memory by its cells, loaded and stored as a whole.
-/
import Derived.Test.YtgempelfamjabaaNBase
import Derived.ChangeKeysEq
namespace Go.Proofs.Ytgempelfamjabaa
open Go.RowKit

/-- block b alone -/
def Only (b : Nat) : Nat → Prop := fun g => g = b
theorem But.cellb {K : Nat → Prop} {w W : World} {b : Nat} (h : But K w W) (hb : K b) (k : Nat) (v : Value) : But K w (W.setCell ⟨b, k, none⟩ v) := h.setCell (.inr hb) _
theorem But.cells (b : Nat) : ∀ (vs : List Value) (o : Nat) (w : World), But (Only b) w (w.setCells b o vs)
  | [], _, w => But.refl _ w
  | v :: vs, o, w => ((But.refl (Only b) w).setCell (p := ⟨b, o, none⟩) (.inr rfl) v).trans (But.cells b vs (o + 1) _)

/-- an Internet address, an address on the wire -/
structure I4 where
  a : Int
  b : Int
  c : Int
  d : Int
  deriving DecidableEq
structure M6 where
  a : Int
  b : Int
  c : Int
  d : Int
  e : Int
  f : Int
  deriving DecidableEq
/-- a request, or an answer -/
structure Ar where
  ans : Bool
  sm : M6
  si : I4
  dm : M6
  di : I4
  deriving DecidableEq
def I4.vals (x : I4) : List Value := [.int .u8 x.a, .int .u8 x.b, .int .u8 x.c, .int .u8 x.d]
def M6.vals (x : M6) : List Value := [.int .u8 x.a, .int .u8 x.b, .int .u8 x.c, .int .u8 x.d, .int .u8 x.e, .int .u8 x.f]
def I4.val (x : I4) : Value := .agg #[.int .u8 x.a, .int .u8 x.b, .int .u8 x.c, .int .u8 x.d]
def M6.val (x : M6) : Value := .agg #[.int .u8 x.a, .int .u8 x.b, .int .u8 x.c, .int .u8 x.d, .int .u8 x.e, .int .u8 x.f]
def Ar.vals (x : Ar) : List Value := .bool x.ans :: (x.sm.vals ++ (x.si.vals ++ (x.dm.vals ++ x.di.vals)))
def Ar.val (x : Ar) : Value := .agg x.vals.toArray
theorem I4.val_eq (x : I4) : x.val = .agg x.vals.toArray := rfl
theorem M6.val_eq (x : M6) : x.val = .agg x.vals.toArray := rfl

/-- the cells from o on of block s are vs -/
def CellsAt (W : World) (s o : Nat) (vs : List Value) : Prop := ∀ j v, vs[j]? = some v → W.cell? ⟨s, o + j, none⟩ = some v
theorem CellsAt.but {K : Nat → Prop} {W W' : World} {s o : Nat} {vs : List Value} (h : CellsAt W s o vs) (hs : s < W.heap.size) (hb : But K W W') (hk : ¬ K s) : CellsAt W' s o vs := fun j v hv => (hb.cell (p := ⟨s, o + j, none⟩) hs hk).trans (h j v hv)
theorem CellsAt.lt {W : World} {s o : Nat} {vs : List Value} (h : CellsAt W s o vs) (h0 : 0 < vs.length) : s < W.heap.size := World.block_lt_of_cell? W _ (h 0 _ (List.getElem?_eq_getElem h0))
theorem CellsAt.later {W W' : World} {s o : Nat} {vs : List Value} (h : CellsAt W s o vs) (hs : s < W.heap.size) (hb : Below W.heap.size W W') : CellsAt W' s o vs := h.but (K := fun _ => False) hs (But.of_below hb) id
theorem CellsAt.new (w : World) (vs : List Value) (t : TypeId) : CellsAt (w.alloc (.cells vs.toArray t)) w.heap.size 0 vs := fun j v hv => by
  rw [cell_of_row _ w.heap.size (0 + j) _ t (0, 0) (heap_alloc_new w _), Nat.zero_add]
  simpa using hv
theorem CellsAt.append {W : World} {s o : Nat} {xs ys : List Value} : CellsAt W s o (xs ++ ys) ↔ CellsAt W s o xs ∧ CellsAt W s (o + xs.length) ys := by
  constructor
  · intro h
    refine ⟨fun j v hv => h j v (by rw [List.getElem?_append_left (List.getElem?_eq_some_iff.1 hv).1]; exact hv), fun j v hv => ?_⟩
    rw [Nat.add_assoc]
    exact h _ v (by rw [List.getElem?_append_right (by omega), Nat.add_sub_cancel_left]; exact hv)
  · rintro ⟨h1, h2⟩ j v hv
    by_cases hj : j < xs.length
    · rw [List.getElem?_append_left hj] at hv; exact h1 j v hv
    · rw [List.getElem?_append_right (by omega)] at hv
      have := h2 _ v hv
      rw [Nat.add_assoc, show xs.length + (j - xs.length) = j by omega] at this
      exact this
theorem CellsAt.loads {W : World} {s o : Nat} {vs : List Value} (h : CellsAt W s o vs) : (loadCells ⟨s, o, none⟩ vs.length).run Try.prog W = .ok vs.toArray W := by
  exact run_loadCells_list (P := Try.prog) W ⟨s, o, none⟩ vs (fun j v hv => by rw [Addr.add_lit]; exact h j v hv)
theorem CellsAt.stored {W : World} {s o : Nat} {vs ws : List Value} (h : CellsAt W s o ws) (hl : vs.length = ws.length) : CellsAt (W.setCells s o vs) s o vs := fun j v hv => by
  have hj := (List.getElem?_eq_some_iff.1 hv).1
  rw [World.cell?_setCells_in s vs o W (fun i hi => by rw [h i _ (List.getElem?_eq_getElem (by omega))]; rfl) j hj]
  rw [← hv]
  exact (List.getElem?_eq_getElem hj).symm
theorem CellsAt.other {W : World} {s o o' : Nat} {vs ws : List Value} (h : CellsAt W s o' ws) (hd : o' + ws.length ≤ o ∨ o + vs.length ≤ o') : CellsAt (W.setCells s o vs) s o' ws := fun j v hv => by
  have hj := (List.getElem?_eq_some_iff.1 hv).1
  rw [World.cell?_setCells_out s vs o W ⟨s, o' + j, none⟩ (fun _ _ => by show o' + j < o ∨ o + vs.length ≤ o' + j; omega)]
  exact h j v hv

section
variable {ops : Array Oper} {rest : List Oper} {o : Oper} {a : Act} {w : World} {Q : Exit → Act → World → Prop}
/-- a whole struct is loaded, is stored -/
theorem wpList_loadA (hgd : o.guard = none) (T : TypeId) (n : Nat) (hag : ∀ W, (isAgg T).run Try.prog W = .ok true W) (hsz : ∀ W, (Go.sizeOf T).run Try.prog W = .ok n W) (x : Operand) (ho : o.op = .load T x)
    (s k : Nat) (hx : a.eval x = .pointer (some ⟨s, k, none⟩)) (vs : List Value) (hl : vs.length = n) (hg : CellsAt w s k vs)
    (h : wpList Try.prog ops Q rest (a.put o.dst (.agg vs.toArray)) w) : wpList Try.prog ops Q (o :: rest) a w := by
  refine wpList_plain hgd fun K hK => ?_
  unfold Oper.wp execOp
  have hg' := hg.loads
  rw [hl] at hg'
  simp only [ho, hx, Instr.loadAt, Instr.sureAddr, loadVar, Sem.run_bind, Sem.run_pure, Result.andThen_ok, hag, hsz, if_true, hg']
  exact hK _ _ h
theorem wpList_storeA (hgd : o.guard = none) (T : TypeId) (n : Nat) (hsz : ∀ W, (Go.sizeOf T).run Try.prog W = .ok n W) (x y : Operand) (ho : o.op = .store T x y)
    (s k : Nat) (hx : a.eval x = .pointer (some ⟨s, k, none⟩)) (vs ws : List Value) (hy : a.eval y = .agg vs.toArray) (hl : vs.length = n) (hl2 : ws.length = n) (hg : CellsAt w s k ws) (hf : ∀ j, w.frozen? ⟨s, j, none⟩ = false) (h1 : ∀ u ∈ vs, u.oneCell' = true)
    (h : CellsAt (w.setCells s k vs) s k vs → wpList Try.prog ops Q rest (a.put o.dst undef) (w.setCells s k vs)) : wpList Try.prog ops Q (o :: rest) a w := by
  refine wpList_plain hgd fun K hK => ?_
  unfold Oper.wp execOp
  have hst := run_storeCells_cells (P := Try.prog) s k vs 0 w (fun j hj => by rw [Nat.add_zero, hg j _ (List.getElem?_eq_getElem (by omega))]; rfl) (fun j hj => hf _) h1
  simp only [Nat.add_zero] at hst
  have hl' : vs.toArray.size = n := by simpa using hl
  simp only [ho, hx, hy, Instr.storeAt, Instr.sureAddr, storeVar, Sem.run_bind, Sem.run_pure, Result.andThen_ok, hsz, Value.cells, hl', ne_eq, not_true, if_false, hst]
  exact hK _ _ (h (hg.stored (by omega)))
end

theorem aggI (w : World) : (isAgg 23).run Try.prog w = .ok true w := by kernel_rfl
theorem sizI (w : World) : (Go.sizeOf 23).run Try.prog w = .ok 4 w := by kernel_rfl
/-- are two addresses the same? -/
def eqI (x y : I4) : Bool := decide (x = y)
def eqM (x y : M6) : Bool := decide (x = y)
theorem eqI_self (x : I4) : eqI x x = true := decide_eq_true rfl
theorem eqM_self (x : M6) : eqM x x = true := decide_eq_true rfl
theorem eqI_four (a b c d a' b' c' d' : Int) : eqI ⟨a, b, c, d⟩ ⟨a', b', c', d'⟩ = (a == a' && (b == b' && (c == c' && d == d'))) := by
  rw [Bool.eq_iff_iff]
  simp [eqI, I4.mk.injEq]
theorem eqM_six (a b c d e f a' b' c' d' e' f' : Int) : eqM ⟨a, b, c, d, e, f⟩ ⟨a', b', c', d', e', f'⟩ = (a == a' && (b == b' && (c == c' && (d == d' && (e == e' && f == f'))))) := by
  rw [Bool.eq_iff_iff]
  simp [eqM, M6.mk.injEq]
theorem eq_ip (w : World) (D : Nat) (a b c d a' b' c' d' : Int) :
    (Op.equalIn (D + 2) 23 (.agg #[.int .u8 a, .int .u8 b, .int .u8 c, .int .u8 d]) (.agg #[.int .u8 a', .int .u8 b', .int .u8 c', .int .u8 d'])).run Try.prog w = .ok (eqI ⟨a, b, c, d⟩ ⟨a', b', c', d'⟩) w := by
  obtain ⟨i0, hi, hz0, hz1, hz2⟩ := info_parts info_u8
  rw [run_equalIn_array (P := Try.prog) w (D + 1) _ _ Try.underlying23 hi, eqI_four]
  have hs : Try.prog.cellsOf 5 = 1 := by kernel_rfl
  rw [hs]
  simp only [show List.range 4 = [0, 1, 2, 3] from rfl, Op.eqItems, Sem.run_bind]
  simp [go_sem]
  repeat' split
  all_goals simp [*]
end Go.Proofs.Ytgempelfamjabaa
