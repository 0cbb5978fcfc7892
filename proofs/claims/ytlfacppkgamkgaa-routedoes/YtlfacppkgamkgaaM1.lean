
/-
  Package route: ways, rows and keys as values; the map in memory: looked up, written, cut.
-/
import Derived.Test.YtlfacppkgamkgaaR1
import Derived.Maps.RangeRun
import Derived.WideKeyRuns
import Derived.DeepKeys3
namespace Go.Proofs.Ytlfacppkgamkgaa
open Go.RowKit Go.Shelf
open Go.ChangeMaps (setBlock)

/-- a way -/
structure Wy where
  net : I4
  bits : Int
  gate : I4
  via : Bool
  deriving DecidableEq
/-- its ten cells -/
def Wy.cells (x : Wy) : List Value := x.net.vals ++ (.int .i64 x.bits :: (x.gate.vals ++ [.bool x.via]))
def Wy.val (x : Wy) : Value := .agg x.cells.toArray
/-- a row: a way, its place, its entry's stamp -/
structure Rw where
  w : Wy
  pl : Int
  bn : Nat
def Rw.cells (r : Rw) : List Value := r.w.cells ++ [.int .i64 r.pl]
def keyc (n : I4) (k : Int) : List Value := [.int .i64 n.a, .int .i64 n.b, .int .i64 n.c, .int .i64 n.d, .int .i64 k]
def ent (r : Rw) : MapEntry := ⟨.agg (keyc r.w.net r.w.bits).toArray, .agg r.cells.toArray, r.bn⟩
/-- the map in block b -/
def MapAt (W : World) (b : Nat) (L : List Rw) (ck : Nat) : Prop := W.heap[b]? = some (.map (L.map ent).toArray ck)
theorem MapAt.lt {W : World} {b : Nat} {L : List Rw} {ck : Nat} (h : MapAt W b L ck) : b < W.heap.size := (Array.getElem?_eq_some_iff.1 h).1
theorem MapAt.but {K : Nat → Prop} {W W' : World} {b : Nat} {L : List Rw} {ck : Nat} (h : MapAt W b L ck) (hb : But K W W') (hk : ¬ K b) : MapAt W' b L ck := (hb.block b h.lt hk).trans h
theorem MapAt.later {W W' : World} {b : Nat} {L : List Rw} {ck : Nat} (h : MapAt W b L ck) (hb : Below W.heap.size W W') : MapAt W' b L ck := h.but (K := fun _ => False) (But.of_below hb) id
theorem But.block_ {K : Nat → Prop} {w : World} {b : Nat} (hb : K b) (o : Obj) : But K w (setBlock w b o) :=
  ⟨rfl, rfl, rfl, by simp [setBlock], fun i _ hi => by
    simp only [setBlock]
    rw [Array.getElem?_setIfInBounds_ne]
    rintro rfl; exact hi hb⟩
theorem MapAt.set {W : World} {b : Nat} {L : List Rw} {ck : Nat} (h : MapAt W b L ck) (M : List Rw) (k : Nat) : MapAt (setBlock W b (.map (M.map ent).toArray k)) b M k := by
  unfold MapAt setBlock
  rw [Array.getElem?_setIfInBounds_self]
  simp [h.lt]

/-- is this the row of a net and its bits? -/
def isK (n : I4) (k : Int) (r : Rw) : Bool := decide (r.w.net = n ∧ r.w.bits = k)
theorem eqK_five (a b c d e a' b' c' d' e' : Int) : isK ⟨a, b, c, d⟩ e ⟨⟨⟨a', b', c', d'⟩, e', ⟨0, 0, 0, 0⟩, false⟩, 0, 0⟩ = (a == a' && (b == b' && (c == c' && (d == d' && e == e')))) := by
  rw [Bool.eq_iff_iff]
  simp [isK, I4.mk.injEq]
  constructor
  · rintro ⟨⟨rfl, rfl, rfl, rfl⟩, rfl⟩; simp
  · rintro ⟨rfl, rfl, rfl, rfl, rfl⟩; simp
theorem eq_key (w : World) (D : Nat) (a b c d e a' b' c' d' e' : Int) :
    (Op.equalIn (D + 2) 54 (.agg #[.int .i64 a, .int .i64 b, .int .i64 c, .int .i64 d, .int .i64 e]) (.agg #[.int .i64 a', .int .i64 b', .int .i64 c', .int .i64 d', .int .i64 e'])).run Try.prog w = .ok (a == a' && (b == b' && (c == c' && (d == d' && e == e')))) w := by
  obtain ⟨i0, hi, hz0, hz1, hz2⟩ := info_parts info_int
  rw [run_equalIn_array (P := Try.prog) w (D + 1) _ _ Try.underlying54 hi]
  have hs : Try.prog.cellsOf 3 = 1 := by kernel_rfl
  rw [hs]
  simp only [show List.range 5 = [0, 1, 2, 3, 4] from rfl, Op.eqItems, Sem.run_bind]
  simp [go_sem]
  repeat' split
  all_goals simp [*]
theorem eq_row (w : World) (D : Nat) (n : I4) (k : Int) (r : Rw) : (Op.equalIn (D + 2) 54 (.agg (keyc n k).toArray) (ent r).key).run Try.prog w = .ok (isK n k r) w := by
  obtain ⟨⟨⟨a', b', c', d'⟩, e', g, v⟩, p, s⟩ := r
  obtain ⟨a, b, c, d⟩ := n
  have h := eq_key w D a b c d k a' b' c' d' e'
  have e : isK ⟨a, b, c, d⟩ k ⟨⟨⟨a', b', c', d'⟩, e', g, v⟩, p, s⟩ = isK ⟨a, b, c, d⟩ k ⟨⟨⟨a', b', c', d'⟩, e', ⟨0, 0, 0, 0⟩, false⟩, 0, 0⟩ := rfl
  rw [e, eqK_five]
  exact h
theorem chk_key (w : World) (em : Bool) (a b c d e : Int) : (Instr.checkKey em 10000 54 (.agg #[.int .i64 a, .int .i64 b, .int .i64 c, .int .i64 d, .int .i64 e])).run Try.prog w = .ok () w := by
  kernel_rfl
end Go.Proofs.Ytlfacppkgamkgaa
