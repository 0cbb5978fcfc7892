
/-
  TcpBack: the numbers.
-/
import Derived.Test.YtifoiodehejenaaDRow
namespace Go.Proofs.Ytifoiodehejenaa
open Go.RowKit Go.Shelf

theorem vals_at (x : I4) {k : Nat} (hk : k < 4) : x.vals[k]? = some (.int .u8 (x.at k)) := by
  have : k = 0 ∨ k = 1 ∨ k = 2 ∨ k = 3 := by omega
  rcases this with rfl | rfl | rfl | rfl <;> rfl
theorem vals_put (x : I4) {k : Nat} (hk : k < 4) (v : Int) : (x.put k v).vals = x.vals.set k (.int .u8 v) := by
  have : k = 0 ∨ k = 1 ∨ k = 2 ∨ k = 3 := by omega
  rcases this with rfl | rfl | rfl | rfl <;> rfl
theorem CellsAt.one {W : World} {s : Nat} {vs : List Value} (h : CellsAt W s 0 vs) {k : Nat} (hk : k < vs.length) (v : Value) : CellsAt (W.setCell ⟨s, k, none⟩ v) s 0 (vs.set k v) := by
  intro i u hu
  rw [Nat.zero_add]
  by_cases e : i = k
  · subst e
    rw [List.getElem?_set_self hk] at hu
    cases hu
    have := h i _ (List.getElem?_eq_getElem hk)
    rw [Nat.zero_add] at this
    exact World.cell?_setCell_same _ _ _ this
  · rw [List.getElem?_set_ne (fun h => e h.symm)] at hu
    have := h i u hu
    rw [Nat.zero_add] at this
    rw [setCell_out (by simpa using e)]
    exact this
section
variable {x y : I4} {bs : List Int}
theorem psB_put2 {k : Nat} (hk : k < 4) (v p n : Int) : psB x (y.put k v) p n = (psB x y p n).set (4 + k) v := by
  have : k = 0 ∨ k = 1 ∨ k = 2 ∨ k = 3 := by omega
  rcases this with rfl | rfl | rfl | rfl <;> rfl
theorem psB_at2 {k : Nat} (hk : k < 4) (p n : Int) (L : List Int) : nb (psB x y p n ++ L) (4 + k) = y.at k := by
  have : k = 0 ∨ k = 1 ∨ k = 2 ∨ k = 3 := by omega
  rcases this with rfl | rfl | rfl | rfl <;> rfl
theorem tdE_tfE (h : tdE x y bs = 0) : tfE x y bs = 0 := by
  unfold tdE at h
  by_cases e : tfE x y bs = 0
  · exact e
  · rw [if_pos e] at h; exact h
/-- another address -/
theorem td_other (hx : x.Ok) (hy : y.Ok) (hB : Bytes bs) (h : tdE x y bs = 0) {k j : Nat} (hk : k < 4) (hj : j < 8) : tdE x (y.put k (bits BinOp.xor IntKind.u8 (y.at k) (2 ^ j % 256))) bs = 5 := by
  obtain ⟨h1, h2, h3, h4, h5, h6, h7⟩ := tfE_zero hB (tdE_tfE h)
  obtain ⟨_, _, b2⟩ := hs_bd hB
  have ne := turned (psB x y 6 (bs.length : Int) ++ bs) (4 + k) j ((psB_bytes hx hy _ _).append hB) (by rw [List.length_append, psB_len]; omega) hj
  rw [psB_at2 hk, h5, List.set_append_left _ _ (by rw [psB_len]; omega), ← psB_put2 hk] at ne
  have e : tfE x (y.put k (bits BinOp.xor IntKind.u8 (y.at k) (2 ^ j % 256))) bs = 5 := by
    unfold tfE
    rw [if_neg (by omega), if_neg (by omega), if_pos (fun e => ne e.symm)]
  unfold tdE
  rw [e, if_pos (by decide)]
/-- one bit turned -/
theorem td_turn (hx : x.Ok) (hy : y.Ok) (hB : Bytes bs) (h : tdE x y bs = 0) {k j : Nat} (hk : k < bs.length) (hj : j < 8) : tdE x y (bs.set k (bits BinOp.xor IntKind.u8 (nb bs k) (2 ^ j % 256))) ≠ 0 := by
  obtain ⟨h1, h2, h3, h4, h5, h6, h7⟩ := tfE_zero hB (tdE_tfE h)
  have ne := turned (psB x y 6 (bs.length : Int) ++ bs) (12 + k) j ((psB_bytes hx hy _ _).append hB) (by rw [List.length_append, psB_len]; omega) hj
  have en : nb (psB x y 6 (bs.length : Int) ++ bs) (12 + k) = nb bs k := by
    unfold nb
    rw [List.getElem?_append_right (by rw [psB_len]; omega), psB_len, show 12 + k - 12 = k by omega]
  rw [en, h5, List.set_append_right _ _ (by rw [psB_len]; omega), psB_len, show 12 + k - 12 = k by omega] at ne
  generalize bits BinOp.xor IntKind.u8 (nb bs k) (2 ^ j % 256) = v at ne ⊢
  have e : tfE x y (bs.set k v) ≠ 0 := by
    unfold tfE
    rw [List.length_set, if_neg (by omega)]
    split
    · decide
    · rw [if_pos (fun e => ne e.symm)]; decide
  unfold tdE
  rw [if_pos e]
  exact e
end
/-- what is told, as the law puts it -/
def tolC (s : Sg) (gv dv : Value) : List Value := if s.flg / 2 % 2 = 0 then ((s.cells gv dv).set 6 (.int .i64 0)).set 7 (.bool false) else s.cells gv dv
theorem tolC_eq (s : Sg) (gv dv : Value) : tolC s gv dv = (toldS s).cells gv dv := by
  unfold tolC toldS hasB
  by_cases h : s.flg / 2 % 2 = 0
  · rw [if_pos h, if_neg (by rw [decide_eq_true_eq]; omega)]
    rfl
  · rw [if_neg h, if_pos (by rw [decide_eq_true_eq]; omega)]
theorem toldS_got (s : Sg) : (toldS s).got = s.got ∧ (toldS s).dat = s.dat := by
  unfold toldS
  split <;> exact ⟨rfl, rfl⟩
end Go.Proofs.Ytifoiodehejenaa
