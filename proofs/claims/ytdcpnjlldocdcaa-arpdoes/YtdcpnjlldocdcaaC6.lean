
/-
  The document's cache: out.
-/
import Derived.Test.YtdcpnjlldocdcaaC5
namespace Go.Proofs.Ytdcpnjlldocdcaa
open Go.RowKit Go.Shelf

theorem flat_len (d : Nat → List Value) : ∀ (m : Nat), (∀ q, q < m → (d q).length = 15) → ((List.range m).flatMap d).length = m * 15
  | 0, _ => by simp
  | m + 1, h => by
    rw [List.range_succ, List.flatMap_append, List.length_append, flat_len d m (fun q hq => h q (by omega))]
    simp [h m (by omega)]
    omega
theorem flat_at (d : Nat → List Value) : ∀ (m : Nat), (∀ q, q < m → (d q).length = 15) → ∀ q, q < m → ∀ r, r < 15 → ((List.range m).flatMap d)[q * 15 + r]? = (d q)[r]?
  | 0, _, q, hq, _, _ => by omega
  | m + 1, h, q, hq, r, hr => by
    have hl := flat_len d m (fun q hq => h q (by omega))
    rw [List.range_succ, List.flatMap_append]
    by_cases e : q < m
    · rw [List.getElem?_append_left (by omega)]
      exact flat_at d m (fun q hq => h q (by omega)) q e r hr
    · have : q = m := by omega
      subst this
      rw [List.getElem?_append_right (by omega), hl, show q * 15 + r - q * 15 = r by omega]
      simp
/-- some neighbours more: a part of a row behind another -/
theorem nb_more {O : Nat → Prop} {W : World} {v : Value} {len : Nat} {c : Nat → List Value} (h : RowF 15 O W v len c) (hn : ∀ q, q < len → (c q).length = 15) (h1 : ∀ q, q < len → ∀ u ∈ c q, u.oneCell' = true) (g o cc mm : Nat) (d : Nat → List Value) (hd : ∀ q, q < mm → (d q).length = 15) (hd1 : ∀ q, q < mm → ∀ u ∈ d q, u.oneCell' = true) (hc : ∀ q, q < mm → CellsAt W g (o + q * 15) (d q)) (hm : 0 < mm) (hl : len + mm ≤ 1000) :
    ∃ a' c' w2, (Builtin.append_ #[41, 41] 41 #[v, .slice (some ⟨g, o, none⟩) mm cc]).run Try.prog W = .ok (.slice a' (len + mm) c') w2 ∧ RowF 15 (fun g => O g ∨ g = W.heap.size) w2 (.slice a' (len + mm) c') (len + mm) (fun q => if q < len then c q else d (q - len)) ∧ But O W w2 := by
  obtain ⟨i0, hi, hz0, hz1, hz2⟩ := info_parts info_nb
  have hlen := flat_len d mm hd
  refine h.more 41 66 i0 _ Try.underlying41 hi hz0 hz1 (by omega) rfl hn h1 _ mm d ((List.range mm).flatMap d) hlen (fun q hq j u hu => ?_) hd (Src.ofSlice (P := Try.prog) _ Try.underlying41 ⟨g, o, none⟩ mm cc ((List.range mm).flatMap d) hlen (fun j u hu => ?_) (fun u hu => ?_)) hm (by omega)
  · have hj : j < 15 := by have := (List.getElem?_eq_some_iff.1 hu).1; rw [hd q hq] at this; exact this
    rw [flat_at d mm hd q hq j hj]
    exact hu
  · have hj : j < mm * 15 := by have := (List.getElem?_eq_some_iff.1 hu).1; omega
    have e : j = j / 15 * 15 + j % 15 := by omega
    rw [e, flat_at d mm hd (j / 15) (by omega) (j % 15) (by omega)] at hu
    rw [Addr.add_mid, show o + j = o + j / 15 * 15 + j % 15 by omega]
    exact hc (j / 15) (by omega) (j % 15) u hu
  · obtain ⟨q, hq, hu⟩ := List.mem_flatMap.1 hu
    exact hd1 q (List.mem_range.1 hq) u hu
/-- 'append' of no neighbour -/
theorem run_appN_zero (W : World) (a : Option Addr) (n c : Nat) (hc : n ≤ c) (a2 : Option Addr) (c2 : Nat) : (Builtin.append_ #[41, 41] 41 #[.slice a n c, .slice a2 0 c2]).run Try.prog W = .ok (.slice a n c) W := by
  obtain ⟨i, hi, hz0, hz1, hz2⟩ := info_parts info_nb
  have hs : (loadCells (a2.getD ⟨0, 0, none⟩) 0).run Try.prog W = .ok #[] W := rfl
  cases a2 with
  | none => cases a with
    | none => simp [Builtin.append_, run_underlying Try.underlying41, sizeOf, typeInfo, hi, hc, Builtin.lenOf, Builtin.firstCells]
    | some ad => simp [Builtin.append_, run_underlying Try.underlying41, sizeOf, typeInfo, hi, hc, Builtin.lenOf, Builtin.firstCells, storeCells]
  | some a2 =>
    simp only [Option.getD_some] at hs
    cases a with
    | none => simp [Builtin.append_, run_underlying Try.underlying41, sizeOf, typeInfo, hi, hc, Builtin.lenOf, Builtin.firstCells, hs]
    | some ad => simp [Builtin.append_, run_underlying Try.underlying41, sizeOf, typeInfo, hi, hc, Builtin.lenOf, Builtin.firstCells, storeCells, hs]
theorem exec_slF {o : Oper} {w : World} {ev : Operand → Value} (x y : Operand) (g n c k : Nat) (ho : o.op = .slice 41 x none (some y) none) (hx : ev x = .slice (some ⟨g, 0, none⟩) n c) (hy : ev y = .int .i64 (k : Int)) (hk : k ≤ n) (hc : n ≤ c) (h0 : 0 < c) : (execOp ev o).run Try.prog w = .ok (.value (.slice (some ⟨g, 0, none⟩) k c)) w := by
  have h1 : (k : Int) ≤ c := by omega
  have h2 : ¬ c = 0 := by omega
  unfold execOp
  simp [ho, hx, hy, go_sem, h1, h2]
theorem exec_slG {o : Oper} {w : World} {ev : Operand → Value} (x y : Operand) (g n c k : Nat) (ho : o.op = .slice 41 x (some y) none none) (hx : ev x = .slice (some ⟨g, 0, none⟩) n c) (hy : ev y = .int .i64 (k : Int)) (hk : k ≤ n) (hc : n ≤ c) : (execOp ev o).run Try.prog w = .ok (.value (.slice (some ⟨g, if c = k then 0 else k * 15, none⟩) (n - k) (c - k))) w := by
  have h1 : (k : Int) ≤ n := by omega
  unfold execOp
  by_cases h2 : c = k
  · subst h2
    have : n = c := by omega
    subst this
    simp [ho, hx, hy, go_sem]
  · simp [ho, hx, hy, go_sem, h1, h2]
end Go.Proofs.Ytdcpnjlldocdcaa
