
/-
  A slot's timers in memory; find: slices.IndexFunc with a closure.
-/
import Derived.Test.YtglbobobifejmaaQBase
namespace Go.Proofs.Ytglbobobifejmaa
open Go.RowKit

/-- timers: id and tick -/
def flt (l : List (Int × Int)) : List Value := l.flatMap (fun p => [.int .i64 p.1, .int .i64 p.2])
theorem flt_cons (p : Int × Int) (l : List (Int × Int)) : flt (p :: l) = .int .i64 p.1 :: .int .i64 p.2 :: flt l := rfl
theorem flt_append (a b : List (Int × Int)) : flt (a ++ b) = flt a ++ flt b := by simp [flt]
theorem flt_len (l : List (Int × Int)) : (flt l).length = l.length * 2 := by
  induction l with
  | nil => rfl
  | cons p l ih => simp [flt_cons, ih]; omega
theorem flt_get (l : List (Int × Int)) (k : Nat) (p : Int × Int) (h : l[k]? = some p) : (flt l)[k * 2]? = some (.int .i64 p.1) ∧ (flt l)[k * 2 + 1]? = some (.int .i64 p.2) := by
  induction l generalizing k with
  | nil => simp at h
  | cons q l ih =>
    cases k with
    | zero => simp only [List.getElem?_cons_zero, Option.some.injEq] at h; subst h; exact ⟨rfl, rfl⟩
    | succ k =>
      simp only [List.getElem?_cons_succ] at h
      have := ih k h
      rw [flt_cons, show (k + 1) * 2 = k * 2 + 1 + 1 by omega, show k * 2 + 1 + 1 + 1 = (k * 2 + 1) + 1 + 1 by omega, List.getElem?_cons_succ, List.getElem?_cons_succ, List.getElem?_cons_succ, List.getElem?_cons_succ]
      exact this
/-- the slice value v holds the timers l, in a block of its own -/
def RowL (w : World) (v : Value) (l : List (Int × Int)) : Prop := w.ownsRow 0 49 2 v l.length (flt l)
theorem RowL.keep {w w' : World} {v : Value} {l : List (Int × Int)} (h : RowL w v l) {K : Nat → Prop} (hb : But K w w') (hk : ∀ k, v.ownBlock = some k → ¬ K k) : RowL w' v l := by
  obtain ⟨h1, h2 | ⟨g, cap, cur, rfl, hg, hh, rr⟩⟩ := h
  · exact ⟨h1, .inl h2⟩
  · exact ⟨h1, .inr ⟨g, cap, cur, rfl, hg, by rw [hb.block g (Array.getElem?_eq_some_iff.1 hh).1 (hk g rfl)]; exact hh, rr⟩⟩
theorem RowL.later {w w' : World} {v : Value} {l : List (Int × Int)} (h : RowL w v l) (hb : Below w.heap.size w w') : RowL w' v l := h.keep (But.of_below (K := fun _ => False) hb) (fun _ _ => id)
theorem RowL.shape {w : World} {v : Value} {l : List (Int × Int)} (h : RowL w v l) : ∃ a c, v = .slice a l.length c ∧ (0 < l.length → ∃ g, a = some ⟨g, 0, none⟩) := by
  obtain ⟨_, ⟨rfl, h0⟩ | ⟨g, cap, cur, rfl, _⟩⟩ := h
  · exact ⟨none, 0, by rw [h0], fun h => by omega⟩
  · exact ⟨_, _, rfl, fun _ => ⟨g, rfl⟩⟩
theorem RowL.at {w : World} {g c : Nat} {l : List (Int × Int)} (h : RowL w (.slice (some ⟨g, 0, none⟩) l.length c) l) {k : Nat} {p : Int × Int} (hp : l[k]? = some p) : w.cell? ⟨g, k * 2, none⟩ = some (.int .i64 p.1) ∧ w.cell? ⟨g, k * 2 + 1, none⟩ = some (.int .i64 p.2) := by
  have hk := (List.getElem?_eq_some_iff.1 hp).1
  obtain ⟨f0, f1⟩ := flt_get l k p hp
  exact ⟨by rw [World.ownsRow.cellAt h _ (by omega)]; exact f0, by rw [World.ownsRow.cellAt h _ (by omega)]; exact f1⟩

/-- the first place where p holds, or -1 -/
def idx (p : Int × Int → Bool) (l : List (Int × Int)) : Int := match l.findIdx? p with
  | some k => (k : Int)
  | none => -1

set_option maxRecDepth 100000 in
theorem find1_any (id tm x : Int) (s : Nat) (w : World) (hc : w.cell? ⟨s, 0, none⟩ = some (.int .i64 x)) :
    Calls Try.prog 34 #[.agg #[.int .i64 id, .int .i64 tm], .pointer (some ⟨s, 0, none⟩)] w fun e w' => e = .returned (.bool (id == x)) ∧ Below w.heap.size w w' := by
  have B1 : Hid (Below w.heap.size w (w.alloc (.cells #[.int .i64 id, .int .i64 tm] 49))) := (Below.refl _ _).alloc (Nat.le_refl _) _
  have hs := World.block_lt_of_cell? w _ hc
  have hc2 := (B1.out.cell (p := ⟨s, 0, none⟩) hs).trans hc
  go_enter Try.func34, Try.ntmps34
  go_wp2
  go_ret
  exact ⟨rfl, B1.out⟩

set_option maxRecDepth 100000 in
set_option maxHeartbeats 4000000 in
/-- slices.IndexFunc of a slot, with a closure of one captured cell whose answer is p -/
theorem IndexFunc_find {s : Nat} {w : World} {v : Value} {l : List (Int × Int)} (h : RowL w v l) (hl : l.length ≤ 1000000) (p : Int × Int → Bool) (hF : ∀ (W : World) (q : Int × Int), Below w.heap.size w W → Calls Try.prog 34 #[.agg #[.int .i64 q.1, .int .i64 q.2], .pointer (some ⟨s, 0, none⟩)] W fun e w' => e = .returned (.bool (p q)) ∧ Below W.heap.size W w') :
    Calls Try.prog 31 #[v, .func (.func 34) #[] #[.pointer (some ⟨s, 0, none⟩)]] w fun e w' => e = .returned (.int .i64 (idx p l)) ∧ Below w.heap.size w w' := by
  have H := hide h
  have HF := hide hF
  obtain ⟨a, c, rfl, hsm⟩ := h.shape
  have zl : (l.length : Int) ≤ 1000000 := by omega
  clear h hF
  go_enter Try.func31, Try.ntmps31
  go_wp2
  go_loopw [8] (fun u wr => ∃ (k : Nat), u = .int .i64 (k : Int) ∧ k ≤ l.length ∧ Hid (Below w.heap.size w wr) ∧ Hid (∀ j q, j < k → l[j]? = some q → p q = false)) (fun u _ => l.length - (intOf u).toNat)
  case atStart => exact ⟨0, rfl, Nat.zero_le _, Below.refl _ _, fun j q hj => by omega⟩
  case round =>
    obtain ⟨k, rfl, hk, hB, hN⟩ := hrel
    by_cases hlt : k < l.length
    · have zk : (k : Int) < (l.length : Int) := by omega
      obtain ⟨g, rfl⟩ := hsm (by omega)
      obtain ⟨q, hq⟩ : ∃ q, l[k]? = some q := ⟨_, List.getElem?_eq_getElem hlt⟩
      obtain ⟨c0, c1⟩ := (H.out.later hB.out).at hq
      have X := hide (HF.out wr q hB.out)
      have HQ := hide hq
      obtain ⟨q0, q1⟩ := q
      simp only at c0 c1
      clear hq hsm
      go_wp2_with fail
      refine X.out.mono ?_
      rintro e w3 ⟨rfl, hb3⟩
      have B3 := hide (hB.out.trans (hb3.mono hB.out.size))
      clear hb3 X c0 c1
      cases hp : p (q0, q1) with
      | true =>
        have EI : Hid (idx p l = (k : Int)) := by
          have : l.findIdx? p = some k := List.findIdx?_eq_some_iff_getElem.2 ⟨hlt, by have := HQ.out; rw [List.getElem?_eq_getElem hlt] at this; rw [Option.some.inj this]; exact hp, fun j hj => by
            have := hN.out j (l[j]) hj (List.getElem?_eq_getElem (by omega)); simp [this]⟩
          unfold Hid idx; rw [this]
        go_wp2
        go_ret
        exact ⟨ret_int EI.out.symm, B3.out⟩
      | false =>
        go_wp2
        go_roundw
        case rel => exact ⟨k + 1, by go_num, by omega, B3.out, fun j q hj hjq => by
          by_cases e : j = k
          · subst e; have := HQ.out; rw [hjq] at this; rw [Option.some.inj this]; exact hp
          · exact hN.out j q (by omega) hjq⟩
        case measure => simp [intOf]; omega
    · have EI : Hid (idx p l = -1) := by
        have : l.findIdx? p = none := List.findIdx?_eq_none_iff.2 (fun q hq => by
          obtain ⟨j, hj, rfl⟩ := List.mem_iff_getElem.1 hq
          exact hN.out j _ (by omega) (List.getElem?_eq_getElem hj))
        unfold Hid idx; rw [this]
      have zk : ¬ (k : Int) < (l.length : Int) := by omega
      go_wp2
      go_ret
      exact ⟨ret_int EI.out.symm, hB.out⟩

set_option maxRecDepth 100000 in
set_option maxHeartbeats 4000000 in
/-- slices.IndexFunc of a slot, with a closure of one captured cell whose answer is p -/
theorem IndexFunc_add {s : Nat} {w : World} {v : Value} {l : List (Int × Int)} (h : RowL w v l) (hl : l.length ≤ 1000000) (p : Int × Int → Bool) (hF : ∀ (W : World) (q : Int × Int), Below w.heap.size w W → Calls Try.prog 32 #[.agg #[.int .i64 q.1, .int .i64 q.2], .pointer (some ⟨s, 0, none⟩)] W fun e w' => e = .returned (.bool (p q)) ∧ Below W.heap.size W w') :
    Calls Try.prog 31 #[v, .func (.func 32) #[] #[.pointer (some ⟨s, 0, none⟩)]] w fun e w' => e = .returned (.int .i64 (idx p l)) ∧ Below w.heap.size w w' := by
  have H := hide h
  have HF := hide hF
  obtain ⟨a, c, rfl, hsm⟩ := h.shape
  have zl : (l.length : Int) ≤ 1000000 := by omega
  clear h hF
  go_enter Try.func31, Try.ntmps31
  go_wp2
  go_loopw [8] (fun u wr => ∃ (k : Nat), u = .int .i64 (k : Int) ∧ k ≤ l.length ∧ Hid (Below w.heap.size w wr) ∧ Hid (∀ j q, j < k → l[j]? = some q → p q = false)) (fun u _ => l.length - (intOf u).toNat)
  case atStart => exact ⟨0, rfl, Nat.zero_le _, Below.refl _ _, fun j q hj => by omega⟩
  case round =>
    obtain ⟨k, rfl, hk, hB, hN⟩ := hrel
    by_cases hlt : k < l.length
    · have zk : (k : Int) < (l.length : Int) := by omega
      obtain ⟨g, rfl⟩ := hsm (by omega)
      obtain ⟨q, hq⟩ : ∃ q, l[k]? = some q := ⟨_, List.getElem?_eq_getElem hlt⟩
      obtain ⟨c0, c1⟩ := (H.out.later hB.out).at hq
      have X := hide (HF.out wr q hB.out)
      have HQ := hide hq
      obtain ⟨q0, q1⟩ := q
      simp only at c0 c1
      clear hq hsm
      go_wp2_with fail
      refine X.out.mono ?_
      rintro e w3 ⟨rfl, hb3⟩
      have B3 := hide (hB.out.trans (hb3.mono hB.out.size))
      clear hb3 X c0 c1
      cases hp : p (q0, q1) with
      | true =>
        have EI : Hid (idx p l = (k : Int)) := by
          have : l.findIdx? p = some k := List.findIdx?_eq_some_iff_getElem.2 ⟨hlt, by have := HQ.out; rw [List.getElem?_eq_getElem hlt] at this; rw [Option.some.inj this]; exact hp, fun j hj => by
            have := hN.out j (l[j]) hj (List.getElem?_eq_getElem (by omega)); simp [this]⟩
          unfold Hid idx; rw [this]
        go_wp2
        go_ret
        exact ⟨ret_int EI.out.symm, B3.out⟩
      | false =>
        go_wp2
        go_roundw
        case rel => exact ⟨k + 1, by go_num, by omega, B3.out, fun j q hj hjq => by
          by_cases e : j = k
          · subst e; have := HQ.out; rw [hjq] at this; rw [Option.some.inj this]; exact hp
          · exact hN.out j q (by omega) hjq⟩
        case measure => simp [intOf]; omega
    · have EI : Hid (idx p l = -1) := by
        have : l.findIdx? p = none := List.findIdx?_eq_none_iff.2 (fun q hq => by
          obtain ⟨j, hj, rfl⟩ := List.mem_iff_getElem.1 hq
          exact hN.out j _ (by omega) (List.getElem?_eq_getElem hj))
        unfold Hid idx; rw [this]
      have zk : ¬ (k : Int) < (l.length : Int) := by omega
      go_wp2
      go_ret
      exact ⟨ret_int EI.out.symm, hB.out⟩

/-- find -/
def fnd (l : List (Int × Int)) (x : Int) : Int := idx (fun q => q.1 == x) l
set_option maxRecDepth 100000 in
theorem find_any {w : World} {v : Value} {l : List (Int × Int)} (h : RowL w v l) (hl : l.length ≤ 1000000) (x : Int) :
    Calls Try.prog 26 #[v, .int .i64 x] w fun e w' => e = .returned (.int .i64 (fnd l x)) ∧ Below w.heap.size w w' := by
  have b1 : Below w.heap.size w (w.alloc (.cells #[.int .i64 x] 3)) := (Below.refl _ _).alloc (Nat.le_refl _) _
  have hc : (w.alloc (.cells #[.int .i64 x] 3)).cell? ⟨w.heap.size, 0, none⟩ = some (.int .i64 x) := by
    rw [cell_of_row _ w.heap.size 0 _ 3 (0, 0) (heap_alloc_new w _)]; rfl
  have X := hide (IndexFunc_find (s := w.heap.size) (h.later b1) hl (fun q => q.1 == x) (fun W q hb => find1_any q.1 q.2 x w.heap.size W ((hb.cell (p := ⟨w.heap.size, 0, none⟩) (World.block_lt_of_cell? _ _ hc)).trans hc)))
  have B1 := hide b1
  obtain ⟨a, c, rfl, _⟩ := h.shape
  clear h b1 hc
  go_enter Try.func26, Try.ntmps26
  go_wp2_with fail
  refine X.out.mono ?_
  rintro e w3 ⟨rfl, hb3⟩
  have B3 := hide (B1.out.trans (hb3.mono B1.out.size))
  clear hb3 X
  go_wp2
  go_ret
  exact ⟨rfl, B3.out⟩
end Go.Proofs.Ytglbobobifejmaa
