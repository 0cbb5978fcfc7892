
/-
  'append' to a row of the call's own, for all lengths that can come in: the bound of append_runB is a little too low where a slice of the caller's stands behind one of ours.
-/
import Derived.Test.YtkfgdaccoekbgaaI17
namespace Go.Proofs.Ytkfgdaccoekbgaa
open Go.RowKit Go.Shelf

theorem next_fits {need old : Nat} (h : old < need) (hb : need ≤ 200000000000000) : Builtin.nextslicecap need old ≤ 281474976710656 := by
  unfold Builtin.nextslicecap
  split
  · omega
  · split
    · omega
    · rw [growBy_four]
      repeat' split
      all_goals omega
theorem append_runC {B : Nat} {W : World} {v tv : Value} {xs ys : List Int} (hx : Gro B W v xs) (h0 : 0 < xs.length) (hy : IsB W.heap.size W tv ys) (hB : B ≤ W.heap.size) (hl : xs.length + ys.length ≤ 200000000000000) :
    ∃ v' w', (Builtin.append_ #[24, 24] 24 #[v, tv]).run Try.prog W = .ok v' w' ∧ Gro B w' v' (xs ++ ys) ∧ Below B W w' := by
  by_cases hsm : xs.length + ys.length ≤ 140737488355328
  · exact append_runB hx hy hB hsm
  obtain ⟨i0, hi, hz0, hz1, hz2⟩ := info_parts info_u8
  have hr : ∀ k, v.ownBlock = some k → B ≤ k := fun k hk => (hx.lt k hk).1
  have hx' := hx
  obtain ⟨hlx, ⟨rfl, h1⟩ | ⟨g, cap, cur, rfl, hg, hh, hc, hm, hs, ht⟩⟩ := hx
  · omega
  obtain ⟨a, cy, rfl, hly, hn, hcy⟩ := hy
  cases a with
  | none =>
    have h1 := hn rfl
    subst h1
    have : ys = [] := List.eq_nil_of_length_eq_zero (by omega)
    subst this
    have hrun := run_append_owned_none (P := Try.prog) W B 24 24 5 i0 1 Try.underlying24 hi _ xs.length _ hx'
    exact ⟨_, W, hrun, by simpa using hx', Below.refl _ _⟩
  | some ad =>
    have hnews : ∀ j u, (ys.map (Value.int .u8))[j]? = some u → W.cell? (ad.add j) = some u := fun j u hu => by
      have hj : j < ys.length := by have := (List.getElem?_eq_some_iff.1 hu).1; simpa using this
      obtain ⟨b, off, e, _, hcs⟩ := hcy (by omega)
      cases e
      rw [Addr.add_lit, hcs j hj]
      simp only [List.getElem?_map, List.getElem?_eq_getElem hj, Option.map_some, Option.some.injEq] at hu
      simp [List.getElem?_eq_getElem hj, hu]
    have e : (xs ++ ys).length = xs.length + ys.length := by simp
    by_cases hroom : xs.length + ys.length ≤ cap
    · have hfit : xs.length * i0.size + (ys.map (Value.int .u8)).length ≤ cur.size := by
        rw [hz1, hs]; simp; omega
      have hrun := run_append_room (P := Try.prog) W 24 24 5 i0 Try.underlying24 hi g xs.length cap cur hh ad ys.length cy (ys.map (Value.int .u8)) (by rw [hz1]; simp) hnews (ints_oneCell _ _) hroom hfit
      refine ⟨_, _, hrun, ?_, (Below.refl B W).grown (row := some g) ⟨rfl, rfl, rfl, by simp, fun k _ hk => setRow_other W g k _ (fun e => hk (by rw [e]))⟩ hB (fun k hk => by cases hk; exact hg)⟩
      unfold Gro
      rw [e, List.map_append]
      rw [hz1] at *
      refine ⟨by simp, .inr ⟨g, cap, _, rfl, hg, setRow_heap W g cur _ 5 _ hh, hroom, hm, ?_, ?_⟩⟩
      · simp only [List.size_toArray, List.length_append, List.length_take, List.length_drop, Array.length_toList, List.length_map, hs]
        omega
      · have ht2 : cur.toList.take (xs.length * 1) = xs.map (Value.int .u8) := ht
        rw [ht2]
        have hlen : ((xs.length + ys.length) * 1) = (xs.map (Value.int .u8) ++ ys.map (Value.int .u8)).length := by simp
        rw [hlen]
        exact List.take_left
    · have holds : ∀ j u, (xs.map (Value.int .u8))[j]? = some u → W.cell? ((⟨g, 0, none⟩ : Addr).add j) = some u := World.ownsRow.cells hx' (g := g) rfl
      have hfit : Builtin.nextslicecap (xs.length + ys.length) cap * i0.bytes ≤ 281474976710656 := by
        rw [hz2, Nat.mul_one]
        exact next_fits (by omega) hl
      have hrun := run_append_grow (P := Try.prog) W 24 24 5 i0 (.int .u8 0) Try.underlying24 hi hz0 ⟨g, 0, none⟩ xs.length cap (xs.map (Value.int .u8)) (by rw [hz1]; simp) holds ad ys.length cy (ys.map (Value.int .u8)) (by rw [hz1]; simp) hnews (by omega) (by omega) hfit
      have hge := grownCap_ge W (xs.length + ys.length) cap 5
      have hcm : grownCap W (xs.length + ys.length) cap 5 ≤ maxLen := grownCap_le_maxLen W _ cap _ (by unfold maxLen; omega)
      refine ⟨_, _, hrun, ?_, (Below.refl B W).grown (row := none) ⟨rfl, rfl, rfl, by simp, fun k hk _ => heap_alloc_old W.drew _ hk⟩ hB (fun k hk => by cases hk)⟩
      unfold Gro
      rw [e, List.map_append]
      refine ⟨by simp, .inr ⟨W.heap.size, _, _, rfl, hB, heap_alloc_new W.drew _, hge, hcm, ?_, ?_⟩⟩
      · simp only [Array.size_append, List.size_toArray, size_zeroCells, List.length_map]
        show _ + _ * 1 = _
        omega
      · simp only [Array.toList_append]
        have hlen : ((xs.length + ys.length) * 1) = (xs.map (Value.int .u8) ++ ys.map (Value.int .u8)).length := by simp
        rw [hlen]
        exact List.take_left
theorem wpList_growC {w : World} {ops : Array Oper} {rest : List Oper} {o : Oper} {a : Act} {Q : Exit → Act → World → Prop} (hg : o.guard = none) (s x : Operand)
    (hop : o.op = Op.call { callee := Callee.builtin Builtin.append, args := #[s, x], argTypes := #[24, 24] }) (hty : o.type = 24)
    (B : Nat) (v tv : Value) (xs ys : List Int) (hs : a.eval s = v) (hx : a.eval x = tv) (gx : Gro B w v xs) (h0 : 0 < xs.length) (iy : IsB w.heap.size w tv ys) (hB : B ≤ w.heap.size) (hl : xs.length + ys.length ≤ 200000000000000) (L : List Int) (hL : xs ++ ys = L)
    (hK : ∀ (a' : Option Addr) (cap' : Nat) (w' : World), L.length ≤ cap' → Gro B w' (.slice a' L.length cap') L → Below B w w' → wpList Try.prog ops Q rest (a.put o.dst (.slice a' L.length cap')) w') :
    wpList Try.prog ops Q (o :: rest) a w := by
  subst hL
  refine wpList_plain hg fun K hK' => ?_
  obtain ⟨v', w', hrun, g', b'⟩ := append_runC gx h0 iy hB hl
  obtain ⟨a', cap', rfl, hle⟩ := g'.isB.shape
  unfold Oper.wp
  simp only [execOp, hop, hty]
  simp [resolve, invoke, builtin, hs, hx, hrun, Result.andThen, -List.length_append]
  exact hK' _ _ (hK a' cap' w' hle g' b')
end Go.Proofs.Ytkfgdaccoekbgaa
