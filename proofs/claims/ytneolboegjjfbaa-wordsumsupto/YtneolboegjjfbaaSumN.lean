/-
  Sum of two, three, four parts, and what checksums of joined texts come to.
-/
import Derived.Test.YtneolboegjjfbaaGrow
namespace Go.Proofs.Ytneolboegjjfbaa
open Go.RowKit

theorem SumN (vs : List Value) (ps : List (List Int)) (w : World) (hl : vs.length = ps.length) (h : ∀ j, j < vs.length → IsB w.heap.size w (vs[j]?.getD undef) (ps[j]?.getD [])) (hB : ∀ bs ∈ ps, Bytes bs)
    (hn : (ps.length : Int) ≤ 4611686018427387904) (hto : (ps.flatten.length : Int) ≤ 562949953421300) :
    Calls Try.prog 17 #[.slice (some ⟨w.heap.size, 0, none⟩) vs.length vs.length] (w.alloc (.cells vs.toArray 22)) fun e W' => e = .returned (.int .i64 (csum ps.flatten)) ∧ Below w.heap.size w W' := by
  have hp : IsP (w.alloc (.cells vs.toArray 22)).heap.size (w.alloc (.cells vs.toArray 22)) (.slice (some ⟨w.heap.size, 0, none⟩) vs.length vs.length) ps := by
    rw [World.size_alloc]
    exact IsP_new vs ps hl h
  have := Sum_any _ ps (Small_of hn hB hto) hto _ hp
  exact this.mono fun e W' ⟨he, hb⟩ => ⟨he, (later_alloc w _).trans (hb.mono (by simp))⟩

theorem Sum2 (v1 v2 : Value) (b1 b2 : List Int) (w : World) (h1 : IsB w.heap.size w v1 b1) (h2 : IsB w.heap.size w v2 b2) (B1 : Bytes b1) (B2 : Bytes b2) (hto : b1.length + b2.length ≤ 562949953421300) :
    Calls Try.prog 17 #[.slice (some ⟨w.heap.size, 0, none⟩) 2 2] (w.alloc (.cells #[v1, v2] 22)) fun e W' => e = .returned (.int .i64 (csum (b1 ++ b2))) ∧ Below w.heap.size w W' := by
  have hf : [b1, b2].flatten = b1 ++ b2 := by simp
  have := SumN [v1, v2] [b1, b2] w rfl (fun j hj => by
    match j, hj with
    | 0, _ => exact h1
    | 1, _ => exact h2) (by intro bs hb; simp at hb; rcases hb with rfl | rfl <;> assumption) (by simp) (by rw [hf]; simp; omega)
  rw [hf] at this
  exact this
theorem Sum3 (v1 v2 v3 : Value) (b1 b2 b3 : List Int) (w : World) (h1 : IsB w.heap.size w v1 b1) (h2 : IsB w.heap.size w v2 b2) (h3 : IsB w.heap.size w v3 b3) (B1 : Bytes b1) (B2 : Bytes b2) (B3 : Bytes b3)
    (hto : b1.length + b2.length + b3.length ≤ 562949953421300) :
    Calls Try.prog 17 #[.slice (some ⟨w.heap.size, 0, none⟩) 3 3] (w.alloc (.cells #[v1, v2, v3] 22)) fun e W' => e = .returned (.int .i64 (csum (b1 ++ b2 ++ b3))) ∧ Below w.heap.size w W' := by
  have hf : [b1, b2, b3].flatten = b1 ++ b2 ++ b3 := by simp
  have := SumN [v1, v2, v3] [b1, b2, b3] w rfl (fun j hj => by
    match j, hj with
    | 0, _ => exact h1
    | 1, _ => exact h2
    | 2, _ => exact h3) (by intro bs hb; simp at hb; rcases hb with rfl | rfl | rfl <;> assumption) (by simp) (by rw [hf]; simp; omega)
  rw [hf] at this
  exact this
theorem Sum4 (v1 v2 v3 v4 : Value) (b1 b2 b3 b4 : List Int) (w : World) (h1 : IsB w.heap.size w v1 b1) (h2 : IsB w.heap.size w v2 b2) (h3 : IsB w.heap.size w v3 b3) (h4 : IsB w.heap.size w v4 b4) (B1 : Bytes b1) (B2 : Bytes b2) (B3 : Bytes b3) (B4 : Bytes b4)
    (hto : b1.length + b2.length + b3.length + b4.length ≤ 562949953421300) :
    Calls Try.prog 17 #[.slice (some ⟨w.heap.size, 0, none⟩) 4 4] (w.alloc (.cells #[v1, v2, v3, v4] 22)) fun e W' => e = .returned (.int .i64 (csum (b1 ++ b2 ++ b3 ++ b4))) ∧ Below w.heap.size w W' := by
  have hf : [b1, b2, b3, b4].flatten = b1 ++ b2 ++ b3 ++ b4 := by simp
  have := SumN [v1, v2, v3, v4] [b1, b2, b3, b4] w rfl (fun j hj => by
    match j, hj with
    | 0, _ => exact h1
    | 1, _ => exact h2
    | 2, _ => exact h3
    | 3, _ => exact h4) (by intro bs hb; simp at hb; rcases hb with rfl | rfl | rfl | rfl <;> assumption) (by simp) (by rw [hf]; simp; omega)
  rw [hf] at this
  exact this

theorem put16_bytes (n : Int) : Bytes (put16 n) := by intro x hx; simp [put16] at hx; omega
theorem wsum_put16 (n : Int) (h0 : 0 ≤ n) (h1 : n ≤ 65535) : wsum (put16 n) = n := by
  simp only [put16, wsum_pair]; omega
theorem put16_len (n : Int) : (put16 n).length = 2 := rfl

/-- a text's sum and its checksum: a positive number of times 65535 -/
theorem whole_mod (a : List Int) (ha : Bytes a) : (wsum a + csum a) % 65535 = 0 ∧ 0 < wsum a + csum a := by
  have h0 := wsum_nonneg a ha
  have h1 := foldI_mod (wsum a)
  have h2 := foldI_bd (wsum a)
  have h3 : foldI (wsum a) ≤ wsum a := by unfold foldI; split <;> omega
  unfold csum
  omega
theorem fold_whole (s : Int) (h : s % 65535 = 0) (h0 : 0 < s) : foldI s = 65535 := by
  unfold foldI; rw [if_neg (by omega)]; omega

theorem wsum_set : ∀ (p : List Int) (k : Nat) (y : Int), k < p.length → wsum (p.set k y) = wsum p + (y - p[k]?.getD 0) * (if k % 2 = 0 then 256 else 1)
  | [], k, y, h => by simp at h
  | [a], k, y, h => by
    have : k = 0 := by simp at h; omega
    subst this
    simp [wsum_one]; omega
  | a :: b :: r, 0, y, _ => by simp [wsum_two]; omega
  | a :: b :: r, 1, y, _ => by simp [wsum_two]; omega
  | a :: b :: r, k + 2, y, h => by
    have := wsum_set r k y (by simp at h; omega)
    simp only [List.set_cons_succ, wsum_two, this, List.getElem?_cons_succ]
    have e : (k + 2) % 2 = k % 2 := by omega
    rw [e]
    omega

/-- a store into a block of the call's own -/
theorem own_store {w W : World} {B g n c : Nat} {L : List Int} (hb : Below w.heap.size w W) (hg : w.heap.size ≤ g) (G : Gro B W (.slice (some ⟨g, 0, none⟩) n c) L) (hn : n = L.length) (k : Nat) (v : Int) :
    ∃ W', W.setCell ⟨g, k, none⟩ (.int .u8 v) = W' ∧ Below w.heap.size w W' ∧ Gro B W' (.slice (some ⟨g, 0, none⟩) n c) (L.set k v) ∧ W'.heap.size = W.heap.size :=
  ⟨_, rfl, hb.setCell (p := ⟨g, k, none⟩) hg _, G.store hn k v, by simp⟩
/-- a cell of a block of the call's own -/
theorem own_cell {W : World} {B g n c : Nat} {L : List Int} (G : Gro B W (.slice (some ⟨g, 0, none⟩) n c) L) (k : Nat) (hk : k < L.length) : W.cell? ⟨g, k, none⟩ = some (.int .u8 (L[k]?.getD 0)) ∧ W.frozen? ⟨g, k, none⟩ = false := by
  obtain ⟨g', e, _, hc, hf⟩ := G.block (by omega)
  cases e
  exact ⟨hc k hk, hf k⟩

/-- a store elsewhere -/
theorem Gro.other {B : Nat} {W : World} {g n c : Nat} {bs : List Int} (h : Gro B W (.slice (some ⟨g, 0, none⟩) n c) bs) (h' k : Nat) (u : Value) (hne : g ≠ h') : Gro B (W.setCell ⟨h', k, none⟩ u) (.slice (some ⟨g, 0, none⟩) n c) bs := by
  obtain ⟨h1, h2 | ⟨g', cap, cur, e, hg, hh, r⟩⟩ := h
  · exact ⟨h1, .inl h2⟩
  · cases e
    exact ⟨h1, .inr ⟨g, c, cur, rfl, hg, by rw [Below.heap_setCell W ⟨h', k, none⟩ u g hne]; exact hh, r⟩⟩

end Go.Proofs.Ytneolboegjjfbaa
