
/-
  Joined out of Calc Iter Sum Awake SumN.
-/
import Derived.Test.YtgempelfamjabaaAMem
import Derived.Test.YtgempelfamjabaaA2
import Derived.Test.YtgempelfamjabaaI1
import Derived.WalkKit
import Derived.WalkSpells
import Derived.WalkLawsBesides
import Derived.RangeFuncNested
import Derived.RangeFuncBound
import Derived.RangeFuncCalls
import Derived.RangeFuncLeaves
import Derived.Shelf.Abstract
import Derived.Shelf.RegionOpen
import Derived.OwnWalkIn
import Derived.TacticsInMore
import Derived.LoopNIn
import Derived.LoopIn
namespace Go.Proofs.Ytgempelfamjabaa
open Go.RowKit Go.Shelf
attribute [local go_sem] Oper.semAt_some

attribute [local go_sem] Oper.semAt_some
/-- THE SLICE VALUE pv HOLDS THE SLICES vs, in a block below n₀, and each of them the bytes of its part. -/
def IsP (n₀ : Nat) (W : World) (pv : Value) (ps : List (List Int)) : Prop :=
  ∃ (a : Option Addr) (cap : Nat) (vs : List Value), pv = .slice a vs.length cap ∧ vs.length = ps.length ∧
    (0 < vs.length → ∃ b off, a = some ⟨b, off, none⟩ ∧ b < n₀ ∧ ∀ j, j < vs.length → W.cell? ⟨b, off + j, none⟩ = some (vs[j]?.getD undef)) ∧
    ∀ j, j < vs.length → IsB n₀ W (vs[j]?.getD undef) (ps[j]?.getD [])
theorem IsP.below {n₀ : Nat} {A B : World} (h : Below n₀ A B) {v : Value} {ps : List (List Int)} (hp : IsP n₀ A v ps) : IsP n₀ B v ps := by
  obtain ⟨a, cap, vs, e, hl, hc, hb⟩ := hp
  refine ⟨a, cap, vs, e, hl, fun h0 => ?_, fun j hj => (hb j hj).below h⟩
  obtain ⟨b, off, e1, hb, hcs⟩ := hc h0
  exact ⟨b, off, e1, hb, fun j hj => (h.cell (p := ⟨b, off + j, none⟩) hb).trans (hcs j hj)⟩
theorem IsP.mono {n₀ n₁ : Nat} (h : n₀ ≤ n₁) {W : World} {v : Value} {ps : List (List Int)} (hp : IsP n₀ W v ps) : IsP n₁ W v ps := by
  obtain ⟨a, cap, vs, e, hl, hc, hb⟩ := hp
  refine ⟨a, cap, vs, e, hl, fun h0 => ?_, fun j hj => (hb j hj).mono h⟩
  obtain ⟨b, off, e1, hb, hcs⟩ := hc h0
  exact ⟨b, off, e1, by omega, hcs⟩
/-- what the iterator's two variables hold when the bytes p have come -/
def Hi (p : List Int) (h : Int) (o : Bool) : Prop := (o = true ↔ p.length % 2 = 1) ∧ (o = true → h = 256 * p.getLastD 0 ∧ 0 ≤ p.getLastD 0 ∧ p.getLastD 0 ≤ 255)
theorem flat_succ (ps : List (List Int)) (i : Nat) (h : i < ps.length) : (ps.take (i + 1)).flatten = (ps.take i).flatten ++ ps[i]?.getD [] := by
  rw [List.take_add_one, List.flatten_append]; simp [h]
theorem flat_split (ps : List (List Int)) (i : Nat) : ps.flatten = (ps.take i).flatten ++ (ps.drop i).flatten := by rw [← List.flatten_append, List.take_append_drop]
theorem take_snoc (bs : List Int) (j : Nat) (h : j < bs.length) : bs.take (j + 1) = bs.take j ++ [bs[j]?.getD 0] := by
  rw [List.take_add_one]; simp [h]
/-- the parts are bytes, and not too many -/
def Small (ps : List (List Int)) : Prop := (ps.length : Int) ≤ 4611686018427387904 ∧ ∀ bs ∈ ps, Bytes bs ∧ (bs.length : Int) ≤ 4611686018427387904
attribute [local go_sem] Oper.semAt_some
/-- what the sum's variable holds when these words have come -/
def sumW (xs : List Int) : Int := xs.foldl (fun s v => IntKind.u64.wrap (s + IntKind.u64.wrap v)) 0
theorem sumW_snoc (pre : List Int) (x : Int) : sumW (pre ++ [x]) = IntKind.u64.wrap (sumW pre + IntKind.u64.wrap x) := by simp [sumW]
theorem sumW_eq : ∀ (pre : List Int), (∀ x ∈ pre, 0 ≤ x) → pre.sum < 2 ^ 64 → sumW pre = pre.sum := by
  intro pre
  have key : ∀ (l : List Int) (s : Int), 0 ≤ s → (∀ x ∈ l, 0 ≤ x) → s + l.sum < 2 ^ 64 → l.foldl (fun s v => IntKind.u64.wrap (s + IntKind.u64.wrap v)) s = s + l.sum := by
    intro l
    induction l with
    | nil => intro s _ _ _; simp
    | cons x l ih =>
      intro s h0 hx hs
      have hx0 := hx x (by simp)
      have hl0 : 0 ≤ l.sum := by
        have : ∀ (m : List Int), (∀ y ∈ m, 0 ≤ y) → 0 ≤ m.sum := by
          intro m; induction m with
          | nil => simp
          | cons y m ih => intro h; have := h y (by simp); have := ih (fun z hz => h z (by simp [hz])); simp; omega
        exact this l (fun y hy => hx y (by simp [hy]))
      simp only [List.sum_cons] at hs ⊢
      rw [List.foldl_cons, u64_wrap x hx0 (by omega), u64_wrap (s + x) (by omega) (by omega), ih (s + x) (by omega) (fun y hy => hx y (by simp [hy])) (by omega)]
      omega
  intro h1 h2
  have := key pre 0 (by omega) h1 (by omega)
  simpa [sumW] using this
theorem wl_nonneg : ∀ (p : List Int), Bytes p → ∀ x ∈ wl p, 0 ≤ x
  | [], _ => by simp [wl]
  | [a], h => by have := h a (by simp); simp [wl]; omega
  | a :: b :: r, h => by
    have h1 := h a (by simp)
    have h2 := h b (by simp)
    have h3 := wl_nonneg r (fun x hx => h x (by simp [hx]))
    intro x hx
    simp only [wl, List.mem_cons] at hx
    rcases hx with rfl | hx
    · omega
    · exact h3 x hx
theorem flat_bytes {ps : List (List Int)} (h : ∀ bs ∈ ps, Bytes bs) : Bytes ps.flatten := fun x hx => by
  obtain ⟨l, hl, hxl⟩ := List.mem_flatten.1 hx
  exact h l hl x hxl
/-- the parts of a variadic call lie in a new block -/
theorem IsP_new {W : World} (vs : List Value) (ps : List (List Int)) (hl : vs.length = ps.length) (h : ∀ j, j < vs.length → IsB W.heap.size W (vs[j]?.getD undef) (ps[j]?.getD [])) :
    IsP (W.heap.size + 1) (W.alloc (.cells vs.toArray 24)) (.slice (some ⟨W.heap.size, 0, none⟩) vs.length vs.length) ps := by
  refine ⟨_, _, vs, rfl, hl, fun _ => ⟨W.heap.size, 0, rfl, by omega, fun j hj => ?_⟩, fun j hj => ?_⟩
  · rw [Nat.zero_add, cell_of_row _ W.heap.size j vs.toArray 24 (0, 0) (heap_alloc_new W _)]
    simp [hj]
  · exact ((h j hj).below ((Below.refl _ W).alloc (Nat.le_refl _) _)).mono (by omega)
theorem Small_of {ps : List (List Int)} (hl : (ps.length : Int) ≤ 4611686018427387904) (h : ∀ bs ∈ ps, Bytes bs) (hto : (ps.flatten.length : Int) ≤ 562949953421300) : Small ps := by
  refine ⟨hl, fun bs hb => ⟨h bs hb, ?_⟩⟩
  have : bs.length ≤ ps.flatten.length := (List.sublist_flatten_of_mem hb).length_le
  omega
theorem put16_bytes (n : Int) : Bytes (put16 n) := by intro x hx; simp [put16] at hx; omega
theorem wsum_put16 (n : Int) (h0 : 0 ≤ n) (h1 : n ≤ 65535) : wsum (put16 n) = n := by
  simp only [put16, wsum_pair]; omega
theorem put16_len (n : Int) : (put16 n).length = 2 := rfl
/-- a text's sum and its checksum: a positive number of times 65535 -/
theorem whole_mod (a : List Int) (ha : Bytes a) : (wsum a + csum a) % 65535 = 0 ∧ 0 < wsum a + csum a := by
  have h0 := wsum_nonneg a ha
  have h1 := foldI_mod (wsum a)
  have h2 := foldI_bd (wsum a)
  have h3 : foldI (wsum a) ≤ wsum a := by unfold foldI; split <;> omega
  unfold csum
  omega
theorem fold_whole (s : Int) (h : s % 65535 = 0) (h0 : 0 < s) : foldI s = 65535 := by
  unfold foldI; rw [if_neg (by omega)]; omega
theorem wsum_set : ∀ (p : List Int) (k : Nat) (y : Int), k < p.length → wsum (p.set k y) = wsum p + (y - p[k]?.getD 0) * (if k % 2 = 0 then 256 else 1)
  | [], k, y, h => by simp at h
  | [a], k, y, h => by
    have : k = 0 := by simp at h; omega
    subst this
    simp [wsum_one]; omega
  | a :: b :: r, 0, y, _ => by simp [wsum_two]; omega
  | a :: b :: r, 1, y, _ => by simp [wsum_two]; omega
  | a :: b :: r, k + 2, y, h => by
    have := wsum_set r k y (by simp at h; omega)
    simp only [List.set_cons_succ, wsum_two, this, List.getElem?_cons_succ]
    have e : (k + 2) % 2 = k % 2 := by omega
    rw [e]
    omega
/-- a store into a block of the call's own -/
theorem own_store {w W : World} {B g n c : Nat} {L : List Int} (hb : Below w.heap.size w W) (hg : w.heap.size ≤ g) (G : Gro B W (.slice (some ⟨g, 0, none⟩) n c) L) (hn : n = L.length) (k : Nat) (v : Int) :
    ∃ W', W.setCell ⟨g, k, none⟩ (.int .u8 v) = W' ∧ Below w.heap.size w W' ∧ Gro B W' (.slice (some ⟨g, 0, none⟩) n c) (L.set k v) ∧ W'.heap.size = W.heap.size :=
  ⟨_, rfl, hb.setCell (p := ⟨g, k, none⟩) hg _, G.store hn k v, by simp⟩
/-- a cell of a block of the call's own -/
theorem own_cell {W : World} {B g n c : Nat} {L : List Int} (G : Gro B W (.slice (some ⟨g, 0, none⟩) n c) L) (k : Nat) (hk : k < L.length) : W.cell? ⟨g, k, none⟩ = some (.int .u8 (L[k]?.getD 0)) ∧ W.frozen? ⟨g, k, none⟩ = false := by
  obtain ⟨g', e, _, hc, hf⟩ := G.block (by omega)
  cases e
  exact ⟨hc k hk, hf k⟩
/-- a store elsewhere -/
theorem Gro.other {B : Nat} {W : World} {g n c : Nat} {bs : List Int} (h : Gro B W (.slice (some ⟨g, 0, none⟩) n c) bs) (h' k : Nat) (u : Value) (hne : g ≠ h') : Gro B (W.setCell ⟨h', k, none⟩ u) (.slice (some ⟨g, 0, none⟩) n c) bs := by
  obtain ⟨h1, h2 | ⟨g', cap, cur, e, hg, hh, r⟩⟩ := h
  · exact ⟨h1, .inl h2⟩
  · cases e
    exact ⟨h1, .inr ⟨g, c, cur, rfl, hg, by rw [Below.heap_setCell W ⟨h', k, none⟩ u g hne]; exact hh, r⟩⟩

theorem append_runB {B : Nat} {W : World} {v tv : Value} {xs ys : List Int} (hx : Gro B W v xs) (hy : IsB W.heap.size W tv ys) (hB : B ≤ W.heap.size) (hl : xs.length + ys.length ≤ 140737488355328) :
    ∃ v' w', (Builtin.append_ #[24, 24] 24 #[v, tv]).run Try.prog W = .ok v' w' ∧ Gro B w' v' (xs ++ ys) ∧ Below B W w' := by
  obtain ⟨i0, hi, hz0, hz1, hz2⟩ := info_parts info_u8
  obtain ⟨a, cap, rfl, hlc, hn, hc⟩ := hy
  have hr : ∀ k, v.ownBlock = some k → B ≤ k := fun k hk => (hx.lt k hk).1
  cases a with
  | none =>
    have h0 := hn rfl
    subst h0
    have : ys = [] := List.eq_nil_of_length_eq_zero (by omega)
    subst this
    have hrun := run_append_owned_none (P := Try.prog) W B 24 24 5 i0 1 Try.underlying24 hi v xs.length _ hx
    exact ⟨v, W, hrun, by simpa using hx, Below.refl _ _⟩
  | some ad =>
    obtain ⟨v', w', hrun, ho, hg, _⟩ := run_append_own (P := Try.prog) W B 24 24 5 i0 (.int .u8 0) 1 1 Try.underlying24 hi hz0 hz1 hz2 rfl (by decide) v xs.length _ hx ad ys.length cap (ys.map (Value.int .u8)) (by simp)
      (fun j u hu => by
        have hj : j < ys.length := by have := (List.getElem?_eq_some_iff.1 hu).1; simpa using this
        obtain ⟨b, off, e, _, hcs⟩ := hc (by omega)
        cases e
        rw [Addr.add_lit, hcs j hj]
        simp only [List.getElem?_map, List.getElem?_eq_getElem hj, Option.map_some, Option.some.injEq] at hu
        simp [List.getElem?_eq_getElem hj, hu]) (ints_oneCell _ _) (by unfold maxLen; omega) (by omega) hB
    refine ⟨v', w', hrun, ?_, (Below.refl B W).grown hg hB hr⟩
    have e : (xs ++ ys).length = xs.length + ys.length := by simp
    unfold Gro
    rw [e, List.map_append]
    exact ho

/-- 'append' as a law for the walk -/
theorem wpList_growB {w : World} {ops : Array Oper} {rest : List Oper} {o : Oper} {a : Act} {Q : Exit → Act → World → Prop} (hg : o.guard = none) (s x : Operand)
    (hop : o.op = Op.call { callee := Callee.builtin Builtin.append, args := #[s, x], argTypes := #[24, 24] }) (hty : o.type = 24)
    (B : Nat) (v tv : Value) (xs ys : List Int) (hs : a.eval s = v) (hx : a.eval x = tv) (gx : Gro B w v xs) (iy : IsB w.heap.size w tv ys) (hB : B ≤ w.heap.size) (hl : xs.length + ys.length ≤ 140737488355328) (L : List Int) (hL : xs ++ ys = L)
    (hK : ∀ (a' : Option Addr) (cap' : Nat) (w' : World), L.length ≤ cap' → Gro B w' (.slice a' L.length cap') L → Below B w w' → wpList Try.prog ops Q rest (a.put o.dst (.slice a' L.length cap')) w') :
    wpList Try.prog ops Q (o :: rest) a w := by
  subst hL
  refine wpList_plain hg fun K hK' => ?_
  obtain ⟨v', w', hrun, g', b'⟩ := append_runB gx iy hB hl
  obtain ⟨a', cap', rfl, hle⟩ := g'.isB.shape
  unfold Oper.wp
  simp only [execOp, hop, hty]
  simp [resolve, invoke, builtin, hs, hx, hrun, Result.andThen, -List.length_append]
  exact hK' _ _ (hK a' cap' w' hle g' b')


end Go.Proofs.Ytgempelfamjabaa
