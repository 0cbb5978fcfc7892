/-
  'append(x, y...)' on bytes, x the call's own or nil, as a run; what it leaves.
-/
import Derived.Test.YtneolboegjjfbaaAwake
import Derived.Laws.AppendOwnNone
namespace Go.Proofs.Ytneolboegjjfbaa
open Go.RowKit

/-- v is nil, or at the head of a block of the call's own, numbered from B on, whose first bytes are bs -/
def Gro (B : Nat) (W : World) (v : Value) (bs : List Int) : Prop := W.ownsRow B 5 1 v bs.length (bs.map (Value.int .u8))

theorem Gro.nil (B : Nat) (W : World) : Gro B W (.slice none 0 0) [] := World.ownsRow_nil _ _ _ _

theorem OwnB.gro {B : Nat} {W : World} {v : Value} {bs : List Int} (h : OwnB B W v bs) (hl : bs.length ≤ maxLen) : Gro B W v bs := by
  obtain ⟨g, rfl, hg, hh⟩ := h
  exact ⟨by simp, .inr ⟨g, bs.length, _, rfl, hg, hh, Nat.le_refl _, hl, by simp, List.take_of_length_le (by simp)⟩⟩

theorem Gro.isB {B : Nat} {W : World} {v : Value} {bs : List Int} (h : Gro B W v bs) : IsB W.heap.size W v bs := by
  obtain ⟨_, ⟨rfl, h0⟩ | ⟨g, cap, cur, rfl, hg, hh, hc, hm, hs, ht⟩⟩ := h
  · have : bs = [] := List.eq_nil_of_length_eq_zero h0
    subst this
    exact IsB.nil _ _
  · refine ⟨_, _, rfl, hc, (fun e => by cases e), fun _ => ⟨g, 0, rfl, (Array.getElem?_eq_some_iff.1 hh).1, fun j hj => ?_⟩⟩
    rw [Nat.zero_add, cell_of_row _ g j _ 5 (0, 0) hh]
    have h1 : (cur.toList.take (bs.length * 1))[j]? = cur[j]? := by
      rw [List.getElem?_take, if_pos (by omega)]; simp
    rw [← h1, ht]
    simp [hj]
theorem Gro.later {B : Nat} {A W : World} {v : Value} {bs : List Int} (h : Gro B A v bs) (hb : Below A.heap.size A W) : Gro B W v bs := by
  obtain ⟨h1, h2 | ⟨g, cap, cur, rfl, hg, hh, r⟩⟩ := h
  · exact ⟨h1, .inl h2⟩
  · exact ⟨h1, .inr ⟨g, cap, cur, rfl, hg, by rw [hb.block g (Array.getElem?_eq_some_iff.1 hh).1]; exact hh, r⟩⟩

theorem append_run {B : Nat} {W : World} {v tv : Value} {xs ys : List Int} (hx : Gro B W v xs) (hy : IsB W.heap.size W tv ys) (hB : B ≤ W.heap.size) (hl : xs.length + ys.length ≤ 140737488355328) :
    ∃ v' w', (Builtin.append_ #[22, 22] 22 #[v, tv]).run Try.prog W = .ok v' w' ∧ Gro B w' v' (xs ++ ys) ∧ Below B W w' := by
  obtain ⟨i0, hi, hz0, hz1, hz2⟩ := info_parts info_u8
  obtain ⟨a, cap, rfl, hlc, hn, hc⟩ := hy
  have hr : ∀ k, v.ownBlock = some k → B ≤ k := fun k hk => (hx.lt k hk).1
  cases a with
  | none =>
    have h0 := hn rfl
    subst h0
    have : ys = [] := List.eq_nil_of_length_eq_zero (by omega)
    subst this
    have hrun := run_append_owned_none (P := Try.prog) W B 22 22 5 i0 1 Try.underlying22 hi v xs.length _ hx
    exact ⟨v, W, hrun, by simpa using hx, Below.refl _ _⟩
  | some ad =>
    obtain ⟨v', w', hrun, ho, hg, _⟩ := run_append_own (P := Try.prog) W B 22 22 5 i0 (.int .u8 0) 1 1 Try.underlying22 hi hz0 hz1 hz2 rfl (by decide) v xs.length _ hx ad ys.length cap (ys.map (Value.int .u8)) (by simp)
      (fun j u hu => by
        have hj : j < ys.length := by have := (List.getElem?_eq_some_iff.1 hu).1; simpa using this
        obtain ⟨b, off, e, _, hcs⟩ := hc (by omega)
        cases e
        rw [Addr.add_lit, hcs j hj]
        simp only [List.getElem?_map, List.getElem?_eq_getElem hj, Option.map_some, Option.some.injEq] at hu
        simp [List.getElem?_eq_getElem hj, hu]) (ints_oneCell _ _) (by unfold maxLen; omega) (by omega) hB
    refine ⟨v', w', hrun, ?_, (Below.refl B W).grown hg hB hr⟩
    have e : (xs ++ ys).length = xs.length + ys.length := by simp
    unfold Gro
    rw [e, List.map_append]
    exact ho

theorem IsB.shape {n₀ : Nat} {W : World} {v : Value} {bs : List Int} (h : IsB n₀ W v bs) : ∃ a cap, v = .slice a bs.length cap ∧ bs.length ≤ cap := by
  obtain ⟨a, cap, e, hl, _⟩ := h
  exact ⟨a, cap, e, hl⟩

/-- where the bytes lie -/
theorem Gro.block {B : Nat} {W : World} {a : Option Addr} {n c : Nat} {bs : List Int} (h : Gro B W (.slice a n c) bs) (h0 : 0 < bs.length) :
    ∃ g, a = some ⟨g, 0, none⟩ ∧ B ≤ g ∧ (∀ j, j < bs.length → W.cell? ⟨g, j, none⟩ = some (.int .u8 (bs[j]?.getD 0))) ∧ ∀ j, W.frozen? ⟨g, j, none⟩ = false := by
  have h' := h
  obtain ⟨_, ⟨e, h1⟩ | ⟨g, cap, cur, e, hg, _⟩⟩ := h
  · omega
  · simp only [Value.slice.injEq] at e
    obtain ⟨rfl, rfl, rfl⟩ := e
    refine ⟨g, rfl, hg, fun j hj => ?_, fun j => World.ownsRow.frozenAt h' j⟩
    rw [World.ownsRow.cellAt h' j (by omega)]
    simp [hj]
/-- a store into one of them -/
theorem Gro.store {B : Nat} {W : World} {g n c : Nat} {bs : List Int} (h : Gro B W (.slice (some ⟨g, 0, none⟩) n c) bs) (hn : n = bs.length) (k : Nat) (x : Int) :
    Gro B (W.setCell ⟨g, k, none⟩ (.int .u8 x)) (.slice (some ⟨g, 0, none⟩) n c) (bs.set k x) := by
  subst hn
  have := (World.ownsRow.stored h k (.int .u8 x)).1
  unfold Gro
  rw [List.length_set, List.map_set]
  exact this

/-- the first bytes of a slice -/
theorem IsB.take {n₀ : Nat} {W : World} {a : Option Addr} {n c : Nat} {L : List Int} (h : IsB n₀ W (.slice a n c) L) (k : Nat) (hk : k ≤ L.length) : IsB n₀ W (.slice a k c) (L.take k) := by
  obtain ⟨a', c', e, hl, hn, hc⟩ := h
  simp only [Value.slice.injEq] at e
  obtain ⟨rfl, rfl, rfl⟩ := e
  have e : (L.take k).length = k := by simp; omega
  refine ⟨a, c, by rw [e], by omega, hn, fun h0 => ?_⟩
  obtain ⟨b, off, rfl, hb, hcs⟩ := hc (by omega)
  refine ⟨b, off, rfl, hb, fun j hj => ?_⟩
  rw [hcs j (by omega), List.getElem?_take, if_pos (by omega)]

/-- what lies behind the first k bytes of a slice -/
theorem IsB.drop {n₀ : Nat} {W : World} {a : Option Addr} {n c : Nat} {L : List Int} (h : IsB n₀ W (.slice a n c) L) (k : Nat) (hk : k ≤ L.length) :
    IsB n₀ W (.slice (if c = k then a else Option.map (fun x => x.add k) a) (n - k) (c - k)) (L.drop k) := by
  obtain ⟨a2, c', e, hl, hn, hc⟩ := h
  simp only [Value.slice.injEq] at e
  obtain ⟨rfl, rfl, rfl⟩ := e
  refine ⟨if c = k then a else Option.map (fun x => x.add k) a, c - k, by rw [List.length_drop], by rw [List.length_drop]; omega, fun e => ?_, fun h0 => ?_⟩
  · split at e
    · omega
    · have : a = none := by simpa using e
      have := hn this
      omega
  · simp only [List.length_drop] at h0
    obtain ⟨b, off, rfl, hb, hcs⟩ := hc (by omega)
    refine ⟨b, off + k, by rw [if_neg (by omega)]; simp [Addr.add_lit], hb, fun j hj => ?_⟩
    simp only [List.length_drop] at hj
    rw [Nat.add_assoc, hcs (k + j) (by omega), List.getElem?_drop]

/-- 'append' as a law for the walk -/
theorem wpList_grow {w : World} {ops : Array Oper} {rest : List Oper} {o : Oper} {a : Act} {Q : Exit → Act → World → Prop} (hg : o.guard = none) (s x : Operand)
    (hop : o.op = Op.call { callee := Callee.builtin Builtin.append, args := #[s, x], argTypes := #[22, 22] }) (hty : o.type = 22)
    (B : Nat) (v tv : Value) (xs ys : List Int) (hs : a.eval s = v) (hx : a.eval x = tv) (gx : Gro B w v xs) (iy : IsB w.heap.size w tv ys) (hB : B ≤ w.heap.size) (hl : xs.length + ys.length ≤ 140737488355328) (L : List Int) (hL : xs ++ ys = L)
    (hK : ∀ (a' : Option Addr) (cap' : Nat) (w' : World), L.length ≤ cap' → Gro B w' (.slice a' L.length cap') L → Below B w w' → wpList Try.prog ops Q rest (a.put o.dst (.slice a' L.length cap')) w') :
    wpList Try.prog ops Q (o :: rest) a w := by
  subst hL
  refine wpList_plain hg fun K hK' => ?_
  obtain ⟨v', w', hrun, g', b'⟩ := append_run gx iy hB hl
  obtain ⟨a', cap', rfl, hle⟩ := g'.isB.shape
  unfold Oper.wp
  simp only [execOp, hop, hty]
  simp [resolve, invoke, builtin, hs, hx, hrun, Result.andThen, -List.length_append]
  exact hK' _ _ (hK a' cap' w' hle g' b')

end Go.Proofs.Ytneolboegjjfbaa
