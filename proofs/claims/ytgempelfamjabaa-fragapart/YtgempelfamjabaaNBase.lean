
/-
  Memory: which blocks have turned ('But'), a slice of bytes that avoids some blocks ('IsF').
-/
import Derived.Test.YtgempelfamjabaaRows
import Derived.WalkKit
import Derived.WalkSpells
import Derived.WalkLawsBesides
import Derived.Deep.QuietTactic
import Derived.BigQuiet
import Derived.Laws.AppendOwnNone
import Derived.Deep.DeepCutAuto
import Derived.Deep.RegionHeld
namespace Go.Proofs.Ytgempelfamjabaa
open Go.RowKit

theorem hide {p : Prop} (h : p) : Hid p := h
theorem unhide {p : Prop} (h : Hid p) : p := h
theorem ret_int {k : IntKind} {a b : Int} (h : a = b) : Ending.returned (.int k a) = .returned (.int k b) := by rw [h]
theorem val_int {k : IntKind} {a b : Int} (h : a = b) : Value.int k a = Value.int k b := by rw [h]

/-- of the blocks that were there those of K alone may have turned -/
structure But (K : Nat → Prop) (w w' : World) : Prop where
  os : w'.os = w.os
  tape : w'.tape = w.tape
  output : w'.output = w.output
  size : w.heap.size ≤ w'.heap.size
  block : ∀ k, k < w.heap.size → ¬ K k → w'.heap[k]? = w.heap[k]?

theorem But.refl (K : Nat → Prop) (w : World) : But K w w := ⟨rfl, rfl, rfl, Nat.le_refl _, fun _ _ _ => rfl⟩
theorem But.trans {K : Nat → Prop} {a b c : World} (h : But K a b) (k : But K b c) : But K a c :=
  ⟨k.os.trans h.os, k.tape.trans h.tape, k.output.trans h.output, Nat.le_trans h.size k.size, fun i hi hk => (k.block i (Nat.lt_of_lt_of_le hi h.size) hk).trans (h.block i hi hk)⟩
theorem But.mono {K K' : Nat → Prop} {a b : World} (h : But K a b) (hk : ∀ g, K g → K' g) : But K' a b :=
  ⟨h.os, h.tape, h.output, h.size, fun i hi hn => h.block i hi (fun e => hn (hk i e))⟩
theorem But.trans' {K K' : Nat → Prop} {a b c : World} (h : But K a b) (k : But K' b c) (hk : ∀ g, g < a.heap.size → K' g → K g) : But K a c :=
  ⟨k.os.trans h.os, k.tape.trans h.tape, k.output.trans h.output, Nat.le_trans h.size k.size, fun i hi hn => (k.block i (Nat.lt_of_lt_of_le hi h.size) (fun e => hn (hk i hi e))).trans (h.block i hi hn)⟩
theorem But.of_below {K : Nat → Prop} {a b : World} (h : Below a.heap.size a b) : But K a b := ⟨h.os, h.tape, h.output, h.size, fun i hi _ => h.block i hi⟩
theorem But.below {K : Nat → Prop} {a b : World} (h : But K a b) {n : Nat} (hn : n ≤ a.heap.size) (hk : ∀ g, g < n → ¬ K g) : Below n a b :=
  ⟨h.os, h.tape, h.output, h.size, fun i hi => h.block i (by omega) (hk i hi)⟩
theorem But.setCell {K : Nat → Prop} {a w : World} (h : But K a w) {p : Addr} (hp : a.heap.size ≤ p.block ∨ K p.block) (u : Value) : But K a (w.setCell p u) :=
  ⟨h.os, h.tape, h.output, by simpa [World.setCell] using h.size, fun i hi hn => (Below.heap_setCell _ _ _ _ (by rintro rfl; rcases hp with h | h; omega; exact hn h)).trans (h.block i hi hn)⟩
theorem But.drew {K : Nat → Prop} {a w : World} (h : But K a w) : But K a w.drew := ⟨h.os, h.tape, h.output, h.size, h.block⟩
theorem But.alloc {K : Nat → Prop} {a w : World} (h : But K a w) (o : Obj) : But K a (w.alloc o) :=
  ⟨h.os, h.tape, h.output, Nat.le_trans h.size (by simp), fun i hi hn => (Below.heap_alloc _ _ _ (Nat.lt_of_lt_of_le hi h.size)).trans (h.block i hi hn)⟩
theorem But.cell {K : Nat → Prop} {a b : World} (h : But K a b) {p : Addr} (hp : p.block < a.heap.size) (hk : ¬ K p.block) : b.cell? p = a.cell? p := World.cell?_of_block (w := a) (h.block p.block hp hk)
theorem But.frozen {K : Nat → Prop} {a b : World} (h : But K a b) {p : Addr} (hp : p.block < a.heap.size) (hk : ¬ K p.block) : b.frozen? p = a.frozen? p := World.frozen?_of_block (w := a) (h.block p.block hp hk)

/-- THE SLICE VALUE v HOLDS THE BYTES bs, in a block that is none of A -/
def IsF (A : Nat → Prop) (W : World) (v : Value) (bs : List Int) : Prop :=
  ∃ a cap, v = .slice a bs.length cap ∧ bs.length ≤ cap ∧ (a = none → cap = 0) ∧
    (0 < bs.length → ∃ b off, a = some ⟨b, off, none⟩ ∧ b < W.heap.size ∧ ¬ A b ∧ ∀ j, j < bs.length → W.cell? ⟨b, off + j, none⟩ = some (.int .u8 (bs[j]?.getD 0)))

theorem IsF.nil (A : Nat → Prop) (W : World) : IsF A W (.slice none 0 0) [] := ⟨none, 0, rfl, by simp, fun _ => rfl, fun h => by simp at h⟩
theorem IsF.but {A K : Nat → Prop} {W W' : World} {v : Value} {bs : List Int} (h : IsF A W v bs) (hb : But K W W') (hk : ∀ g, K g → A g) : IsF A W' v bs := by
  obtain ⟨a, cap, e, hl, hn, hc⟩ := h
  refine ⟨a, cap, e, hl, hn, fun h0 => ?_⟩
  obtain ⟨b, off, e1, hb1, ha, hcs⟩ := hc h0
  exact ⟨b, off, e1, Nat.lt_of_lt_of_le hb1 hb.size, ha, fun j hj => (hb.cell (p := ⟨b, off + j, none⟩) hb1 (fun e => ha (hk _ e))).trans (hcs j hj)⟩
theorem IsF.avoid {A A' : Nat → Prop} {W : World} {v : Value} {bs : List Int} (h : IsF A W v bs) (hk : ∀ g, g < W.heap.size → A' g → A g) : IsF A' W v bs := by
  obtain ⟨a, cap, e, hl, hn, hc⟩ := h
  refine ⟨a, cap, e, hl, hn, fun h0 => ?_⟩
  obtain ⟨b, off, e1, hb1, ha, hcs⟩ := hc h0
  exact ⟨b, off, e1, hb1, fun e => ha (hk _ hb1 e), hcs⟩
theorem IsF.shape {A : Nat → Prop} {W : World} {v : Value} {bs : List Int} (h : IsF A W v bs) : ∃ a cap, v = .slice a bs.length cap ∧ bs.length ≤ cap ∧ (a = none → cap = 0) := by
  obtain ⟨a, cap, e, hl, hn, _⟩ := h
  exact ⟨a, cap, e, hl, hn⟩
theorem IsF.one {A : Nat → Prop} {W : World} {v : Value} {bs : List Int} (h : IsF A W v bs) : v.oneCell' = true := by
  obtain ⟨a, cap, e, _⟩ := h
  rw [e]; rfl

theorem info_u8 : (Try.prog.info? 5).map (fun i => (i.zero, i.size, i.bytes)) = some (some (.int .u8 0), 1, 1) := by kernel_rfl
theorem size_u8 : (Try.prog.info? 5).map (·.size) = some 1 := by kernel_rfl

/-- v is nil, or at the head of a block of the call's own, numbered from B on, whose first bytes are bs -/
def Gro (B : Nat) (W : World) (v : Value) (bs : List Int) : Prop := W.ownsRow B 5 1 v bs.length (bs.map (Value.int .u8))

theorem Gro.nil (B : Nat) (W : World) : Gro B W (.slice none 0 0) [] := World.ownsRow_nil _ _ _ _
theorem Gro.isF {B : Nat} {W : World} {v : Value} {bs : List Int} (h : Gro B W v bs) {A : Nat → Prop} (hA : ∀ g, B ≤ g → ¬ A g) : IsF A W v bs := by
  obtain ⟨_, ⟨rfl, h0⟩ | ⟨g, cap, cur, rfl, hg, hh, hc, hm, hs, ht⟩⟩ := h
  · have : bs = [] := List.eq_nil_of_length_eq_zero h0
    subst this
    exact IsF.nil _ _
  · refine ⟨_, _, rfl, hc, (fun e => by cases e), fun _ => ⟨g, 0, rfl, (Array.getElem?_eq_some_iff.1 hh).1, hA g hg, fun j hj => ?_⟩⟩
    rw [Nat.zero_add, cell_of_row _ g j _ 5 (0, 0) hh]
    have h1 : (cur.toList.take (bs.length * 1))[j]? = cur[j]? := by
      rw [List.getElem?_take, if_pos (by omega)]; simp
    rw [← h1, ht]
    simp [hj]
theorem Gro.but {B : Nat} {K : Nat → Prop} {A W : World} {v : Value} {bs : List Int} (h : Gro B A v bs) (hb : But K A W) (hk : ∀ g, K g → g < B) : Gro B W v bs := by
  obtain ⟨h1, h2 | ⟨g, cap, cur, rfl, hg, hh, r⟩⟩ := h
  · exact ⟨h1, .inl h2⟩
  · exact ⟨h1, .inr ⟨g, cap, cur, rfl, hg, by rw [hb.block g (Array.getElem?_eq_some_iff.1 hh).1 (fun e => by have := hk g e; omega)]; exact hh, r⟩⟩

theorem ints_one (bs : List Int) : ∀ v ∈ bs.map (Value.int .u8), v.oneCell' = true := by
  intro v hv; obtain ⟨x, _, rfl⟩ := List.mem_map.1 hv; rfl

theorem append_run {B : Nat} {A : Nat → Prop} {W : World} {v tv : Value} {xs ys : List Int} (hx : Gro B W v xs) (hy : IsF A W tv ys) (hB : B ≤ W.heap.size) (hl : xs.length + ys.length ≤ 140737488355328) :
    ∃ v' w', (Builtin.append_ #[24, 24] 24 #[v, tv]).run Try.prog W = .ok v' w' ∧ Gro B w' v' (xs ++ ys) ∧ Below B W w' ∧ (v' = .slice none 0 0 → v = .slice none 0 0) := by
  obtain ⟨i0, hi, hz0, hz1, hz2⟩ := info_parts info_u8
  obtain ⟨a, cap, rfl, hlc, hn, hc⟩ := hy
  have hr : ∀ k, v.ownBlock = some k → B ≤ k := fun k hk => (hx.lt k hk).1
  cases a with
  | none =>
    have h0 := hn rfl
    subst h0
    have : ys = [] := List.eq_nil_of_length_eq_zero (by omega)
    subst this
    have hrun := run_append_owned_none (P := Try.prog) W B 24 24 5 i0 1 Try.underlying24 hi v xs.length _ hx
    exact ⟨v, W, hrun, by simpa using hx, Below.refl _ _, fun e => e⟩
  | some ad =>
    obtain ⟨v', w', hrun, ho, hg, hnil⟩ := run_append_own (P := Try.prog) W B 24 24 5 i0 (.int .u8 0) 1 1 Try.underlying24 hi hz0 hz1 hz2 rfl (by decide) v xs.length _ hx ad ys.length cap (ys.map (Value.int .u8)) (by simp)
      (fun j u hu => by
        have hj : j < ys.length := by have := (List.getElem?_eq_some_iff.1 hu).1; simpa using this
        obtain ⟨b, off, e, _, _, hcs⟩ := hc (by omega)
        cases e
        rw [Addr.add_lit, hcs j hj]
        simp only [List.getElem?_map, List.getElem?_eq_getElem hj, Option.map_some, Option.some.injEq] at hu
        simp [List.getElem?_eq_getElem hj, hu]) (ints_one _) (by unfold maxLen; omega) (by omega) hB
    refine ⟨v', w', hrun, ?_, (Below.refl B W).grown hg hB hr, fun e => (hnil.1 e).1⟩
    have e : (xs ++ ys).length = xs.length + ys.length := by simp
    unfold Gro
    rw [e, List.map_append]
    exact ho

/-- 'append' as a law for the walk -/
theorem wpList_grow {w : World} {ops : Array Oper} {rest : List Oper} {o : Oper} {a : Act} {Q : Exit → Act → World → Prop} (hg : o.guard = none) (s x : Operand)
    (hop : o.op = Op.call { callee := Callee.builtin Builtin.append, args := #[s, x], argTypes := #[24, 24] }) (hty : o.type = 24)
    (B : Nat) (A : Nat → Prop) (v tv : Value) (xs ys : List Int) (hs : a.eval s = v) (hx : a.eval x = tv) (gx : Gro B w v xs) (iy : IsF A w tv ys) (hB : B ≤ w.heap.size) (hl : xs.length + ys.length ≤ 140737488355328) (L : List Int) (hL : xs ++ ys = L)
    (hK : ∀ (a' : Option Addr) (cap' : Nat) (w' : World), L.length ≤ cap' → Gro B w' (.slice a' L.length cap') L → Below B w w' → wpList Try.prog ops Q rest (a.put o.dst (.slice a' L.length cap')) w') :
    wpList Try.prog ops Q (o :: rest) a w := by
  subst hL
  refine wpList_plain hg fun K hK' => ?_
  obtain ⟨v', w', hrun, g', b', _⟩ := append_run gx iy hB hl
  obtain ⟨a', cap', rfl, hle, _⟩ := (g'.isF (A := fun _ => False) (fun _ _ => id)).shape
  unfold Oper.wp
  simp only [execOp, hop, hty]
  simp [resolve, invoke, builtin, hs, hx, hrun, Result.andThen, -List.length_append]
  exact hK' _ _ (hK a' cap' w' hle g' b')

end Go.Proofs.Ytgempelfamjabaa
