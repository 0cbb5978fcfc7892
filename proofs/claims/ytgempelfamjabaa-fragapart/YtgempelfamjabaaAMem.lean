
/-
  Joined out of Calc Mem Put Awake Grow.
-/
import Derived.Test.YtgempelfamjabaaNBase
import Derived.Test.YtgempelfamjabaaMath
import Derived.WalkKit
import Derived.WalkSpells
import Derived.WalkLawsBesides
import Derived.Deep.QuietTactic
import Derived.BigQuiet
import Derived.Laws.CopyOwn
import Derived.Laws.AppendOwnNone
namespace Go.Proofs.Ytgempelfamjabaa
open Go.RowKit

/-- THE SLICE VALUE v HOLDS THE BYTES bs, in a block below n₀ (where there is a byte at all). -/
def IsB (n₀ : Nat) (W : World) (v : Value) (bs : List Int) : Prop :=
  ∃ a cap, v = .slice a bs.length cap ∧ bs.length ≤ cap ∧ (a = none → cap = 0) ∧
    (0 < bs.length → ∃ b off, a = some ⟨b, off, none⟩ ∧ b < n₀ ∧ ∀ j, j < bs.length → W.cell? ⟨b, off + j, none⟩ = some (.int .u8 (bs[j]?.getD 0)))
theorem IsB.below {n₀ : Nat} {A B : World} (h : Below n₀ A B) {v : Value} {bs : List Int} (hb : IsB n₀ A v bs) : IsB n₀ B v bs := by
  obtain ⟨a, cap, e, hl, hn, hc⟩ := hb
  refine ⟨a, cap, e, hl, hn, fun h0 => ?_⟩
  obtain ⟨b, off, e1, hb, hcs⟩ := hc h0
  exact ⟨b, off, e1, hb, fun j hj => (h.cell (p := ⟨b, off + j, none⟩) hb).trans (hcs j hj)⟩
theorem IsB.mono {n₀ n₁ : Nat} (h : n₀ ≤ n₁) {W : World} {v : Value} {bs : List Int} (hb : IsB n₀ W v bs) : IsB n₁ W v bs := by
  obtain ⟨a, cap, e, hl, hn, hc⟩ := hb
  refine ⟨a, cap, e, hl, hn, fun h0 => ?_⟩
  obtain ⟨b, off, e1, hb, hcs⟩ := hc h0
  exact ⟨b, off, e1, by omega, hcs⟩
theorem IsB.nil (n₀ : Nat) (W : World) : IsB n₀ W (.slice none 0 0) [] := ⟨none, 0, rfl, by simp, fun _ => rfl, fun h => by simp at h⟩
theorem ret_two {k q : IntKind} {a b c : Int} (h : a = b) : Ending.returned (.tuple #[.int k a, .int q c]) = .returned (.tuple #[.int k b, .int q c]) := by rw [h]
theorem wrap64_fit (x : Int) (h0 : -4611686018427387904 ≤ x) (h1 : x ≤ 4611686018427387904) : wrap64 x = x := by unfold wrap64; omega
theorem wrap64_diff (len at_ : Int) (h0 : 0 ≤ len) (hl : len ≤ 4611686018427387904) (h1 : 0 ≤ at_) (h2 : at_ ≤ 9223372036854775807) : wrap64 (len - at_) = len - at_ := by unfold wrap64; omega
/-- 'at' is a place from which on so many bytes stand -/
def stB (len : Nat) (at_ size : Int) : Bool := decide (0 ≤ at_ ∧ size ≤ len - at_)
/-- the number in two, four bytes from a place on; 0 where they do not stand there -/
def rd16 (bs : List Int) (at_ : Int) : Int := if stB bs.length at_ 2 = true then 256 * bs[at_.toNat]?.getD 0 + bs[at_.toNat + 1]?.getD 0 else 0
def rd32 (bs : List Int) (at_ : Int) : Int := if stB bs.length at_ 4 = true then 16777216 * bs[at_.toNat]?.getD 0 + 65536 * bs[at_.toNat + 1]?.getD 0 + 256 * bs[at_.toNat + 2]?.getD 0 + bs[at_.toNat + 3]?.getD 0 else 0
/-- OK, or ErrShort -/
def errOf (bs : List Int) (at_ size : Int) : Int := if stB bs.length at_ size = true then 0 else 3
/-- THE SLICE VALUE v OWNS THE BYTES bs: they fill a block of the call's own, not frozen, numbered from B on. -/
def OwnB (B : Nat) (W : World) (v : Value) (bs : List Int) : Prop :=
  ∃ g, v = .slice (some ⟨g, 0, none⟩) bs.length bs.length ∧ B ≤ g ∧ W.heap[g]? = some (.cells (bs.map (Value.int .u8)).toArray 5 (0, 0))
/-- the block that a make has laid -/
theorem made_block {base e n : Nat} {W : World} {g : Nat} {xs : List Value} (h : W.ownsRow base e 1 (.slice (some ⟨g, 0, none⟩) n n) n xs) : W.heap[g]? = some (.cells xs.toArray e (0, 0)) := by
  obtain ⟨_, h | ⟨g', cap, cur, hv, _, hh, _, _, hs, ht⟩⟩ := h
  · simp at h
  · simp only [Value.slice.injEq, Option.some.injEq, Addr.mk.injEq] at hv
    obtain ⟨⟨rfl, _, _⟩, _, rfl⟩ := hv
    have : cur.toList = xs := by
      rw [← ht, Nat.mul_one]
      exact (List.take_of_length_le (by simp [hs])).symm
    rw [hh, ← this]
theorem cells_of_IsB {n₀ : Nat} {W : World} {a : Option Addr} {n cap : Nat} {bs : List Int} (h : IsB n₀ W (.slice a n cap) bs) (h0 : 0 < (bs.map (Value.int .u8)).length) :
    ∃ ad, a = some ad ∧ ∀ j v, (bs.map (Value.int .u8))[j]? = some v → W.cell? (ad.add j) = some v := by
  obtain ⟨a', cap', e, _, _, hc⟩ := h
  simp only [Value.slice.injEq] at e
  obtain ⟨rfl, _, _⟩ := e
  obtain ⟨b, off, rfl, _, hcs⟩ := hc (by simpa using h0)
  refine ⟨_, rfl, fun j v hv => ?_⟩
  have hj : j < bs.length := by have := (List.getElem?_eq_some_iff.1 hv).1; simpa using this
  rw [Addr.add_lit, hcs j hj]
  simp only [List.getElem?_map, List.getElem?_eq_getElem hj, Option.map_some, Option.some.injEq] at hv
  simp [List.getElem?_eq_getElem hj, hv]
/-- copy, dst in a row that is known whole, as a run. -/
theorem copy_run {w0 w : World} (dp sp : Option Addr) (dLen dCap sLen sCap : Nat) (g off : Nat) (cur : List Value) (hg : w.heap[g]? = some (.cells cur.toArray 5 (0, 0))) (cs : List Value) (hn : cs.length = Nat.min sLen dLen)
    (hpos : 0 < cs.length → dp = some ⟨g, off, none⟩ ∧ ∃ ad, sp = some ad ∧ ∀ j v, cs[j]? = some v → w.cell? (ad.add j) = some v)
    (hfit : off + cs.length ≤ cur.length) (h1 : ∀ v ∈ cs, v.oneCell' = true) (B : Nat) (hb : Below B w0 w) (hBg : B ≤ g) :
    ∃ w', (Builtin.copy_ #[24, 24] 3 #[.slice dp dLen dCap, .slice sp sLen sCap]).run Try.prog w = .ok (goInt cs.length) w' ∧
      w'.heap[g]? = some (.cells (splice cur off cs).toArray 5 (0, 0)) ∧ Below B w0 w' := by
  by_cases h0 : cs.length = 0
  · obtain rfl : cs = [] := List.eq_nil_of_length_eq_zero h0
    have hrun := run_copy_none (P := Try.prog) w 24 24 3 5 dp sp dLen dCap sLen sCap Try.underlying24 size_u8 (by simpa using hn.symm)
    exact ⟨w, hrun, by simpa [splice] using hg, hb⟩
  · obtain ⟨rfl, ad, rfl, hsrc⟩ := hpos (by omega)
    have hrun := run_copy_row (P := Try.prog) w 24 24 3 5 g off dLen dCap ad sLen sCap cur.toArray 5 cs Try.underlying24 size_u8 hg hn hsrc (by simpa using hfit) h1
    exact ⟨_, hrun, by simpa [splice] using setRow_heap w g _ _ 5 _ hg, below_setRow hb hBg _⟩
theorem splice_two {α : Type} (Z X Y : List α) (hZ : Z.length = X.length + Y.length) : splice (splice Z 0 X) X.length Y = X ++ Y := by
  have e1 : splice Z 0 X = X ++ Z.drop X.length := by simp [splice]
  rw [e1, splice, List.take_left, List.drop_append]
  have e2 : List.drop (X.length + Y.length) X = [] := List.drop_eq_nil_of_le (by omega)
  have e3 : List.drop (X.length + Y.length - X.length) (List.drop X.length Z) = [] := List.drop_eq_nil_of_le (by simp; omega)
  rw [e2, e3]; simp
/-- the lowest 16 bits of n in two bytes, the higher one first -/
def put16 (n : Int) : List Int := [n / 256 % 256, n % 256]
/-- n in four bytes, the highest first -/
def put32 (n : Int) : List Int := [n / 16777216, n / 65536 % 256, n / 256 % 256, n % 256]
theorem IsB_new {n : Nat} {w : World} (bs : List Int) (hn : w.heap.size < n) : IsB n (w.alloc (.cells (bs.map (Value.int .u8)).toArray 5)) (.slice (some ⟨w.heap.size, 0, none⟩) bs.length bs.length) bs :=
  ⟨_, _, rfl, Nat.le_refl _, (fun h => by cases h), fun _ => ⟨w.heap.size, 0, rfl, hn, fun j hj => by
    rw [Nat.zero_add, cell_of_row _ w.heap.size j (bs.map (Value.int .u8)).toArray 5 (0, 0) (heap_alloc_new w _)]
    simp [hj]⟩⟩
theorem OwnB.mono {B B' : Nat} {W : World} {v : Value} {bs : List Int} (h : OwnB B W v bs) (hB : B' ≤ B) : OwnB B' W v bs := by
  obtain ⟨g, e, hg, hh⟩ := h
  exact ⟨g, e, by omega, hh⟩
/-- the string of these bytes -/
def strB (bs : List Int) : ByteArray := bs.foldl (fun r n => r.push (UInt8.ofNat n.toNat)) ByteArray.empty
theorem conv_str {n₀ : Nat} {W : World} {v : Value} {bs : List Int} (h : IsB n₀ W v bs) : (convert 24 9 v).run Try.prog W = .ok (.string (strB bs)) W := by
  obtain ⟨a, cap, rfl, hl, hn, hc⟩ := h
  rw [run_convert_bytes_string (P := Try.prog) W 24 9 5 a bs.length cap Try.underlying24 Try.underlying5 Try.underlying9]
  cases a with
  | none =>
    have h0 := hn rfl
    have : bs = [] := List.eq_nil_of_length_eq_zero (by omega)
    subst this
    rfl
  | some ad =>
    refine run_bytesToString W ad bs.length cap bs ?_
    have := run_loadCells_list (P := Try.prog) W ad (bs.map (Value.int .u8)) (fun j v hv => by
      have hj : j < bs.length := by have := (List.getElem?_eq_some_iff.1 hv).1; simpa using this
      obtain ⟨b, off, e, _, hcs⟩ := hc (by omega)
      cases e
      rw [Addr.add_lit, hcs j hj]
      simp only [List.getElem?_map, List.getElem?_eq_getElem hj, Option.map_some, Option.some.injEq] at hv
      simp [List.getElem?_eq_getElem hj, hv])
    simpa using this
theorem OwnB.isB {B : Nat} {W : World} {v : Value} {bs : List Int} (h : OwnB B W v bs) : IsB W.heap.size W v bs := by
  obtain ⟨g, rfl, hg, hh⟩ := h
  refine ⟨_, _, rfl, Nat.le_refl _, (fun e => by cases e), fun _ => ⟨g, 0, rfl, (Array.getElem?_eq_some_iff.1 hh).1, fun j hj => ?_⟩⟩
  rw [Nat.zero_add, cell_of_row _ g j _ 5 (0, 0) hh]
  simp [hj]
theorem OwnB.below {B n : Nat} {A W : World} {v : Value} {bs : List Int} (h : OwnB B A v bs) (hb : Below n A W) (hn : A.heap.size ≤ n) : OwnB B W v bs := by
  obtain ⟨g, rfl, hg, hh⟩ := h
  have hlt := (Array.getElem?_eq_some_iff.1 hh).1
  exact ⟨g, rfl, hg, by rw [hb.block g (by omega)]; exact hh⟩
theorem later_alloc (w : World) (o : Obj) : Below w.heap.size w (w.alloc o) := (Below.refl _ w).alloc (Nat.le_refl _) o
theorem later {a b c : World} (h : Below a.heap.size a b) (k : Below b.heap.size b c) : Below a.heap.size a c := h.trans (k.mono h.size)
theorem IsB.later {A B : World} {v : Value} {bs : List Int} (hb : IsB A.heap.size A v bs) (h : Below A.heap.size A B) : IsB B.heap.size B v bs := (hb.below h).mono h.size
theorem OwnB.gro {B : Nat} {W : World} {v : Value} {bs : List Int} (h : OwnB B W v bs) (hl : bs.length ≤ maxLen) : Gro B W v bs := by
  obtain ⟨g, rfl, hg, hh⟩ := h
  exact ⟨by simp, .inr ⟨g, bs.length, _, rfl, hg, hh, Nat.le_refl _, hl, by simp, List.take_of_length_le (by simp)⟩⟩
theorem Gro.isB {B : Nat} {W : World} {v : Value} {bs : List Int} (h : Gro B W v bs) : IsB W.heap.size W v bs := by
  obtain ⟨_, ⟨rfl, h0⟩ | ⟨g, cap, cur, rfl, hg, hh, hc, hm, hs, ht⟩⟩ := h
  · have : bs = [] := List.eq_nil_of_length_eq_zero h0
    subst this
    exact IsB.nil _ _
  · refine ⟨_, _, rfl, hc, (fun e => by cases e), fun _ => ⟨g, 0, rfl, (Array.getElem?_eq_some_iff.1 hh).1, fun j hj => ?_⟩⟩
    rw [Nat.zero_add, cell_of_row _ g j _ 5 (0, 0) hh]
    have h1 : (cur.toList.take (bs.length * 1))[j]? = cur[j]? := by
      rw [List.getElem?_take, if_pos (by omega)]; simp
    rw [← h1, ht]
    simp [hj]
theorem Gro.later {B : Nat} {A W : World} {v : Value} {bs : List Int} (h : Gro B A v bs) (hb : Below A.heap.size A W) : Gro B W v bs := by
  obtain ⟨h1, h2 | ⟨g, cap, cur, rfl, hg, hh, r⟩⟩ := h
  · exact ⟨h1, .inl h2⟩
  · exact ⟨h1, .inr ⟨g, cap, cur, rfl, hg, by rw [hb.block g (Array.getElem?_eq_some_iff.1 hh).1]; exact hh, r⟩⟩
theorem IsB.shape {n₀ : Nat} {W : World} {v : Value} {bs : List Int} (h : IsB n₀ W v bs) : ∃ a cap, v = .slice a bs.length cap ∧ bs.length ≤ cap := by
  obtain ⟨a, cap, e, hl, _⟩ := h
  exact ⟨a, cap, e, hl⟩
/-- where the bytes lie -/
theorem Gro.block {B : Nat} {W : World} {a : Option Addr} {n c : Nat} {bs : List Int} (h : Gro B W (.slice a n c) bs) (h0 : 0 < bs.length) :
    ∃ g, a = some ⟨g, 0, none⟩ ∧ B ≤ g ∧ (∀ j, j < bs.length → W.cell? ⟨g, j, none⟩ = some (.int .u8 (bs[j]?.getD 0))) ∧ ∀ j, W.frozen? ⟨g, j, none⟩ = false := by
  have h' := h
  obtain ⟨_, ⟨e, h1⟩ | ⟨g, cap, cur, e, hg, _⟩⟩ := h
  · omega
  · simp only [Value.slice.injEq] at e
    obtain ⟨rfl, rfl, rfl⟩ := e
    refine ⟨g, rfl, hg, fun j hj => ?_, fun j => World.ownsRow.frozenAt h' j⟩
    rw [World.ownsRow.cellAt h' j (by omega)]
    simp [hj]
/-- a store into one of them -/
theorem Gro.store {B : Nat} {W : World} {g n c : Nat} {bs : List Int} (h : Gro B W (.slice (some ⟨g, 0, none⟩) n c) bs) (hn : n = bs.length) (k : Nat) (x : Int) :
    Gro B (W.setCell ⟨g, k, none⟩ (.int .u8 x)) (.slice (some ⟨g, 0, none⟩) n c) (bs.set k x) := by
  subst hn
  have := (World.ownsRow.stored h k (.int .u8 x)).1
  unfold Gro
  rw [List.length_set, List.map_set]
  exact this
/-- the first bytes of a slice -/
theorem IsB.take {n₀ : Nat} {W : World} {a : Option Addr} {n c : Nat} {L : List Int} (h : IsB n₀ W (.slice a n c) L) (k : Nat) (hk : k ≤ L.length) : IsB n₀ W (.slice a k c) (L.take k) := by
  obtain ⟨a', c', e, hl, hn, hc⟩ := h
  simp only [Value.slice.injEq] at e
  obtain ⟨rfl, rfl, rfl⟩ := e
  have e : (L.take k).length = k := by simp; omega
  refine ⟨a, c, by rw [e], by omega, hn, fun h0 => ?_⟩
  obtain ⟨b, off, rfl, hb, hcs⟩ := hc (by omega)
  refine ⟨b, off, rfl, hb, fun j hj => ?_⟩
  rw [hcs j (by omega), List.getElem?_take, if_pos (by omega)]
/-- what lies behind the first k bytes of a slice -/
theorem IsB.drop {n₀ : Nat} {W : World} {a : Option Addr} {n c : Nat} {L : List Int} (h : IsB n₀ W (.slice a n c) L) (k : Nat) (hk : k ≤ L.length) :
    IsB n₀ W (.slice (if c = k then a else Option.map (fun x => x.add k) a) (n - k) (c - k)) (L.drop k) := by
  obtain ⟨a2, c', e, hl, hn, hc⟩ := h
  simp only [Value.slice.injEq] at e
  obtain ⟨rfl, rfl, rfl⟩ := e
  refine ⟨if c = k then a else Option.map (fun x => x.add k) a, c - k, by rw [List.length_drop], by rw [List.length_drop]; omega, fun e => ?_, fun h0 => ?_⟩
  · split at e
    · omega
    · have : a = none := by simpa using e
      have := hn this
      omega
  · simp only [List.length_drop] at h0
    obtain ⟨b, off, rfl, hb, hcs⟩ := hc (by omega)
    refine ⟨b, off + k, by rw [if_neg (by omega)]; simp [Addr.add_lit], hb, fun j hj => ?_⟩
    simp only [List.length_drop] at hj
    rw [Nat.add_assoc, hcs (k + j) (by omega), List.getElem?_drop]

end Go.Proofs.Ytgempelfamjabaa
