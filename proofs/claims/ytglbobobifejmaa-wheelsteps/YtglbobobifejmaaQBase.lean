
/-
  Memory: which blocks have turned ('But').
-/
import Derived.Test.YtglbobobifejmaaRows
import Derived.WalkKit
import Derived.WalkSpells
import Derived.WalkLawsBesides
import Derived.Deep.QuietTactic
import Derived.BigQuiet
import Derived.Laws.AppendOwnNone
import Derived.Deep.DeepCutAuto
import Derived.Deep.RegionHeld
namespace Go.Proofs.Ytglbobobifejmaa
open Go.RowKit

theorem hide {p : Prop} (h : p) : Hid p := h
theorem unhide {p : Prop} (h : Hid p) : p := h
theorem ret_int {k : IntKind} {a b : Int} (h : a = b) : Ending.returned (.int k a) = .returned (.int k b) := by rw [h]
theorem val_int {k : IntKind} {a b : Int} (h : a = b) : Value.int k a = Value.int k b := by rw [h]

/-- of the blocks that were there those of K alone may have turned -/
structure But (K : Nat → Prop) (w w' : World) : Prop where
  os : w'.os = w.os
  tape : w'.tape = w.tape
  output : w'.output = w.output
  size : w.heap.size ≤ w'.heap.size
  block : ∀ k, k < w.heap.size → ¬ K k → w'.heap[k]? = w.heap[k]?

theorem But.refl (K : Nat → Prop) (w : World) : But K w w := ⟨rfl, rfl, rfl, Nat.le_refl _, fun _ _ _ => rfl⟩
theorem But.trans {K : Nat → Prop} {a b c : World} (h : But K a b) (k : But K b c) : But K a c :=
  ⟨k.os.trans h.os, k.tape.trans h.tape, k.output.trans h.output, Nat.le_trans h.size k.size, fun i hi hk => (k.block i (Nat.lt_of_lt_of_le hi h.size) hk).trans (h.block i hi hk)⟩
theorem But.mono {K K' : Nat → Prop} {a b : World} (h : But K a b) (hk : ∀ g, K g → K' g) : But K' a b :=
  ⟨h.os, h.tape, h.output, h.size, fun i hi hn => h.block i hi (fun e => hn (hk i e))⟩
theorem But.trans' {K K' : Nat → Prop} {a b c : World} (h : But K a b) (k : But K' b c) (hk : ∀ g, g < a.heap.size → K' g → K g) : But K a c :=
  ⟨k.os.trans h.os, k.tape.trans h.tape, k.output.trans h.output, Nat.le_trans h.size k.size, fun i hi hn => (k.block i (Nat.lt_of_lt_of_le hi h.size) (fun e => hn (hk i hi e))).trans (h.block i hi hn)⟩
theorem But.of_below {K : Nat → Prop} {a b : World} (h : Below a.heap.size a b) : But K a b := ⟨h.os, h.tape, h.output, h.size, fun i hi _ => h.block i hi⟩
theorem But.below {K : Nat → Prop} {a b : World} (h : But K a b) {n : Nat} (hn : n ≤ a.heap.size) (hk : ∀ g, g < n → ¬ K g) : Below n a b :=
  ⟨h.os, h.tape, h.output, h.size, fun i hi => h.block i (by omega) (hk i hi)⟩
theorem But.setCell {K : Nat → Prop} {a w : World} (h : But K a w) {p : Addr} (hp : a.heap.size ≤ p.block ∨ K p.block) (u : Value) : But K a (w.setCell p u) :=
  ⟨h.os, h.tape, h.output, by simpa [World.setCell] using h.size, fun i hi hn => (Below.heap_setCell _ _ _ _ (by rintro rfl; rcases hp with h | h; omega; exact hn h)).trans (h.block i hi hn)⟩
theorem But.drew {K : Nat → Prop} {a w : World} (h : But K a w) : But K a w.drew := ⟨h.os, h.tape, h.output, h.size, h.block⟩
theorem But.alloc {K : Nat → Prop} {a w : World} (h : But K a w) (o : Obj) : But K a (w.alloc o) :=
  ⟨h.os, h.tape, h.output, Nat.le_trans h.size (by simp), fun i hi hn => (Below.heap_alloc _ _ _ (Nat.lt_of_lt_of_le hi h.size)).trans (h.block i hi hn)⟩
theorem But.cell {K : Nat → Prop} {a b : World} (h : But K a b) {p : Addr} (hp : p.block < a.heap.size) (hk : ¬ K p.block) : b.cell? p = a.cell? p := World.cell?_of_block (w := a) (h.block p.block hp hk)
theorem But.frozen {K : Nat → Prop} {a b : World} (h : But K a b) {p : Addr} (hp : p.block < a.heap.size) (hk : ¬ K p.block) : b.frozen? p = a.frozen? p := World.frozen?_of_block (w := a) (h.block p.block hp hk)
end Go.Proofs.Ytglbobobifejmaa
