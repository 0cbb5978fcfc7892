
/-
  Package ether: the contract of Encode.
-/
import Derived.Test.YtipebfaappangaaE7
namespace Go.Proofs.Ytipebfaappangaa
open Go.RowKit

def mL (m : M6) : List Int := [m.a, m.b, m.c, m.d, m.e, m.f]
/-- what a tag says -/
def enT (f : Fr) : List Int := if f.tag = true then put16 33024 ++ put16 (f.prio * 8192 + f.vlan) else []
/-- a head, in bytes -/
def enH (f : Fr) : List Int := mL f.dst ++ mL f.src ++ enT f ++ put16 f.ty
def pad (L : List Int) : List Int := L ++ List.replicate (60 - L.length) 0
def enE (f : Fr) (n : Nat) : Int := if mbB f = false then 1 else if 256 < n then 2 else 0
def enB (f : Fr) (bs : List Int) : List Int := if enE f bs.length = 0 then pad (enH f ++ bs) else []

def EnEnd (w : World) (f : Fr) (bs : List Int) (e : Ending) (w' : World) : Prop :=
  ∃ a c, e = .returned (.tuple #[.slice a (enB f bs).length c, .int .i64 (enE f bs.length)]) ∧ Gro w.heap.size w' (.slice a (enB f bs).length c) (enB f bs) ∧ Below w.heap.size w w'

theorem EnEnd.no {w w' : World} {f : Fr} {bs : List Int} (k : Int) (hk : k ≠ 0) (h : enE f bs.length = k) (hb : Below w.heap.size w w') : EnEnd w f bs (.returned (.tuple #[.slice none 0 0, .int .i64 k])) w' := by
  have h0 : ¬ enE f bs.length = 0 := by rw [h]; exact hk
  refine ⟨none, 0, ?_, ?_, hb⟩
  · rw [enB, if_neg h0, h]; rfl
  · rw [enB, if_neg h0]; exact Gro.nil _ _

theorem FrAt.dstF {W : World} {s : Nat} {f : Fr} (h : FrAt W s f) : IsF (fun _ => False) W (.slice (some ⟨s, 0, none⟩) 6 6) (mL f.dst) := by
  refine ⟨_, _, rfl, Nat.le_refl _, (fun e => by cases e), fun _ => ⟨s, 0, rfl, h.lt, id, fun j hj => ?_⟩⟩
  have hj' : j = 0 ∨ j = 1 ∨ j = 2 ∨ j = 3 ∨ j = 4 ∨ j = 5 := by have : j < 6 := hj; omega
  rw [Nat.zero_add]
  rcases hj' with rfl | rfl | rfl | rfl | rfl | rfl
  · exact h.c0
  · exact h.c1
  · exact h.c2
  · exact h.c3
  · exact h.c4
  · exact h.c5
theorem FrAt.srcF {W : World} {s : Nat} {f : Fr} (h : FrAt W s f) : IsF (fun _ => False) W (.slice (some ⟨s, 6, none⟩) 6 6) (mL f.src) := by
  refine ⟨_, _, rfl, Nat.le_refl _, (fun e => by cases e), fun _ => ⟨s, 6, rfl, h.lt, id, fun j hj => ?_⟩⟩
  have hj' : j = 0 ∨ j = 1 ∨ j = 2 ∨ j = 3 ∨ j = 4 ∨ j = 5 := by have : j < 6 := hj; omega
  rcases hj' with rfl | rfl | rfl | rfl | rfl | rfl
  · exact h.c6
  · exact h.c7
  · exact h.c8
  · exact h.c9
  · exact h.c10
  · exact h.c11
theorem FrAt.keep {W W' : World} {s B : Nat} {f : Fr} (h : FrAt W s f) (hb : Below B W W') (hs : s < B) : FrAt W' s f := by
  refine h.but (K := fun g => B ≤ g) ⟨hb.os, hb.tape, hb.output, hb.size, fun i _ hn => hb.block i (by omega)⟩ (by omega)
theorem IsF.keep {A : Nat → Prop} {w W W' : World} {B : Nat} {v : Value} {bs : List Int} (h : IsF A w v bs) (hw : Below w.heap.size w W) (hb : Below B W W') (hB : w.heap.size ≤ B) : IsF A W' v bs := h.later (hw.trans (hb.mono hB))

theorem mb_bd {f : Fr} (h : mbB f = true) : 1536 ≤ f.ty ∧ f.ty ≤ 65535 ∧ (f.tag = true → 0 ≤ f.vlan ∧ f.vlan ≤ 4095 ∧ 0 ≤ f.prio ∧ f.prio ≤ 7) := by
  unfold mbB wiB at h
  simp only [Bool.and_eq_true, decide_eq_true_eq] at h
  refine ⟨h.1.1.1.1, h.1.1.1.2, fun ht => ?_⟩
  rw [ht] at h
  exact ⟨h.1.2.1, h.1.2.2, h.2.1, h.2.2⟩

theorem Encode_arg {A : Nat → Prop} {w : World} {v : Value} {f : Fr} {bs : List Int} (hv : IsF A w v bs) (hm : mbB f = false) : Calls Try.prog 9 #[f.val, v] w (EnEnd w f bs) := by
  obtain ⟨a, cap, rfl, hcap, -⟩ := hv.shape
  have F0 := hide (FrAt.new w f 25)
  have B0 := hide (later_alloc w (.cells f.cells 25))
  have C := mayBe_any f (w.alloc (.cells f.cells 25))
  rw [hm] at C
  have HC := hide C
  have E := hide (show enE f bs.length = 1 from by unfold enE; rw [if_pos hm])
  simp only [Fr.val]
  clear C hm hv
  go_enter Try.func9, Try.ntmps9
  go_wp2_with (refine wpList_load_fr rfl _ rfl w.heap.size rfl f F0.out ?_)
  refine HC.out.mono ?_
  rintro e w1 ⟨rfl, b1⟩
  go_wp2
  go_ret2
  exact EnEnd.no 1 (by decide) E.out (later B0.out b1)

theorem Encode_longer {A : Nat → Prop} {w : World} {v : Value} {f : Fr} {bs : List Int} (hv : IsF A w v bs) (hm : mbB f = true) (hl : 256 < bs.length) : Calls Try.prog 9 #[f.val, v] w (EnEnd w f bs) := by
  obtain ⟨a, cap, rfl, hcap, -⟩ := hv.shape
  have F0 := hide (FrAt.new w f 25)
  have B0 := hide (later_alloc w (.cells f.cells 25))
  have C := mayBe_any f (w.alloc (.cells f.cells 25))
  rw [hm] at C
  have HC := hide C
  have E := hide (show enE f bs.length = 2 from by unfold enE; rw [hm, if_neg (by simp), if_pos hl])
  have l1 : (256 : Int) < (bs.length : Int) := by omega
  simp only [Fr.val]
  clear C hm hv hl
  go_enter Try.func9, Try.ntmps9
  go_wp2_with (refine wpList_load_fr rfl _ rfl w.heap.size rfl f F0.out ?_)
  refine HC.out.mono ?_
  rintro e w1 ⟨rfl, b1⟩
  go_wp2
  go_ret2
  exact EnEnd.no 2 (by decide) E.out (later B0.out b1)

end Go.Proofs.Ytipebfaappangaa
