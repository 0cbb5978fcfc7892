
/-
  The document's answer: Append, Trim, See.
-/
import Derived.Test.YtjkfjijnjkpbbaaL2
namespace Go.Proofs.Ytjkfjijnjkpbbaa
open Go.RowKit
theorem IsF.alloc {A : Nat → Prop} {w : World} {v : Value} {bs : List Int} (h : IsF A w v bs) (o : Obj) : IsF A (w.alloc o) v bs := h.but (K := fun _ => False) ((But.refl _ _).alloc o) (fun _ e => e.elim)

section
variable {A A' : Nat → Prop} {w : World} {b g n : Nat} {B : Nat → Buf}

/-- three cells of a struct are loaded and stored -/
theorem rSee_yes (H : RPool A w b g n B) (i : Nat) (hi : i < n) (hr : 0 < (B i).refs) :
    Calls Try.prog 46 #[.pointer (some ⟨b, 0, none⟩), .int .i64 (i : Int)] w fun e w' => ∃ hv dv, e = .returned (.tuple #[.agg #[.int .i64 ((B i).refs : Int), hv, dv], .int .i64 0]) ∧ IsF A w' hv (B i).head ∧ IsF A w' dv (B i).data ∧ Below w.heap.size w w' := by
  have bA : Below w.heap.size w (w.alloc (.cells #[.int .i64 0, .slice none 0 0, .slice none 0 0] 35)) := (Below.refl _ w).alloc (Nat.le_refl _) _
  have H1 := H.later bA
  have U := hide (used_any H1 (i : Int))
  rw [usd_nat hi hr] at U
  have c := H1.cell
  have k0 := H1.refs i hi
  obtain ⟨hv, k1, ih0⟩ := H1.head i hi
  obtain ⟨dv, k2, id0, _⟩ := H1.data i hi
  obtain ⟨hv', k1', ih1⟩ := H.head i hi
  obtain ⟨dv', k2', id1, _⟩ := H.data i hi
  obtain rfl : hv' = hv := by
    have := (bA.cell (p := ⟨g, i * 3 + 1, none⟩) H.glt).trans k1'
    rw [k1] at this; exact (Option.some.inj this).symm
  obtain rfl : dv' = dv := by
    have := (bA.cell (p := ⟨g, i * 3 + 2, none⟩) H.glt).trans k2'
    rw [k2] at this; exact (Option.some.inj this).symm
  have ih : IsF (fun x => A x ∨ x = w.heap.size) _ _ _ := (ih1.avoid (A' := fun x => A x ∨ x = w.heap.size) (fun x hx e => e.elim id (fun e => by omega))).alloc (.cells #[.int .i64 0, .slice none 0 0, .slice none 0 0] 35)
  have id' : IsF (fun x => A x ∨ x = w.heap.size) _ _ _ := (id1.avoid (A' := fun x => A x ∨ x = w.heap.size) (fun x hx e => e.elim id (fun e => by omega))).alloc (.cells #[.int .i64 0, .slice none 0 0, .slice none 0 0] 35)
  clear ih0 id0 ih1 id1 k1' k2'
  obtain ⟨x1, y1, rfl, _⟩ := ih.shape
  obtain ⟨x2, y2, rfl, _⟩ := id'.shape
  have T := PTri.new w 35
  have z1 : (i : Int) < n := by omega
  have IH := hide ih
  have ID := hide id'
  have BA := hide bA
  have HG : Hid (g < w.heap.size) := H.glt
  have hgs : ¬ g = w.heap.size := by have := H.glt; omega
  have hsg : ¬ w.heap.size = g := by have := H.glt; omega
  clear H H1 hr ih id' bA hi
  generalize ((B i).refs : Int) = r at *
  generalize (B i).head = hd at *
  generalize (B i).data = dd at *
  go_enter Try.func46, Try.ntmps46
  go_wp2_with fail
  obtain ⟨s, hs⟩ : ∃ s, s = w.heap.size := ⟨_, rfl⟩
  rw [← hs] at T hgs hsg HG IH ID ⊢
  have HS := hide hs
  clear hs
  generalize w.alloc (.cells #[.int .i64 0, .slice none 0 0, .slice none 0 0] 35) = w1 at *
  obtain ⟨t0, t1, t2, tf⟩ := T
  have tf0 := tf 0
  have tf1 := tf 1
  have tf2 := tf 2
  clear tf
  refine U.out.mono ?_
  rintro e w2 ⟨rfl, rfl⟩
  clear U
  go_wp2
  refine bodyPost_ret (v := .tuple #[.agg #[.int .i64 r, .slice x1 hd.length y1, .slice x2 dd.length y2], .int .i64 0]) (by simp [results, asAddr, go_sem, t0, t1, t2]) rfl ?_
  have bS : But (Only s) w2 (((w2.setCell ⟨s, 0, none⟩ (.int .i64 r)).setCell ⟨s, 1, none⟩ (.slice x1 hd.length y1)).setCell ⟨s, 2, none⟩ (.slice x2 dd.length y2)) := (((But.refl _ w2).cellb _ _).cellb _ _).cellb _ _
  exact ⟨_, _, rfl, (IH.out.but bS (fun x e => .inr e)).avoid (fun x _ e => .inl e), (ID.out.but bS (fun x e => .inr e)).avoid (fun x _ e => .inl e), BA.out.trans (bS.below BA.out.size (fun x hx e => by have e : x = s := e; have := HS.out; omega))⟩
end

end Go.Proofs.Ytjkfjijnjkpbbaa
