
/-
  Package arp: the contract of Decode.
-/
import Derived.Test.YtjaodjlgnclkhaaA40
import Derived.Test.YtjaodjlgnclkhaaAX
namespace Go.Proofs.Ytjaodjlgnclkhaa
open Go.RowKit Go.Shelf

/-- Decode's memory: its result, the head, what is read -/
structure DSt (w : World) (s s4 s5 : Nat) (H : H4) (a : Ar) (W : World) : Prop where
  cz : CellsAt W s 0 zA.vals
  fz : ∀ y, W.frozen? ⟨s, y, none⟩ = false
  c4 : CellsAt W s4 0 H.vals
  c5 : CellsAt W s5 0 a.vals
  f5 : ∀ y, W.frozen? ⟨s5, y, none⟩ = false
  lt : s < s4 ∧ s4 < s5 ∧ s5 < W.heap.size
  b : Below s w W
section
variable {w : World} {s s4 s5 : Nat} {H : H4} {a : Ar} {W W' : World}
theorem DSt.later (h : DSt w s s4 s5 H a W) (hb : Below W.heap.size W W') : DSt w s s4 s5 H a W' := by
  have ⟨l1, l2, l3⟩ := h.lt
  exact ⟨h.cz.later (by omega) hb, fun y => (hb.frozen (p := ⟨s, y, none⟩) (by show s < _; omega)).trans (h.fz y), h.c4.later (by omega) hb, h.c5.later l3 hb, fun y => (hb.frozen (p := ⟨s5, y, none⟩) l3).trans (h.f5 y), ⟨l1, l2, by have := hb.size; omega⟩, h.b.trans (hb.mono (by omega))⟩
theorem DSt.turn {a' : Ar} (h : DSt w s s4 s5 H a W) (o : Nat) (vs : List Value) (h5 : CellsAt (W.setCells s5 o vs) s5 0 a'.vals) : DSt w s s4 s5 H a' (W.setCells s5 o vs) := by
  have ⟨l1, l2, l3⟩ := h.lt
  have bo := But.cells s5 vs o W
  exact ⟨h.cz.but (by omega) bo (fun e => by have e : s = s5 := e; omega), fun y => (bo.frozen (p := ⟨s, y, none⟩) (by show s < _; omega) (fun e => by have e : s = s5 := e; omega)).trans (h.fz y), h.c4.but (by omega) bo (fun e => by have e : s4 = s5 := e; omega), h5, fun y => by rw [World.frozen?_setCells]; exact h.f5 y, ⟨l1, l2, Nat.lt_of_lt_of_le l3 bo.size⟩, h.b.trans (bo.below (by omega) (fun g hg e => by have e : g = s5 := e; omega))⟩
end
theorem ar_put {W : World} {s o : Nat} {pre old new post : List Value} (h : CellsAt W s 0 (pre ++ (old ++ post))) (ho : o = pre.length) (hl : new.length = old.length) : CellsAt (W.setCells s o new) s 0 (pre ++ (new ++ post)) := by
  have h1 := CellsAt.append.1 h
  have h2 := CellsAt.append.1 h1.2
  rw [Nat.zero_add] at h1 h2
  subst ho
  refine CellsAt.append.2 ⟨h1.1.other (.inl (by omega)), ?_⟩
  rw [Nat.zero_add]
  refine CellsAt.append.2 ⟨h2.1.stored hl, ?_⟩
  rw [hl]
  exact h2.2.other (.inr (by omega))

set_option maxRecDepth 100000 in
set_option maxHeartbeats 4000000 in
theorem Decode_short {A : Nat → Prop} {w : World} {v : Value} {bs : List Int} (h : IsF A w v bs) (h28 : bs.length < 28) : Calls Try.prog 11 #[v] w (DeEnd w bs) := by
  obtain ⟨va, vc, rfl, -, -⟩ := h.shape
  have E : deE bs = 3 := by unfold deE; rw [if_pos h28]
  have hl : (bs.length : Int) < 28 := by omega
  have FE := hide (fun w' => DeEnd.no (w := w) (w' := w') (by decide) E)
  obtain ⟨n, hn⟩ : ∃ n, n = bs.length := ⟨_, rfl⟩
  rw [← hn] at hl ⊢
  obtain ⟨s, hs⟩ : ∃ s, s = w.heap.size := ⟨_, rfl⟩
  obtain ⟨W1, hW1⟩ : ∃ W1, W1 = w.alloc (.cells zA.vals.toArray 27) := ⟨_, rfl⟩
  have b1 : Below s w W1 := by rw [hW1, hs]; exact (Below.refl _ _).alloc (Nat.le_refl _) _
  have C1 : Hid (CellsAt W1 s 0 zA.vals) := by rw [hW1, hs]; exact CellsAt.new w _ _
  have F1 : Hid (∀ y, W1.frozen? ⟨s, y, none⟩ = false) := fun y => by rw [hW1, hs]; exact frozen_new w _ _ _
  have bo := But.cells s zA.vals 0 W1
  have BE : Hid (Below s w (W1.setCells s 0 zA.vals)) := b1.trans (bo.below (by have := b1.size; omega) (fun g hg e => by have e : g = s := e; omega))
  have CE : Hid (CellsAt (W1.setCells s 0 zA.vals) s 0 zA.vals) := C1.out.stored rfl
  rw [← hs] at FE
  have hW1' := hW1.symm
  simp only [zA, zM, zI, Ar.vals, M6.vals, I4.vals, List.cons_append, List.nil_append] at hW1'
  have hs' := hs.symm
  obtain ⟨R, hR⟩ : ∃ R, R = DeEnd w bs := ⟨_, rfl⟩
  rw [← hR] at FE ⊢
  clear h E h28 hn hR hW1 hs b1 bo
  go_enter Try.func11, Try.ntmps11
  go_wp2_with (refine wpList_storeA rfl 27 21 sizA _ _ rfl s 0 rfl zA.vals zA.vals rfl rfl rfl C1.out F1.out (ar_one _) (fun _ => ?_))
  refine bodyPost_ret (v := .tuple #[zA.val, .int .i64 3]) ?_ rfl (FE.out _ BE.out)
  exact results_2 rfl _ _ s _ _ rfl rfl (run_loadVarA 27 21 aggA sizA s 0 _ rfl CE.out)
end Go.Proofs.Ytjaodjlgnclkhaa
