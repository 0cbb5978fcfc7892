
/-
  The document's Decode: its contract.
-/
import Derived.Test.YtjaodjlgnclkhaaA43
namespace Go.Proofs.Ytjaodjlgnclkhaa
open Go.RowKit Go.Shelf

def mK (bs : List Int) (o k : Nat) : M6 := ⟨if 0 < k then nb bs o else 0, if 1 < k then nb bs (o + 1) else 0, if 2 < k then nb bs (o + 2) else 0, if 3 < k then nb bs (o + 3) else 0, if 4 < k then nb bs (o + 4) else 0, if 5 < k then nb bs (o + 5) else 0⟩
def iK (bs : List Int) (o k : Nat) : I4 := ⟨if 0 < k then nb bs o else 0, if 1 < k then nb bs (o + 1) else 0, if 2 < k then nb bs (o + 2) else 0, if 3 < k then nb bs (o + 3) else 0⟩
def aK (bs : List Int) (an : Bool) (i j k l : Nat) : Ar := ⟨an, mK bs 8 i, iK bs 14 j, mK bs 18 k, iK bs 24 l⟩
theorem aK_sm (bs : List Int) (an : Bool) (i j k l : Nat) (h : i < 6) : (aK bs an (i + 1) j k l).vals = (aK bs an i j k l).vals.set (1 + i) (.int .u8 (nb bs (8 + i))) := by
  have h4 : i = 0 ∨ i = 1 ∨ i = 2 ∨ i = 3 ∨ i = 4 ∨ i = 5 := by omega
  rcases h4 with rfl | rfl | rfl | rfl | rfl | rfl <;> rfl
theorem aK_dm (bs : List Int) (an : Bool) (i j k l : Nat) (h : k < 6) : (aK bs an i j (k + 1) l).vals = (aK bs an i j k l).vals.set (11 + k) (.int .u8 (nb bs (18 + k))) := by
  have h4 : k = 0 ∨ k = 1 ∨ k = 2 ∨ k = 3 ∨ k = 4 ∨ k = 5 := by omega
  rcases h4 with rfl | rfl | rfl | rfl | rfl | rfl <;> rfl
theorem aK_si (bs : List Int) (an : Bool) (i j k l : Nat) (h : j < 4) : (aK bs an i (j + 1) k l).vals = (aK bs an i j k l).vals.set (7 + j) (.int .u8 (nb bs (14 + j))) := by
  have h4 : j = 0 ∨ j = 1 ∨ j = 2 ∨ j = 3 := by omega
  rcases h4 with rfl | rfl | rfl | rfl <;> rfl
theorem aK_di (bs : List Int) (an : Bool) (i j k l : Nat) (h : l < 4) : (aK bs an i j k (l + 1)).vals = (aK bs an i j k l).vals.set (17 + l) (.int .u8 (nb bs (24 + l))) := by
  have h4 : l = 0 ∨ l = 1 ∨ l = 2 ∨ l = 3 := by omega
  rcases h4 with rfl | rfl | rfl | rfl <;> rfl
theorem ar_len (a : Ar) : a.vals.length = 21 := rfl
/-- its memory: its result, what is read -/
structure RSt (w : World) (s s4 : Nat) (a : Ar) (W : World) : Prop where
  cz : CellsAt W s 0 zA.vals
  fz : ∀ y, W.frozen? ⟨s, y, none⟩ = false
  c4 : CellsAt W s4 0 a.vals
  f4 : ∀ y, W.frozen? ⟨s4, y, none⟩ = false
  lt : s < s4 ∧ s4 < W.heap.size
  b : Below s w W
section
variable {w : World} {s s4 : Nat} {a : Ar} {W W' : World}
theorem RSt.later (h : RSt w s s4 a W) (hb : Below W.heap.size W W') : RSt w s s4 a W' := by
  have ⟨l1, l3⟩ := h.lt
  exact ⟨h.cz.later (by omega) hb, fun y => (hb.frozen (p := ⟨s, y, none⟩) (by show s < _; omega)).trans (h.fz y), h.c4.later l3 hb, fun y => (hb.frozen (p := ⟨s4, y, none⟩) l3).trans (h.f4 y), ⟨l1, by have := hb.size; omega⟩, h.b.trans (hb.mono (by omega))⟩
theorem RSt.put {a' : Ar} (h : RSt w s s4 a W) (p : Nat) (hp : p < 21) (u : Value) (e : a'.vals = a.vals.set p u) : RSt w s s4 a' (W.setCell ⟨s4, p, none⟩ u) := by
  have ⟨l1, l3⟩ := h.lt
  have bo : But (Only s4) W (W.setCell ⟨s4, p, none⟩ u) := But.cellb (K := Only s4) (b := s4) (But.refl _ _) rfl p _
  have ns : ¬ Only s4 s := fun e => by have e : s = s4 := e; omega
  refine ⟨h.cz.but (by omega) bo ns, fun y => (bo.frozen (p := ⟨s, y, none⟩) (by show s < _; omega) ns).trans (h.fz y), ?_, fun y => by rw [World.frozen?_setCell]; exact h.f4 y, ⟨l1, Nat.lt_of_lt_of_le l3 bo.size⟩, h.b.trans (bo.below (by omega) (fun g hg e => by have e : g = s4 := e; omega))⟩
  have h1 := h.c4.put p u hp
  rw [Nat.zero_add] at h1
  rw [e]
  exact h1
end
theorem exec_str {o : Oper} {w : World} {ev : Operand → Value} (x : Operand) (v : Value) (bs : List Int) (ho : o.op = .convert 28 9 x) (hx : ev x = v) (h : IsB w.heap.size w v bs) : (execOp ev o).run Try.prog w = .ok (.value (.string (strB bs))) w := by
  have e := conv_str h
  unfold execOp
  simp only [ho, hx, Sem.run_bind, Sem.run_pure, Result.andThen_ok, e]
theorem exec_nes {o : Oper} {w : World} {ev : Operand → Value} (x y : Operand) (t : TypeId) (X Y : List Int) (r : Bool) (ho : o.op = .binOp .neq 9 x y t) (hx : ev x = .string (strB X)) (hy : ev y = .string (strB Y)) (hX : Bytes X) (hY : Bytes Y) (hr : (!decide (X = Y)) = r) : (execOp ev o).run Try.prog w = .ok (.value (.bool r)) w := by
  subst hr
  have e := str_beq hX hY
  unfold execOp
  simp [ho, hx, hy, go_sem, e]
theorem exec_nee {o : Oper} {w : World} {ev : Operand → Value} (x y : Operand) (t : TypeId) (a b : Int) (r : Bool) (ho : o.op = .binOp .neq 30 x y t) (hx : ev x = .int .i64 a) (hy : ev y = .int .i64 b) (hr : (!(a == b)) = r) : (execOp ev o).run Try.prog w = .ok (.value (.bool r)) w := by
  unfold execOp
  simp [ho, hx, hy, go_sem]
  rw [← hr]
  rfl
theorem exec_slT {o : Oper} {w : World} {ev : Operand → Value} (x y : Operand) (b off n c k : Nat) (ho : o.op = .slice 28 x none (some y) none) (hx : ev x = .slice (some ⟨b, off, none⟩) n c) (hy : ev y = .int .i64 (k : Int)) (hk : k ≤ n) (hc : n ≤ c) (h0 : 0 < c) : (execOp ev o).run Try.prog w = .ok (.value (.slice (some ⟨b, off, none⟩) k c)) w := by
  have h1 : (k : Int) ≤ c := by omega
  have h2 : ¬ c = 0 := by omega
  unfold execOp
  simp [ho, hx, hy, go_sem, h1, h2]
theorem IsF.take {A : Nat → Prop} {W : World} {a : Option Addr} {n c : Nat} {L : List Int} (h : IsF A W (.slice a n c) L) (k : Nat) (hk : k ≤ L.length) : IsF A W (.slice a k c) (L.take k) := by
  obtain ⟨a', c', e, hl, hn, hc⟩ := h
  simp only [Value.slice.injEq] at e
  obtain ⟨rfl, rfl, rfl⟩ := e
  have e : (L.take k).length = k := by simp; omega
  refine ⟨a, c, by rw [e], by omega, hn, fun h0 => ?_⟩
  obtain ⟨b, off, rfl, hb, ha, hcs⟩ := hc (by omega)
  refine ⟨b, off, rfl, hb, ha, fun j hj => ?_⟩
  rw [hcs j (by omega), List.getElem?_take, if_pos (by omega)]

set_option maxRecDepth 100000 in
set_option maxHeartbeats 4000000 in
theorem rDecode_short {A : Nat → Prop} {w : World} {v : Value} {bs : List Int} (h : IsF A w v bs) (h28 : bs.length < 28) : Calls Try.prog 12 #[v] w (DeEnd w bs) := by
  obtain ⟨va, vc, rfl, -, -⟩ := h.shape
  have E : deE bs = 3 := by unfold deE; rw [if_pos h28]
  have hl : (bs.length : Int) < 28 := by omega
  have FE := hide (fun w' => DeEnd.no (w := w) (w' := w') (by decide) E)
  obtain ⟨n, hn⟩ : ∃ n, n = bs.length := ⟨_, rfl⟩
  rw [← hn] at hl ⊢
  obtain ⟨s, hs⟩ : ∃ s, s = w.heap.size := ⟨_, rfl⟩
  obtain ⟨W1, hW1⟩ : ∃ W1, W1 = w.alloc (.cells zA.vals.toArray 27) := ⟨_, rfl⟩
  have b1 : Below s w W1 := by rw [hW1, hs]; exact (Below.refl _ _).alloc (Nat.le_refl _) _
  have C1 : Hid (CellsAt W1 s 0 zA.vals) := by rw [hW1, hs]; exact CellsAt.new w _ _
  have F1 : Hid (∀ y, W1.frozen? ⟨s, y, none⟩ = false) := fun y => by rw [hW1, hs]; exact frozen_new w _ _ _
  have bo := But.cells s zA.vals 0 W1
  have BE : Hid (Below s w (W1.setCells s 0 zA.vals)) := b1.trans (bo.below (by have := b1.size; omega) (fun g hg e => by have e : g = s := e; omega))
  have CE : Hid (CellsAt (W1.setCells s 0 zA.vals) s 0 zA.vals) := C1.out.stored rfl
  rw [← hs] at FE
  have hW1' := hW1.symm
  simp only [zA, zM, zI, Ar.vals, M6.vals, I4.vals, List.cons_append, List.nil_append] at hW1'
  have hs' := hs.symm
  obtain ⟨R, hR⟩ : ∃ R, R = DeEnd w bs := ⟨_, rfl⟩
  rw [← hR] at FE ⊢
  clear h E h28 hn hR hW1 hs b1 bo
  go_enter Try.func12, Try.ntmps12
  go_wp2_with (refine wpList_storeA rfl 27 21 sizA _ _ rfl s 0 rfl zA.vals zA.vals rfl rfl rfl C1.out F1.out (ar_one _) (fun _ => ?_))
  refine bodyPost_ret (v := .tuple #[zA.val, .int .i64 3]) ?_ rfl (FE.out _ BE.out)
  exact results_2 rfl _ _ s _ _ rfl rfl (run_loadVarA 27 21 aggA sizA s 0 _ rfl CE.out)
end Go.Proofs.Ytjaodjlgnclkhaa
