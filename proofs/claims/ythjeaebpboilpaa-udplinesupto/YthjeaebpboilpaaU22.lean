
/-
  Package udp: Pop and Bufs of a line.
-/
import Derived.Test.YthjeaebpboilpaaU21
namespace Go.Proofs.Ythjeaebpboilpaa
open Go.RowKit Go.Shelf

theorem zD_one : ∀ u ∈ zD.cells, u.oneCell' = true := by
  intro u hu
  simp only [Dg.cells, zD, List.mem_cons, List.not_mem_nil, or_false] at hu
  rcases hu with rfl | rfl | rfl | rfl | rfl | rfl | rfl <;> rfl
/-- a new datagram that is laid into a box, and from there into another one -/
theorem pop_worlds (w2 : World) (s2 : Nat) (Y : List Value) (lY : Y.length = 7) (c : CellsAt w2 s2 0 zD.cells) (f : ∀ y, w2.frozen? ⟨s2, y, none⟩ = false) : ∃ w3 w4 w5 s4, s4 = w2.heap.size ∧ w3 = w2.alloc (.cells #[.int .u8 0, .int .u8 0, .int .u8 0, .int .u8 0, .int .i64 0, .slice none 0 0, .slice none 0 0] 57) ∧ w4 = w3.setCells s4 0 Y ∧ w5 = w4.setCells s2 0 Y ∧ (CellsAt w3 s4 0 zD.cells ∧ (∀ y, w3.frozen? ⟨s4, y, none⟩ = false)) ∧ CellsAt w4 s4 0 Y ∧ (CellsAt w4 s2 0 zD.cells ∧ (∀ y, w4.frozen? ⟨s2, y, none⟩ = false)) ∧ CellsAt w5 s2 0 Y ∧ But (Only s2) w2 w5 := by
  have ls : s2 < w2.heap.size := c.lt (by decide)
  obtain ⟨w3, hw3⟩ : ∃ w3, w3 = w2.alloc (.cells #[.int .u8 0, .int .u8 0, .int .u8 0, .int .u8 0, .int .i64 0, .slice none 0 0, .slice none 0 0] 57) := ⟨_, rfl⟩
  have b3 : Below w2.heap.size w2 w3 := by rw [hw3]; exact later_alloc _ _
  have c3 : CellsAt w3 w2.heap.size 0 zD.cells := by rw [hw3]; exact CellsAt.new w2 zD.cells _
  have f3 : ∀ y, w3.frozen? ⟨w2.heap.size, y, none⟩ = false := by rw [hw3]; exact fun y => frozen_new w2 _ _ _
  obtain ⟨w4, hw4⟩ : ∃ w4, w4 = w3.setCells w2.heap.size 0 Y := ⟨_, rfl⟩
  have b4 : But (Only w2.heap.size) w3 w4 := by rw [hw4]; exact But.cells _ Y 0 w3
  have ns : ¬ Only w2.heap.size s2 := fun e => by have e : s2 = w2.heap.size := e; omega
  have ls3 : s2 < w3.heap.size := Nat.lt_of_lt_of_le ls b3.size
  have c4 : CellsAt w4 s2 0 zD.cells := (c.later ls b3).but ls3 b4 ns
  refine ⟨w3, w4, _, _, rfl, hw3, hw4, rfl, ⟨c3, f3⟩, by rw [hw4]; exact c3.stored (by rw [lY]; rfl), ⟨c4, fun y => ?_⟩, c4.stored (by rw [lY]; rfl), ?_⟩
  · exact (b4.frozen (p := ⟨s2, y, none⟩) ls3 ns).trans ((b3.frozen (p := ⟨s2, y, none⟩) ls).trans (f y))
  · exact ((But.of_below b3).trans' b4 (fun g hg e => by have e : g = w2.heap.size := e; omega)).trans (But.cells s2 Y 0 w4)
set_option maxRecDepth 100000 in
set_option maxHeartbeats 4000000 in
theorem uPop_any {w : World} {b : Nat} {LR LC : Nat → Prop} {M : List Dg} (h : LnAt w b LR LC M) : Calls Try.prog 22 #[.pointer (some ⟨b, 0, none⟩)] w fun e w' => (M = [] ∧ e = .returned (.tuple #[.agg zD.cells.toArray, .int .i64 7]) ∧ Below w.heap.size w w') ∨ (∃ d M', M = d :: M' ∧ e = .returned (.tuple #[.agg d.cells.toArray, .int .i64 0]) ∧ LnAt w' b LR LC M' ∧ But (fun g => g = b ∨ LR g) w w') := by
  obtain ⟨s2, hs2⟩ : ∃ s, s = w.heap.size := ⟨_, rfl⟩
  obtain ⟨w1, hw1⟩ : ∃ w1, w1 = w.alloc (.cells #[.int .u8 0, .int .u8 0, .int .u8 0, .int .u8 0, .int .i64 0, .slice none 0 0, .slice none 0 0] 57) := ⟨_, rfl⟩
  have b1 : Below w.heap.size w w1 := by rw [hw1]; exact later_alloc _ _
  have c1 : CellsAt w1 s2 0 zD.cells := by rw [hw1, hs2]; exact CellsAt.new w zD.cells _
  have f1 : ∀ y, w1.frozen? ⟨s2, y, none⟩ = false := by rw [hw1, hs2]; exact fun y => frozen_new w _ _ _
  have l1 : s2 < w1.heap.size := c1.lt (by decide)
  have POP := hide (qPop_any (h.later b1))
  have hs2' := hs2.symm
  have hw1' := hw1.symm
  have C1 := hide c1
  have F1 := hide f1
  have B1 := hide b1
  have HS := hide hs2
  have HH := hide h
  clear h hs2 hw1 c1 f1 b1
  go_enter Try.func22, Try.ntmps22
  go_wp2_with fail
  clear hs2' hw1'
  refine POP.out.mono ?_
  rintro _ w2 (⟨rfl, rfl, b2⟩ | ⟨d, M', rfl, rfl, L2, b2⟩)
  · obtain ⟨w3, w4, w5, s4, hs4, hw3, hw4, hw5, C3, C4, C42, C5, b5⟩ := pop_worlds w2 s2 zD.cells rfl (C1.out.later l1 b2) (fun y => (b2.frozen (p := ⟨s2, y, none⟩) l1).trans (F1.out y))
    have BB : Hid (Below w.heap.size w w5) := (later B1.out b2).trans (b5.below (Nat.le_trans B1.out.size b2.size) (fun g hg e => by have e : g = s2 := e; have := HS.out; omega))
    have HC3 := hide C3
    have HC42 := hide C42
    have HC5 := hide C5
    have hs4' := hs4.symm
    have hw3' := hw3.symm
    have hw4' := hw4.symm
    have hw5' := hw5.symm
    clear b2 b5 POP C3 C4 C42 C5 hs4 hw3 hw4 hw5
    go_wp2_with (first | (refine wpList_storeA rfl 57 7 sizDg _ _ rfl s4 0 rfl zD.cells zD.cells rfl rfl rfl HC3.out.1 HC3.out.2 zD_one ?_; intro _; rw [hw4']) | (refine wpList_storeA rfl 57 7 sizDg _ _ rfl s2 0 rfl zD.cells zD.cells rfl rfl rfl HC42.out.1 HC42.out.2 zD_one ?_; intro _; rw [hw5']))
    refine bodyPost_ret (v := .tuple #[.agg zD.cells.toArray, .int .i64 7]) (results_2 rfl _ _ s2 _ _ rfl rfl (run_loadVarA 57 7 aggDg sizDg s2 0 _ rfl HC5.out)) rfl ?_
    first | exact .inl ⟨trivial, rfl, BB.out⟩ | exact ⟨rfl, BB.out⟩
  · obtain ⟨X, hX⟩ : ∃ X, X = d.cells := ⟨_, rfl⟩
    have LX : Hid (X.length = 7) := by rw [hX]; exact rfl
    have OX : Hid (∀ u ∈ X, u.oneCell' = true) := by rw [hX]; exact (HH.out.con d (by simp)).one
    have sw := HS.out
    have ns : ¬ (s2 = b ∨ LR s2) := fun e => by
      rcases e with e | e
      · have := HH.out.lt; omega
      · have := (HH.out.nb s2 (.inl e)).2; omega
    obtain ⟨w3, w4, w5, s4, hs4, hw3, hw4, hw5, C3, C4, C42, C5, b5⟩ := pop_worlds w2 s2 X LX.out (C1.out.but l1 b2 ns) (fun y => (b2.frozen (p := ⟨s2, y, none⟩) l1 ns).trans (F1.out y))
    have BB : Hid (But (fun g => g = b ∨ LR g) w w5) := ((But.of_below B1.out).trans b2).trans' b5 (fun g hg e => by have e : g = s2 := e; omega)
    have LL : Hid (LnAt w5 b LR LC M') := L2.but b5 (fun y e e2 => by
      have e2 : y = s2 := e2
      rcases e with e | e
      · have := HH.out.lt; omega
      · have := (HH.out.nb y e).2; omega)
    have HC3 := hide C3
    have HC42 := hide C42
    have HC5 := hide C5
    have HC4 := hide C4
    have hs4' := hs4.symm
    have hw3' := hw3.symm
    have hw4' := hw4.symm
    have hw5' := hw5.symm
    have HX := hide hX
    rw [← hX]
    clear b2 b5 POP C3 C4 C42 C5 hs4 hw3 hw4 hw5 L2 ns sw hX
    go_wp2_with (first | refine wpList_loadA rfl 57 7 aggDg sizDg _ rfl s4 0 rfl X LX.out HC4.out ?_ | (refine wpList_storeA rfl 57 7 sizDg _ _ rfl s4 0 rfl X zD.cells rfl LX.out rfl HC3.out.1 HC3.out.2 OX.out ?_; intro _; rw [hw4']) | (refine wpList_storeA rfl 57 7 sizDg _ _ rfl s2 0 rfl X zD.cells rfl LX.out rfl HC42.out.1 HC42.out.2 OX.out ?_; intro _; rw [hw5']))
    refine bodyPost_ret (v := .tuple #[.agg X.toArray, .int .i64 0]) (results_2 rfl _ _ s2 _ _ rfl rfl (run_loadVarA 57 7 aggDg sizDg s2 0 _ LX.out HC5.out)) rfl ?_
    exact .inr ⟨d, M', rfl, by rw [HX.out], LL.out, BB.out⟩
end Go.Proofs.Ythjeaebpboilpaa
