
/-
  Package core: how a connection begins.
-/
import Derived.Test.YtgdcdgofahhfdaaO4
namespace Go.Proofs.Ytgdcdgofahhfdaa
open Go.RowKit Go.Shelf

def zCt : Ct := ⟨0, 0, 0, 0, false, 0, 0, 0, 0, 0, 0⟩
theorem boxC (w : World) (c : Ct) : ∃ w1 b, b = w.heap.size ∧ w1 = w.alloc (.cells #[.int .i64 c.st, .int .u32 c.iss, .int .u32 c.una, .int .u32 c.nxt, .bool c.fs, .int .i64 c.wnd, .int .u32 c.wl1, .int .u32 c.wl2, .int .u32 c.irs, .int .u32 c.rcv, .int .u32 c.adv] 24) ∧ CellsAt w1 b 0 c.cells ∧ (∀ y, w1.frozen? ⟨b, y, none⟩ = false) ∧ Below w.heap.size w w1 ∧ b < w1.heap.size :=
  ⟨_, _, rfl, rfl, CellsAt.new w c.cells _, fun _ => frozen_new w _ _ _, later_alloc _ _, (CellsAt.new w c.cells _).lt (by rw [Ct.cells_len]; decide)⟩
def synC (c : Ct) (s : Sg) : Ct := { c with irs := s.seq, wl1 := s.seq, rcv := (s.seq + 1) % 4294967296, adv := (s.seq + 1) % 4294967296, wnd := s.wnd }
set_option maxHeartbeats 4000000 in
theorem withSyn_any (c : Ct) (s : Sg) (gv dv : Value) (w : World) : Calls Try.prog 31 #[.agg c.cells.toArray, .agg (s.cells gv dv).toArray] w fun e w' => e = .returned (.agg (synC c s).cells.toArray) ∧ Below w.heap.size w w' := by
  obtain ⟨w1, b1, hs1, hw1, c1, f1, B1, l1⟩ := boxC w c
  obtain ⟨w2, b2, hs2, hw2, c2, f2, B2, l2⟩ := boxS w1 s gv dv
  obtain ⟨w3, b3, hs3, hw3, c3, f3, B3, l3⟩ := boxC w2 zCt
  rw [show (Value.agg c.cells.toArray) = .agg #[.int .i64 c.st, .int .u32 c.iss, .int .u32 c.una, .int .u32 c.nxt, .bool c.fs, .int .i64 c.wnd, .int .u32 c.wl1, .int .u32 c.wl2, .int .u32 c.irs, .int .u32 c.rcv, .int .u32 c.adv] from rfl]
  rw [show (Value.agg (s.cells gv dv).toArray) = .agg #[.int .i64 s.src, .int .i64 s.dst, .int .u32 s.seq, .int .u32 s.ack, .int .i64 s.flg, .int .i64 s.wnd, .int .i64 s.mss, .bool s.sak, gv, dv] from rfl]
  have B23 := later B2 B3
  have c1' : CellsAt w3 b1 0 c.cells := c1.later l1 B23
  have c2' : CellsAt w3 b2 0 (s.cells gv dv) := c2.later l2 B3
  have f1' : ∀ y, w3.frozen? ⟨b1, y, none⟩ = false := fun y => (B23.frozen (p := ⟨b1, y, none⟩) l1).trans (f1 y)
  have n12 : b1 ≠ b2 := by have := l1; omega
  have n13 : b3 ≠ b1 := by have := l1; have := B2.size; omega
  have NB : Hid (w.heap.size ≤ b1 ∧ w.heap.size ≤ b3) := ⟨by omega, by have := B1.size; have := B2.size; omega⟩
  have x2 : w3.cell? ⟨b2, 2, none⟩ = some (.int .u32 s.seq) := c2' 2 _ rfl
  have x5 : w3.cell? ⟨b2, 5, none⟩ = some (.int .i64 s.wnd) := c2' 5 _ rfl
  have y5 : w3.cell? ⟨b1, 5, none⟩ = some (.int .i64 c.wnd) := c1' 5 _ rfl
  have y6 : w3.cell? ⟨b1, 6, none⟩ = some (.int .u32 c.wl1) := c1' 6 _ rfl
  have y8 : w3.cell? ⟨b1, 8, none⟩ = some (.int .u32 c.irs) := c1' 8 _ rfl
  have y9 : w3.cell? ⟨b1, 9, none⟩ = some (.int .u32 c.rcv) := c1' 9 _ rfl
  have y10 : w3.cell? ⟨b1, 10, none⟩ = some (.int .u32 c.adv) := c1' 10 _ rfl
  have g5 := f1' 5
  have g6 := f1' 6
  have g8 := f1' 8
  have g9 := f1' 9
  have g10 := f1' 10
  have hs1' := hs1.symm
  have hs2' := hs2.symm
  have hs3' := hs3.symm
  have hw1' := hw1.symm
  have hw2' := hw2.symm
  have hw3' := hw3.symm
  simp only [zCt] at hw3'
  have C1 := hide c1'
  have HB := hide (later B1 B23)
  clear hs1 hs2 hs3 hw1 hw2 hw3 c1 c2 f1 f2 B1 B2 B3 B23 f1' c1' c2'
  go_enter Try.func31, Try.ntmps31
  go_upto_region 1 with fail
  clear hs1' hs2' hs3' hw1' hw2' hw3'
  go_region
  go_upto_region 2 with fail
  go_region
  obtain ⟨w4, hw4⟩ : ∃ w4, w4 = ((((w3.setCell ⟨b1, 8, none⟩ (.int .u32 s.seq)).setCell ⟨b1, 6, none⟩ (.int .u32 s.seq)).setCell ⟨b1, 9, none⟩ (.int .u32 ((s.seq + 1) % 4294967296))).setCell ⟨b1, 10, none⟩ (.int .u32 ((s.seq + 1) % 4294967296))).drew.drew.setCell ⟨b1, 5, none⟩ (.int .i64 s.wnd) := ⟨_, rfl⟩
  have bo4 : But (Only b1) w3 w4 := by
    rw [hw4]
    exact ((((((But.refl (Only b1) w3).setOf rfl 8 _).setOf rfl 6 _).setOf rfl 9 _).setOf rfl 10 _).drew.drew).setOf rfl 5 _
  obtain ⟨K, hK⟩ : ∃ K, K = (synC c s).cells := ⟨_, rfl⟩
  have LK : Hid (K.length = 11) := by rw [hK]; exact rfl
  have OK : Hid (∀ u ∈ K, u.oneCell' = true) := by rw [hK]; exact ct_one _
  have c4 : CellsAt w4 b1 0 K := by
    rw [hw4, hK]
    have h := ((((C1.out.one (k := 8) (by simp [Ct.cells]) (.int .u32 s.seq)).one (k := 6) (by simp [Ct.cells]) (.int .u32 s.seq)).one (k := 9) (by simp [Ct.cells]) (.int .u32 ((s.seq + 1) % 4294967296))).one (k := 10) (by simp [Ct.cells]) (.int .u32 ((s.seq + 1) % 4294967296)))
    have h2 : CellsAt ((((w3.setCell ⟨b1, 8, none⟩ (.int .u32 s.seq)).setCell ⟨b1, 6, none⟩ (.int .u32 s.seq)).setCell ⟨b1, 9, none⟩ (.int .u32 ((s.seq + 1) % 4294967296))).setCell ⟨b1, 10, none⟩ (.int .u32 ((s.seq + 1) % 4294967296))).drew.drew b1 0 _ := h
    exact h2.one (k := 5) (by simp [Ct.cells]) (.int .i64 s.wnd)
  have l3' : b3 < w4.heap.size := Nat.lt_of_lt_of_le l3 bo4.size
  have c34 : CellsAt w4 b3 0 zCt.cells := c3.but l3 bo4 (fun e => n13 e)
  have f34 : ∀ y, w4.frozen? ⟨b3, y, none⟩ = false := fun y => by
    rw [hw4, World.frozen?_setCell]
    show ((((w3.setCell ⟨b1, 8, none⟩ (.int .u32 s.seq)).setCell ⟨b1, 6, none⟩ (.int .u32 s.seq)).setCell ⟨b1, 9, none⟩ (.int .u32 ((s.seq + 1) % 4294967296))).setCell ⟨b1, 10, none⟩ (.int .u32 ((s.seq + 1) % 4294967296))).frozen? ⟨b3, y, none⟩ = false
    rw [World.frozen?_setCell, World.frozen?_setCell, World.frozen?_setCell, World.frozen?_setCell]
    exact f3 y
  obtain ⟨w5, hw5⟩ : ∃ w5, w5 = w4.setCells b3 0 K := ⟨_, rfl⟩
  have C5 : Hid (CellsAt w5 b3 0 K) := by rw [hw5]; exact c34.stored (by rw [LK.out]; rfl)
  have b45 : But (Only b3) w4 w5 := by rw [hw5]; exact But.cells b3 K 0 w4
  have HB5 : Hid (Below w.heap.size w w5) := by
    have h1 := HB.out.trans (bo4.below HB.out.size (fun g hg e => by have e : g = b1 := e; have := NB.out.1; omega))
    exact h1.trans (b45.below h1.size (fun g hg e => by have e : g = b3 := e; have := NB.out.2; omega))
  have C4 := hide c4
  have C3 := hide c34
  have F3 := hide f34
  have EK := hide hK
  have hw4' := hw4.symm
  have hw5' := hw5.symm
  clear hw4 hw5 bo4 b45 c4 c34 f34 l3' hK C1 HB f3 c3
  go_upto_region 4 with fail
  clear hw4' x2 x5 y5 y6 y8 y9 y10 g5 g6 g8 g9 g10
  go_wp2_with (first | refine wpList_loadA rfl 24 11 aggCt sizCt _ rfl b1 0 rfl K LK.out C4.out ?_ | (refine wpList_storeA rfl 24 11 sizCt _ _ rfl b3 0 rfl K zCt.cells rfl LK.out rfl C3.out F3.out OK.out ?_; intro _; rw [hw5']))
  refine bodyPost_ret (v := .agg K.toArray) (results_A rfl _ _ b3 _ rfl (run_loadVarA 24 11 aggCt sizCt b3 0 _ LK.out C5.out)) rfl ?_
  exact ⟨by rw [EK.out], HB5.out⟩
/-- a connection that has nothing but its own Syn -/
def begC (st f : Int) : Ct := ⟨st, f, f, (f + 1) % 4294967296, false, 0, 0, 0, 0, 0, 0⟩
theorem begun_any (st now : Int) (w : World) : Calls Try.prog 32 #[.int .i64 st, .int .i64 now] w fun e w' => e = .returned (.agg (begC st (fst32 now)).cells.toArray) ∧ Below w.heap.size w w' := by
  obtain ⟨w1, b, hs, hw, c1, f1, B1, l1⟩ := boxC w zCt
  obtain ⟨f, hf⟩ : ∃ f, f = fst32 now := ⟨_, rfl⟩
  obtain ⟨K, hK⟩ : ∃ K, K = (begC st f).cells := ⟨_, rfl⟩
  have LK : Hid (K.length = 11) := by rw [hK]; exact rfl
  have OK : Hid (∀ u ∈ K, u.oneCell' = true) := by rw [hK]; exact ct_one _
  have EK : Hid (Value.agg #[.int .i64 st, .int .u32 f, .int .u32 f, .int .u32 ((f + 1) % 4294967296), .bool false, .int .i64 0, .int .u32 0, .int .u32 0, .int .u32 0, .int .u32 0, .int .u32 0] = .agg K.toArray) := by rw [hK]; exact rfl
  have D := First_any now w1
  rw [← hf] at D ⊢
  have HD := hide D
  obtain ⟨w2, hw2⟩ : ∃ w2, w2 = w1.setCells b 0 K := ⟨_, rfl⟩
  have C2 : Hid (CellsAt w2 b 0 K) := by rw [hw2]; exact c1.stored (by rw [LK.out]; rfl)
  have b2 : But (Only b) w1 w2 := by rw [hw2]; exact But.cells b K 0 w1
  have HB : Hid (Below w.heap.size w w2) := B1.trans (b2.below B1.size (fun g hg e => by have e : g = b := e; omega))
  have HK := hide hK
  have C1 := hide c1
  have F1 := hide f1
  have hs' := hs.symm
  have hw' := hw.symm
  have hw2' := hw2.symm
  simp only [zCt] at hw'
  clear hs hw c1 f1 B1 l1 hf hK D hw2 b2
  go_enter Try.func32, Try.ntmps32
  go_wp2_with fail
  clear hs' hw'
  refine HD.out.mono ?_
  rintro _ w3 ⟨rfl, hw3⟩
  subst hw3
  clear HD
  go_wp2_with (refine wpList_storeA rfl 24 11 sizCt _ _ rfl b 0 rfl K zCt.cells EK.out LK.out rfl C1.out F1.out OK.out ?_; intro _; rw [hw2'])
  refine bodyPost_ret (v := .agg K.toArray) (results_A rfl _ _ b _ rfl (run_loadVarA 24 11 aggCt sizCt b 0 _ LK.out C2.out)) rfl ?_
  exact ⟨by rw [HK.out], HB.out⟩
theorem Active_any (now : Int) (w : World) : Calls Try.prog 16 #[.int .i64 now] w fun e w' => e = .returned (.agg (begC 1 (fst32 now)).cells.toArray) ∧ Below w.heap.size w w' := by
  obtain ⟨w1, b, hs, hw, c1, f1, B1, l1⟩ := boxC w zCt
  obtain ⟨K, hK⟩ : ∃ K, K = (begC 1 (fst32 now)).cells := ⟨_, rfl⟩
  have LK : Hid (K.length = 11) := by rw [hK]; exact rfl
  have OK : Hid (∀ u ∈ K, u.oneCell' = true) := by rw [hK]; exact ct_one _
  have D := begun_any 1 now w1
  rw [← hK] at D ⊢
  have HD := hide D
  have C1 := hide c1
  have F1 := hide f1
  have L1 := hide l1
  have HB1 := hide B1
  have HS := hide hs
  have hs' := hs.symm
  have hw' := hw.symm
  simp only [zCt] at hw'
  clear hs hw c1 f1 B1 l1 hK D
  go_enter Try.func16, Try.ntmps16
  go_wp2_with fail
  clear hs' hw'
  refine HD.out.mono ?_
  rintro _ w2 ⟨rfl, b2⟩
  have C2 := hide (C1.out.later L1.out b2)
  have F2 : Hid (∀ y, w2.frozen? ⟨b, y, none⟩ = false) := fun y => (b2.frozen (p := ⟨b, y, none⟩) L1.out).trans (F1.out y)
  obtain ⟨w3, hw3⟩ : ∃ w3, w3 = w2.setCells b 0 K := ⟨_, rfl⟩
  have C3 : Hid (CellsAt w3 b 0 K) := by rw [hw3]; exact C2.out.stored (by rw [LK.out]; rfl)
  have b3 : But (Only b) w2 w3 := by rw [hw3]; exact But.cells b K 0 w2
  have HB2 := later HB1.out b2
  have HB : Hid (Below w.heap.size w w3) := HB2.trans (b3.below HB2.size (fun g hg e => by have e : g = b := e; have := HS.out; omega))
  have hw3' := hw3.symm
  clear b2 hw3 b3 HB2 HD
  go_wp2_with (refine wpList_storeA rfl 24 11 sizCt _ _ rfl b 0 rfl K zCt.cells rfl LK.out rfl C2.out F2.out OK.out ?_; intro _; rw [hw3'])
  refine bodyPost_ret (v := .agg K.toArray) (results_A rfl _ _ b _ rfl (run_loadVarA 24 11 aggCt sizCt b 0 _ LK.out C3.out)) rfl ?_
  exact ⟨rfl, HB.out⟩
end Go.Proofs.Ytgdcdgofahhfdaa
