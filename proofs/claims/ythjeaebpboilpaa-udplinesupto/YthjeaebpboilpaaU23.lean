
/-
  Package udp: Bufs of a line.
-/
import Derived.Test.YthjeaebpboilpaaU22
namespace Go.Proofs.Ythjeaebpboilpaa
open Go.RowKit Go.Shelf

theorem take_moreD {α : Type} {L : List α} {k : Nat} {r : α} (h : L[k]? = some r) : L.take (k + 1) = L.take k ++ [r] := by
  rw [List.take_add_one, h]
  rfl
def bfs (M : List Dg) : List Int := M.flatMap (·.B)
theorem bfs_len {M : List Dg} {c : Nat} (h : ∀ m ∈ M, m.B.length ≤ c) : (bfs M).length ≤ M.length * c := by
  induction M with
  | nil => simp [bfs]
  | cons d M ih =>
    have h1 := h d (by simp)
    have h2 := ih (fun m hm => h m (by simp [hm]))
    simp only [bfs, List.flatMap_cons, List.length_append, List.length_cons, Nat.add_mul, Nat.one_mul] at h2 ⊢
    omega
set_option maxRecDepth 100000 in
set_option maxHeartbeats 4000000 in
theorem uBufs_any {w : World} {b : Nat} {LR LC : Nat → Prop} {M : List Dg} (h : LnAt w b LR LC M) : Calls Try.prog 23 #[.pointer (some ⟨b, 0, none⟩)] w fun e w' => ∃ v, e = .returned v ∧ RowN (fun g => w.heap.size ≤ g) w' v (bfs M) ∧ Below w.heap.size w w' := by
  obtain ⟨v, cv, rv⟩ := h.row
  obtain ⟨va, vc, rfl⟩ := rv.shape
  obtain ⟨m, hm⟩ : ∃ m, m = M.length := ⟨_, rfl⟩
  have m4 : m ≤ 4 := by rw [hm]; exact h.len
  have mz : (m : Int) ≤ 4 := by omega
  rw [← hm] at cv rv
  have GA : Hid (0 < m → ∃ ga, va = some ⟨ga, 0, none⟩ ∧ ga < w.heap.size ∧ ∀ j, j < m → CellsAt w ga (j * 7) (dgc M j)) := fun e => by
    obtain ⟨g, h1, h2, h3, h4, h5⟩ := rv.at e
    exact ⟨g, h1, h2, h5⟩
  have HM := hide hm
  have HH := hide h
  clear h rv hm
  go_enter Try.func23, Try.ntmps23
  go_wp2
  go_loopw [3, 12] (fun vb vi wr => ∃ (i : Nat) (ba : Option Addr) (bn bc : Nat), vb = .slice ba bn bc ∧ vi = .int .i64 (i : Int) ∧ i ≤ m ∧ Hid (RowN (fun g => w.heap.size ≤ g) wr (.slice ba bn bc) (bfs (M.take i))) ∧ Hid (bn = (bfs (M.take i)).length) ∧ Hid (Below w.heap.size w wr)) (fun _ vi _ => m - (intOf vi).toNat)
  case atStart => exact ⟨0, none, 0, 0, rfl, rfl, Nat.zero_le _, RowN.nil _ _, rfl, Below.refl _ _⟩
  case round =>
    obtain ⟨i, ba, bn, bc, rfl, rfl, hi, RI, BN, BI⟩ := hrel
    by_cases hlt : i < m
    · obtain ⟨ga, rfl, gl, hgc⟩ := GA.out (by omega)
      obtain ⟨x, hx⟩ : ∃ x, M[i]? = some x := ⟨_, List.getElem?_eq_getElem (by rw [← HM.out]; exact hlt)⟩
      obtain ⟨X, hX⟩ : ∃ X, X = x.cells := ⟨_, rfl⟩
      have LX : Hid (X.length = 7) := by rw [hX]; exact rfl
      have xok := HH.out.con x (List.mem_of_getElem? hx)
      have OX : Hid (∀ u ∈ X, u.oneCell' = true) := by rw [hX]; exact xok.one
      have CX : Hid (CellsAt wr ga (i * 7) X) := by rw [hX, ← dgc_at hx]; exact (hgc i hlt).later gl BI.out
      obtain ⟨w3, w4, s4, hs4, hw3, hw4, C3, C4, b4⟩ : ∃ w3 w4 s4, s4 = wr.heap.size ∧ w3 = wr.alloc (.cells #[.int .u8 0, .int .u8 0, .int .u8 0, .int .u8 0, .int .i64 0, .slice none 0 0, .slice none 0 0] 57) ∧ w4 = w3.setCells s4 0 X ∧ (CellsAt w3 s4 0 zD.cells ∧ (∀ y, w3.frozen? ⟨s4, y, none⟩ = false)) ∧ CellsAt w4 s4 0 X ∧ Below wr.heap.size wr w4 := by
        refine ⟨_, _, _, rfl, rfl, rfl, ⟨CellsAt.new wr zD.cells _, fun y => frozen_new wr _ _ _⟩, (CellsAt.new wr zD.cells _).stored (by rw [LX.out]; rfl), (later_alloc _ _).trans ((But.cells wr.heap.size X 0 _).below (by simp) (fun g hg e => by have e : g = wr.heap.size := e; omega))⟩
      have c6 : w4.cell? ⟨s4, 6, none⟩ = some x.bv := C4 6 x.bv (by rw [hX]; rfl)
      obtain ⟨xb, hxb⟩ : ∃ xb, xb = x.bv := ⟨_, rfl⟩
      have r4 := RI.out.later b4
      have y4 : CI LC w4 x.bv x.B := (xok.b.later BI.out).later b4
      have l1 : (bfs (M.take i)).length ≤ 40000000 := by
        have h1 := bfs_len (M := M.take i) (c := 10000000) (fun q hq => (HH.out.con q (List.mem_of_mem_take hq)).lb)
        have h2 : (M.take i).length ≤ 4 := by rw [List.length_take]; omega
        have := Nat.mul_le_mul_right 10000000 h2
        omega
      obtain ⟨a', c', w5, hrun, r5, b5⟩ := appI_run r4 y4 (by have := xok.lb; omega)
      rw [← BN.out] at hrun r5
      obtain ⟨n', hn'⟩ : ∃ n', n' = bn + x.B.length := ⟨_, rfl⟩
      rw [← hn', ← hxb] at hrun
      rw [← hn'] at r5
      rw [← hxb] at c6
      have E5' : bfs (M.take (i + 1)) = bfs (M.take i) ++ x.B := by
        rw [take_moreD hx]
        simp [bfs]
      have E5 := hide E5'
      have BI5 : Hid (Below w.heap.size w w5) := (later BI.out b4).trans (b5.below (later BI.out b4).size (fun g hg e => by have e : w.heap.size ≤ g := e; omega))
      have R5 : Hid (RowN (fun g => w.heap.size ≤ g) w5 (.slice a' n' c') (bfs (M.take (i + 1)))) := by
        rw [E5.out]
        exact r5.own (fun g hg e => by
          rcases e with e | e
          · exact e
          · have := (later BI.out b4).size; exact Nat.le_trans this e.1)
      have N5 : Hid (n' = (bfs (M.take (i + 1))).length) := by rw [E5.out, List.length_append, ← BN.out]; exact hn'
      have iz : (i : Int) < (m : Int) := by omega
      have HRUN := hide hrun
      have HC3 := hide C3
      have hs4' := hs4.symm
      have hw3' := hw3.symm
      have hw4' := hw4.symm
      clear E5' hrun r5 b5 r4 y4 hn' hxb l1 xok hX hgc C3 C4 b4 hs4 hw3 hw4 hx
      go_upto_region 5 with (first | refine wpList_loadA rfl 57 7 aggDg sizDg _ rfl ga (i * 7) rfl X LX.out CX.out ?_ | (refine wpList_storeA rfl 57 7 sizDg _ _ rfl s4 0 rfl X zD.cells rfl LX.out rfl HC3.out.1 HC3.out.2 OX.out ?_; intro _; rw [hw4']))
      clear hw3' hw4' hs4'
      go_upto_region 6 with (at_builtin; refine wpList_appJ rfl _ _ rfl rfl _ _ rfl rfl HRUN.out ?_)
      clear c6
      go_wp2
      go_roundw
      case rel => exact ⟨i + 1, a', n', c', rfl, by go_num, by omega, R5.out, N5.out, BI5.out⟩
      case measure => simp [intOf]; omega
    · have ei : M.take i = M := by rw [List.take_of_length_le (by rw [← HM.out]; omega)]
      have iz : ¬ (i : Int) < (m : Int) := by omega
      rw [ei] at RI
      clear ei BN
      go_wp2
      go_ret
      exact ⟨_, rfl, RI.out, BI.out⟩
end Go.Proofs.Ythjeaebpboilpaa
