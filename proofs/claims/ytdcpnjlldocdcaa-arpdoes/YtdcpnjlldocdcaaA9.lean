
/-
  Package arp: the contracts of Announce and of makeRoom's function value.
-/
import Derived.Test.YtdcpnjlldocdcaaA8
namespace Go.Proofs.Ytdcpnjlldocdcaa
open Go.RowKit

set_option maxHeartbeats 1000000 in
/-- has this neighbour the address that lies at s? -/
theorem room1_any {w : World} (x : Nb) (v : Value) (s : Nat) (ip : I4) (h : CellsAt w s 0 ip.vals) :
    Calls Try.prog 48 #[.agg (x.cells v).toArray, .pointer (some ⟨s, 0, none⟩)] w fun e w' => e = .returned (.bool (eqI x.ip ip)) ∧ Below w.heap.size w w' := by
  obtain ⟨⟨a0, a1, a2, a3⟩, st, ⟨m0, m1, m2, m3, m4, m5⟩, si, ak, tr, pd⟩ := x
  obtain ⟨i0, i1, i2, i3⟩ := ip
  have hlt := h.lt (by simp [I4.vals])
  have c0 := h 0 _ rfl
  have c1 := h 1 _ rfl
  have c2 := h 2 _ rfl
  have c3 := h 3 _ rfl
  simp only [Nat.zero_add] at c0 c1 c2 c3
  clear h
  have EM := eq_ip
  simp only [Nb.cells, I4.vals, M6.vals, List.cons_append, List.nil_append]
  go_enter Try.func48, Try.ntmps48
  go_wp2
  go_ret
  exact ⟨rfl, (Below.refl _ w).alloc (Nat.le_refl _) _⟩

set_option maxHeartbeats 1000000 in
theorem Announce_any {w : World} (b : Nat) (m : M6) (i : I4) (h : CellsAt w b 0 (m.vals ++ i.vals)) :
    Calls Try.prog 17 #[.pointer (some ⟨b, 0, none⟩)] w fun e w' => e = .returned (Ar.val ⟨false, m, i, zM, i⟩) ∧ Below w.heap.size w w' := by
  have hlt := h.lt (by simp [M6.vals])
  obtain ⟨i0, i1, i2, i3⟩ := i
  obtain ⟨r, hr⟩ : ∃ r : Ar, r = ⟨false, m, ⟨i0, i1, i2, i3⟩, zM, ⟨i0, i1, i2, i3⟩⟩ := ⟨_, rfl⟩
  obtain ⟨z, hz⟩ : ∃ z : Ar, z = ⟨false, zM, zI, zM, zI⟩ := ⟨_, rfl⟩
  obtain ⟨s, hs⟩ : ∃ s, s = w.heap.size := ⟨_, rfl⟩
  obtain ⟨w1, hw1⟩ : ∃ w1, w1 = w.alloc (.cells z.vals.toArray 27) := ⟨_, rfl⟩
  have hb : Below w.heap.size w w1 := by rw [hw1]; exact (Below.refl _ w).alloc (Nat.le_refl _) _
  have cb := h.later hlt hb
  have cz : CellsAt w1 s 0 z.vals := by rw [hw1, hs]; exact CellsAt.new w z.vals 27
  have fz : ∀ j, w1.frozen? ⟨s, j, none⟩ = false := fun j => by rw [hw1, hs]; exact frozen_new w z.vals.toArray 27 j
  have RQ := hide (request_any b m ⟨i0, i1, i2, i3⟩ ⟨i0, i1, i2, i3⟩ cb)
  rw [← hr] at RQ ⊢
  have ci := (CellsAt.append.1 cb).2
  have c6 : w1.cell? ⟨b, 6, none⟩ = some (.int .u8 i0) := ci 0 _ rfl
  have c7 : w1.cell? ⟨b, 7, none⟩ = some (.int .u8 i1) := ci 1 _ rfl
  have c8 : w1.cell? ⟨b, 8, none⟩ = some (.int .u8 i2) := ci 2 _ rfl
  have c9 : w1.cell? ⟨b, 9, none⟩ = some (.int .u8 i3) := ci 3 _ rfl
  have HC := hide (And.intro cz fz)
  have HB := hide hb
  clear cb ci h cz fz hb
  rw [hz] at hw1
  simp only [Ar.vals, zM, zI, M6.vals, I4.vals, List.cons_append, List.nil_append] at hw1
  go_enter Try.func17, Try.ntmps17
  go_upto_region 1 with fail
  rw [← hw1, ← hs]
  have HS := hide hs
  have HZ := hide hz
  clear hw1 hs hz
  go_wp2_with fail
  simp only [I4.val] at RQ
  refine RQ.out.mono ?_
  rintro e w2 ⟨rfl, b2⟩
  have c2 := HC.out.1.later (HC.out.1.lt (by simp [Ar.vals])) b2
  have f2 : ∀ j, w2.frozen? ⟨s, j, none⟩ = false := fun j => (b2.frozen (p := ⟨s, j, none⟩) (HC.out.1.lt (by simp [Ar.vals]))).trans (HC.out.2 j)
  have h1 : ∀ u ∈ r.vals, u.oneCell' = true := by
    intro u hu
    simp only [Ar.vals, M6.vals, I4.vals, List.cons_append, List.nil_append, List.mem_cons, List.not_mem_nil, or_false] at hu
    rcases hu with rfl | rfl | rfl | rfl | rfl | rfl | rfl | rfl | rfl | rfl | rfl | rfl | rfl | rfl | rfl | rfl | rfl | rfl | rfl | rfl | rfl <;> rfl
  have LR : r.vals.length = 21 := rfl
  have LZ : z.vals.length = 21 := rfl
  have cE := c2.stored (vs := r.vals) (LR.trans LZ.symm)
  have bE : Below w.heap.size w (w2.setCells s 0 r.vals) := ((HB.out).trans (Below.mono b2 HB.out.size)).trans ((But.cells s _ 0 w2).below (Nat.le_trans HB.out.size b2.size) (fun g hg e => by have e : g = s := e; have := HS.out; omega))
  rename_i K hK
  refine hK _ _ ?_
  refine wpList_storeA rfl 27 21 sizA _ _ rfl s 0 rfl r.vals z.vals rfl LR LZ c2 f2 h1 (fun _ => ?_)
  clear c2 f2 c6 c7 c8 c9
  go_wp2
  refine bodyPost_ret (v := Ar.val r) ?_ rfl ⟨rfl, bE⟩
  exact results_A rfl _ _ s _ rfl (run_loadVarA 27 21 aggA sizA s 0 _ LR cE)
end Go.Proofs.Ytdcpnjlldocdcaa
