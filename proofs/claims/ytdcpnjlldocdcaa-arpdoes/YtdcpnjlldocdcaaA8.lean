
/-
  Package arp: the contracts of New and answerTo.
-/
import Derived.Test.YtdcpnjlldocdcaaA7
namespace Go.Proofs.Ytdcpnjlldocdcaa
open Go.RowKit

/-- a new cache: one block more than its two addresses' -/
theorem New_any (m : M6) (i : I4) (w : World) :
    Calls Try.prog 13 #[m.val, i.val] w fun e w' => e = .returned (.pointer (some ⟨w.heap.size + 2, 0, none⟩)) ∧ Below w.heap.size w w' ∧ w.heap.size + 2 < w'.heap.size ∧ CellsAt w' (w.heap.size + 2) 0 (m.vals ++ (i.vals ++ [.slice none 0 0])) ∧ ∀ j, w'.frozen? ⟨w.heap.size + 2, j, none⟩ = false := by
  obtain ⟨m0, m1, m2, m3, m4, m5⟩ := m
  obtain ⟨i0, i1, i2, i3⟩ := i
  simp only [M6.val, I4.val]
  go_enter Try.func13, Try.ntmps13
  go_wp2
  go_ret
  have h3 := CellsAt.new ((w.alloc (.cells #[.int .u8 m0, .int .u8 m1, .int .u8 m2, .int .u8 m3, .int .u8 m4, .int .u8 m5] 23)).alloc (.cells #[.int .u8 i0, .int .u8 i1, .int .u8 i2, .int .u8 i3] 25)) (M6.vals ⟨m0, m1, m2, m3, m4, m5⟩ ++ (I4.vals ⟨i0, i1, i2, i3⟩ ++ [.slice none 0 0])) 75
  have f3 := frozen_new ((w.alloc (.cells #[.int .u8 m0, .int .u8 m1, .int .u8 m2, .int .u8 m3, .int .u8 m4, .int .u8 m5] 23)).alloc (.cells #[.int .u8 i0, .int .u8 i1, .int .u8 i2, .int .u8 i3] 25)) (M6.vals ⟨m0, m1, m2, m3, m4, m5⟩ ++ (I4.vals ⟨i0, i1, i2, i3⟩ ++ [Value.slice none 0 0])).toArray 75
  simp only [World.size_alloc] at h3 f3
  exact ⟨rfl, (((Below.refl _ w).alloc (Nat.le_refl _) _).alloc (by simp) _).alloc (by simp; omega) _, by simp, h3, f3⟩

/-- whose the blocks are when cache k has been made at b -/
theorem CAt.new {ρ : Nat → Role} {k : Nat} (hk : 0 < k) {W : World} {b : Nat} {m : M6} {i : I4} (hr : ρ b = (k, 0, 0)) (hc : CellsAt W b 0 (m.vals ++ (i.vals ++ [.slice none 0 0]))) (hf : ∀ j, W.frozen? ⟨b, j, none⟩ = false) : CAt ρ k W b m i (.slice none 0 0) [] :=
  ⟨hr, hk, hc, hf, ⟨none, 0, rfl, Nat.le_refl _, Nat.zero_le _, fun _ => rfl, fun ad e => by cases e⟩, List.nodup_nil⟩
theorem exec_build5 {o : Oper} {w : World} {ev : Operand → Value} (c x y u z : Operand) (m0 m1 m2 m3 m4 m5 i0 i1 i2 i3 n0 n1 n2 n3 n4 n5 p0 p1 p2 p3 : Int) (ho : o.op = .build 27 #[(0, c), (1, x), (2, y), (3, u), (4, z)]) (hc : ev c = .bool true) (hx : ev x = .agg #[.int .u8 m0, .int .u8 m1, .int .u8 m2, .int .u8 m3, .int .u8 m4, .int .u8 m5]) (hy : ev y = .agg #[.int .u8 i0, .int .u8 i1, .int .u8 i2, .int .u8 i3]) (hu : ev u = .agg #[.int .u8 n0, .int .u8 n1, .int .u8 n2, .int .u8 n3, .int .u8 n4, .int .u8 n5]) (hz : ev z = .agg #[.int .u8 p0, .int .u8 p1, .int .u8 p2, .int .u8 p3]) :
    (execOp ev o).run Try.prog w = .ok (.value (Ar.val ⟨true, ⟨m0, m1, m2, m3, m4, m5⟩, ⟨i0, i1, i2, i3⟩, ⟨n0, n1, n2, n3, n4, n5⟩, ⟨p0, p1, p2, p3⟩⟩)) w := by
  unfold execOp
  rw [ho]
  simp only [List.map_toArray, List.map_cons, List.map_nil, hc, hx, hy, hu, hz]
  kernel_rfl
theorem faA1 (b : Nat) (w : World) : (Instr.fieldAt 27 (.pointer (some ⟨b, 0, none⟩)) 1).run Try.prog w = .ok (.pointer (some ⟨b, 1, none⟩)) w := by kernel_rfl
theorem faA2 (b : Nat) (w : World) : (Instr.fieldAt 27 (.pointer (some ⟨b, 0, none⟩)) 2).run Try.prog w = .ok (.pointer (some ⟨b, 7, none⟩)) w := by kernel_rfl

set_option maxHeartbeats 1000000 in
theorem answerTo_any {w : World} (b : Nat) (m : M6) (i : I4) (x : Ar) (h : CellsAt w b 0 (m.vals ++ i.vals)) :
    Calls Try.prog 39 #[.pointer (some ⟨b, 0, none⟩), x.val] w fun e w' => e = .returned (Ar.val ⟨true, m, i, x.sm, x.si⟩) ∧ Below w.heap.size w w' := by
  have hlt := h.lt (by simp [M6.vals])
  obtain ⟨r, hr⟩ : ∃ r : Ar, r = ⟨true, m, i, x.sm, x.si⟩ := ⟨_, rfl⟩
  rw [← hr]
  obtain ⟨z, hz⟩ : ∃ z : Ar, z = ⟨false, zM, zI, zM, zI⟩ := ⟨_, rfl⟩
  obtain ⟨s, hs⟩ : ∃ s, s = w.heap.size := ⟨_, rfl⟩
  obtain ⟨w1, hw1⟩ : ∃ w1, w1 = (w.alloc (.cells x.vals.toArray 27)).alloc (.cells z.vals.toArray 27) := ⟨_, rfl⟩
  have hb : Below w.heap.size w w1 := by rw [hw1]; exact ((Below.refl _ w).alloc (Nat.le_refl _) _).alloc (by simp) _
  have cb : CellsAt w1 b 0 (m.vals ++ i.vals) := h.later hlt hb
  have ci : CellsAt w1 s 0 x.vals := by
    rw [hw1, hs]
    exact (CellsAt.new w x.vals 27).but (by simp) ((But.refl (fun _ => False) _).alloc _) id
  have cz : CellsAt w1 (s + 1) 0 z.vals := by
    have := CellsAt.new (w.alloc (.cells x.vals.toArray 27)) z.vals 27
    rw [← hw1, World.size_alloc, ← hs] at this
    exact this
  have fz : ∀ j, w1.frozen? ⟨s + 1, j, none⟩ = false := fun j => by
    have := frozen_new (w.alloc (.cells x.vals.toArray 27)) z.vals.toArray 27 j
    rw [← hw1, World.size_alloc, ← hs] at this
    exact this
  have cs : CellsAt w1 s 1 x.sm.vals ∧ CellsAt w1 s 7 x.si.vals := by
    have h1 : CellsAt w1 s 0 ([.bool x.ans] ++ (x.sm.vals ++ (x.si.vals ++ (x.dm.vals ++ x.di.vals)))) := ci
    have h2 := (CellsAt.append.1 h1).2
    have h3 := CellsAt.append.1 h2
    exact ⟨h3.1, (CellsAt.append.1 h3.2).1⟩
  rw [show x.val = .agg #[.bool x.ans, .int .u8 x.sm.a, .int .u8 x.sm.b, .int .u8 x.sm.c, .int .u8 x.sm.d, .int .u8 x.sm.e, .int .u8 x.sm.f, .int .u8 x.si.a, .int .u8 x.si.b, .int .u8 x.si.c, .int .u8 x.si.d, .int .u8 x.dm.a, .int .u8 x.dm.b, .int .u8 x.dm.c, .int .u8 x.dm.d, .int .u8 x.dm.e, .int .u8 x.dm.f, .int .u8 x.di.a, .int .u8 x.di.b, .int .u8 x.di.c, .int .u8 x.di.d] from rfl]
  go_enter Try.func39, Try.ntmps39
  go_wp2_with fail
  rw [hz] at hw1
  simp only [Ar.vals, zM, zI, M6.vals, I4.vals, List.cons_append, List.nil_append] at hw1
  rw [← hw1, ← hs]
  have h0 : CellsAt w1.drew b 0 (m.vals ++ i.vals) ∧ CellsAt w1.drew s 1 x.sm.vals ∧ CellsAt w1.drew s 7 x.si.vals := ⟨cb, cs⟩
  have h1 : CellsAt w1.drew (s + 1) 0 z.vals ∧ ∀ j, w1.drew.frozen? ⟨s + 1, j, none⟩ = false := ⟨cz, fz⟩
  clear cb ci cz fz hw1 cs
  refine wp_region_held (S := fun W => CellsAt W b 0 (m.vals ++ i.vals) ∧ CellsAt W s 1 x.sm.vals ∧ CellsAt W s 7 x.si.vals) (by kernel_rfl) ?_
  refine takeD (i := 0) (v := (.pointer (some ⟨b, 0, none⟩))) 5 rfl rfl (by kernel_rfl) (by kernel_rfl) (by kernel_rfl) (fun _ _ _ h => h) (.inl ⟨by rfl, (fun W _ => exec_move _ _ rfl rfl)⟩) h0 ?_
  try simp only [Act.put, List.setIfInBounds_toArray, List.set_cons_zero, List.set_cons_succ]
  refine takeD (i := 1) (v := (.pointer (some ⟨b, 0, none⟩))) 6 rfl rfl (by kernel_rfl) (by kernel_rfl) (by kernel_rfl) (fun _ _ _ h => h) (.inl ⟨by rfl, (fun W _ => exec_nil _ _ rfl rfl)⟩) h0 ?_
  try simp only [Act.put, List.setIfInBounds_toArray, List.set_cons_zero, List.set_cons_succ]
  refine takeD (i := 2) (v := (.pointer (some ⟨b, 0, none⟩))) 7 rfl rfl (by kernel_rfl) (by kernel_rfl) (by kernel_rfl) (fun _ _ _ h => h) (.inl ⟨by rfl, (fun W _ => exec_field _ _ _ _ _ rfl rfl (fa0 b))⟩) h0 ?_
  try simp only [Act.put, List.setIfInBounds_toArray, List.set_cons_zero, List.set_cons_succ]
  refine takeD (i := 3) (v := (.agg m.vals.toArray)) 8 rfl rfl (by kernel_rfl) (by kernel_rfl) (by kernel_rfl) (fun _ _ _ h => h) (.inl ⟨by rfl, (fun W hW => exec_loadA 23 6 aggM sizM _ rfl b 0 rfl _ rfl (CellsAt.append.1 hW.1).1)⟩) h0 ?_
  try simp only [Act.put, List.setIfInBounds_toArray, List.set_cons_zero, List.set_cons_succ]
  refine takeD (i := 4) (v := (.pointer (some ⟨b, 0, none⟩))) 9 rfl rfl (by kernel_rfl) (by kernel_rfl) (by kernel_rfl) (fun _ _ _ h => h) (.inl ⟨by rfl, (fun W _ => exec_move _ _ rfl rfl)⟩) h0 ?_
  try simp only [Act.put, List.setIfInBounds_toArray, List.set_cons_zero, List.set_cons_succ]
  refine takeD (i := 5) (v := (.pointer (some ⟨b, 0, none⟩))) 10 rfl rfl (by kernel_rfl) (by kernel_rfl) (by kernel_rfl) (fun _ _ _ h => h) (.inl ⟨by rfl, (fun W _ => exec_nil _ _ rfl rfl)⟩) h0 ?_
  try simp only [Act.put, List.setIfInBounds_toArray, List.set_cons_zero, List.set_cons_succ]
  refine takeD (i := 6) (v := (.pointer (some ⟨b, 6, none⟩))) 11 rfl rfl (by kernel_rfl) (by kernel_rfl) (by kernel_rfl) (fun _ _ _ h => h) (.inl ⟨by rfl, (fun W _ => exec_field _ _ _ _ _ rfl rfl (fa1 b))⟩) h0 ?_
  try simp only [Act.put, List.setIfInBounds_toArray, List.set_cons_zero, List.set_cons_succ]
  refine takeD (i := 7) (v := (.agg i.vals.toArray)) 12 rfl rfl (by kernel_rfl) (by kernel_rfl) (by kernel_rfl) (fun _ _ _ h => h) (.inl ⟨by rfl, (fun W hW => exec_loadA 25 4 aggI sizI _ rfl b 6 rfl _ rfl (CellsAt.append.1 hW.1).2)⟩) h0 ?_
  try simp only [Act.put, List.setIfInBounds_toArray, List.set_cons_zero, List.set_cons_succ]
  refine takeD (i := 8) (v := (.pointer (some ⟨s, 1, none⟩))) 13 rfl rfl (by kernel_rfl) (by kernel_rfl) (by kernel_rfl) (fun _ _ _ h => h) (.inl ⟨by rfl, (fun W _ => exec_field _ _ _ _ _ rfl rfl (faA1 s))⟩) h0 ?_
  try simp only [Act.put, List.setIfInBounds_toArray, List.set_cons_zero, List.set_cons_succ]
  refine takeD (i := 9) (v := (.agg x.sm.vals.toArray)) 14 rfl rfl (by kernel_rfl) (by kernel_rfl) (by kernel_rfl) (fun _ _ _ h => h) (.inl ⟨by rfl, (fun W hW => exec_loadA 23 6 aggM sizM _ rfl s 1 rfl _ rfl hW.2.1)⟩) h0 ?_
  try simp only [Act.put, List.setIfInBounds_toArray, List.set_cons_zero, List.set_cons_succ]
  refine takeD (i := 10) (v := (.pointer (some ⟨s, 7, none⟩))) 15 rfl rfl (by kernel_rfl) (by kernel_rfl) (by kernel_rfl) (fun _ _ _ h => h) (.inl ⟨by rfl, (fun W _ => exec_field _ _ _ _ _ rfl rfl (faA2 s))⟩) h0 ?_
  try simp only [Act.put, List.setIfInBounds_toArray, List.set_cons_zero, List.set_cons_succ]
  refine takeD (i := 11) (v := (.agg x.si.vals.toArray)) 16 rfl rfl (by kernel_rfl) (by kernel_rfl) (by kernel_rfl) (fun _ _ _ h => h) (.inl ⟨by rfl, (fun W hW => exec_loadA 25 4 aggI sizI _ rfl s 7 rfl _ rfl hW.2.2)⟩) h0 ?_
  try simp only [Act.put, List.setIfInBounds_toArray, List.set_cons_zero, List.set_cons_succ]
  have ER : Ar.val ⟨true, m, i, x.sm, x.si⟩ = r.val := by rw [hr]
  refine takeD (i := 12) (v := (Ar.val ⟨true, m, i, x.sm, x.si⟩)) 17 rfl rfl (by kernel_rfl) (by kernel_rfl) (by kernel_rfl) (fun _ _ _ h => h) (.inl ⟨by rfl, (fun W hW => exec_build5 _ _ _ _ _ _ _ _ _ _ _ _ _ _ _ _ _ _ _ _ _ _ _ _ _ rfl rfl rfl rfl rfl rfl)⟩) h0 ?_
  try simp only [Act.put, List.setIfInBounds_toArray, List.set_cons_zero, List.set_cons_succ]
  have cE := h1.1.stored (vs := Ar.vals ⟨true, m, i, x.sm, x.si⟩) rfl
  have bE : Below w.heap.size w (w1.drew.setCells (s + 1) 0 (Ar.vals ⟨true, m, i, x.sm, x.si⟩)) := (hb.drew).trans ((But.cells (s + 1) _ 0 w1.drew).below (by have : w1.drew.heap.size = w1.heap.size := rfl; rw [this]; exact hb.size) (fun g hg e => by have e : g = s + 1 := e; omega))
  refine lastD 13 (w' := w1.drew.setCells (s + 1) 0 (Ar.vals ⟨true, m, i, x.sm, x.si⟩)) (by kernel_rfl) rfl rfl rfl (exec_storeA 27 21 sizA _ _ rfl (s + 1) 0 rfl _ z.vals rfl rfl rfl h1.1 h1.2 ?_) ?_ (by kernel_rfl) ?_
  · intro u hu
    simp only [Ar.vals, M6.vals, I4.vals, List.cons_append, List.nil_append, List.mem_cons, List.not_mem_nil, or_false] at hu
    rcases hu with rfl | rfl | rfl | rfl | rfl | rfl | rfl | rfl | rfl | rfl | rfl | rfl | rfl | rfl | rfl | rfl | rfl | rfl | rfl | rfl | rfl <;> rfl
  · have bO := But.cells (s + 1) (Ar.vals ⟨true, m, i, x.sm, x.si⟩) 0 w1.drew
    have ns : ¬ Only (s + 1) s := fun e => by have e : s = s + 1 := e; omega
    exact ⟨h0.1.but (h0.1.lt (by simp [M6.vals])) bO (fun e => by have e : b = s + 1 := e; omega), h0.2.1.but (h0.2.1.lt (by simp [M6.vals])) bO ns, h0.2.2.but (h0.2.2.lt (by simp [I4.vals])) bO ns⟩
  · go_wp2
    rw [← ER]
    refine bodyPost_ret (v := Ar.val ⟨true, m, i, x.sm, x.si⟩) ?_ rfl ⟨rfl, bE⟩
    exact results_A rfl _ _ (s + 1) _ rfl (run_loadVarA 27 21 aggA sizA (s + 1) 0 _ rfl cE)
end Go.Proofs.Ytdcpnjlldocdcaa
