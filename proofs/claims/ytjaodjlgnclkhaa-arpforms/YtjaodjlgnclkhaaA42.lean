
/-
  Package arp: the contract of Decode, where there are bytes enough.
-/
import Derived.Test.YtjaodjlgnclkhaaA41
namespace Go.Proofs.Ytjaodjlgnclkhaa
open Go.RowKit Go.Shelf

theorem exec_eqH {o : Oper} {w : World} {ev : Operand → Value} (x y : Operand) (t : TypeId) (p q : H4) (r : Bool) (ho : o.op = .binOp .eql 70 x y t) (hx : ev x = .agg p.vals.toArray) (hy : ev y = .agg q.vals.toArray) (hr : eqH p q = r) : (execOp ev o).run Try.prog w = .ok (.value (.bool r)) w := by
  subst hr
  have EM := eq_head
  unfold execOp
  simp [ho, hx, hy, go_sem, H4.vals, EM]
theorem exec_neH {o : Oper} {w : World} {ev : Operand → Value} (x y : Operand) (t : TypeId) (p q : H4) (r : Bool) (ho : o.op = .binOp .neq 70 x y t) (hx : ev x = .agg p.vals.toArray) (hy : ev y = .agg q.vals.toArray) (hr : (!eqH p q) = r) : (execOp ev o).run Try.prog w = .ok (.value (.bool r)) w := by
  subst hr
  have EM := eq_head
  unfold execOp
  simp [ho, hx, hy, go_sem, H4.vals, EM]
theorem exec_bA1 {o : Oper} {w : World} {ev : Operand → Value} (x : Operand) (b : Bool) (ho : o.op = .build 27 #[(0, x)]) (hx : ev x = .bool b) : (execOp ev o).run Try.prog w = .ok (.value (.agg (Ar.vals ⟨b, zM, zI, zM, zI⟩).toArray)) w := by
  unfold execOp
  rw [ho]
  simp only [List.map_toArray, List.map_cons, List.map_nil, hx]
  kernel_rfl
theorem take6 {bs : List Int} {k : Nat} (h : k + 6 ≤ bs.length) : (macAt bs k).vals = ((bs.drop k).take 6).map (Value.int .u8) := by
  have e : ∀ j, j < 6 → nb bs (k + j) = (bs.drop k)[j]?.getD 0 := fun j _ => by unfold nb; rw [List.getElem?_drop]
  obtain ⟨L, hL⟩ : ∃ L, L = bs.drop k := ⟨_, rfl⟩
  have hl : 6 ≤ L.length := by rw [hL, List.length_drop]; omega
  rw [← hL] at e ⊢
  match L, hl with
  | a :: b :: c :: d :: x :: f :: r, _ =>
    have e0 := e 0 (by omega); have e1 := e 1 (by omega); have e2 := e 2 (by omega); have e3 := e 3 (by omega); have e4 := e 4 (by omega); have e5 := e 5 (by omega)
    simp only [Nat.add_zero] at e0
    simp at e0 e1 e2 e3 e4 e5
    simp [macAt, M6.vals, e0, e1, e2, e3, e4, e5]
theorem take4 {bs : List Int} {k : Nat} (h : k + 4 ≤ bs.length) : (ipAt bs k).vals = ((bs.drop k).take 4).map (Value.int .u8) := by
  have e : ∀ j, j < 4 → nb bs (k + j) = (bs.drop k)[j]?.getD 0 := fun j _ => by unfold nb; rw [List.getElem?_drop]
  obtain ⟨L, hL⟩ : ∃ L, L = bs.drop k := ⟨_, rfl⟩
  have hl : 4 ≤ L.length := by rw [hL, List.length_drop]; omega
  rw [← hL] at e ⊢
  match L, hl with
  | a :: b :: c :: d :: r, _ =>
    have e0 := e 0 (by omega); have e1 := e 1 (by omega); have e2 := e 2 (by omega); have e3 := e 3 (by omega)
    simp only [Nat.add_zero] at e0
    simp at e0 e1 e2 e3
    simp [ipAt, I4.vals, e0, e1, e2, e3]
theorem IsF.drop {A : Nat → Prop} {W : World} {b off n c : Nat} {L : List Int} (h : IsF A W (.slice (some ⟨b, off, none⟩) n c) L) (k : Nat) (hk : k < L.length) : IsF A W (.slice (some ⟨b, off + k, none⟩) (n - k) (c - k)) (L.drop k) := by
  obtain ⟨a2, c', e, hl, hn, hc⟩ := h
  simp only [Value.slice.injEq] at e
  obtain ⟨rfl, rfl, rfl⟩ := e
  obtain ⟨b', off', e, hb, ha, hcs⟩ := hc (by omega)
  cases e
  refine ⟨_, c - k, by rw [List.length_drop], by rw [List.length_drop]; omega, (fun e => by cases e), fun h0 => ⟨b, off + k, rfl, hb, ha, fun j hj => ?_⟩⟩
  simp only [List.length_drop] at hj
  rw [Nat.add_assoc, hcs (k + j) (by omega), List.getElem?_drop]

theorem ar_sm {W : World} {s : Nat} {a : Ar} (h : CellsAt W s 0 a.vals) (m : M6) : CellsAt (W.setCells s 1 m.vals) s 0 (Ar.vals { a with sm := m }) :=
  ar_put (pre := [.bool a.ans]) (old := a.sm.vals) (post := a.si.vals ++ (a.dm.vals ++ a.di.vals)) h rfl rfl
theorem ar_si {W : World} {s : Nat} {a : Ar} (h : CellsAt W s 0 a.vals) (m : I4) : CellsAt (W.setCells s 7 m.vals) s 0 (Ar.vals { a with si := m }) :=
  ar_put (pre := .bool a.ans :: a.sm.vals) (old := a.si.vals) (post := a.dm.vals ++ a.di.vals) h rfl rfl
theorem ar_dm {W : World} {s : Nat} {a : Ar} (h : CellsAt W s 0 a.vals) (m : M6) : CellsAt (W.setCells s 11 m.vals) s 0 (Ar.vals { a with dm := m }) := by
  have := ar_put (W := W) (s := s) (o := 11) (pre := .bool a.ans :: (a.sm.vals ++ a.si.vals)) (old := a.dm.vals) (new := m.vals) (post := a.di.vals) (by simpa [Ar.vals] using h) rfl rfl
  simpa [Ar.vals] using this
theorem ar_di {W : World} {s : Nat} {a : Ar} (h : CellsAt W s 0 a.vals) (m : I4) : CellsAt (W.setCells s 17 m.vals) s 0 (Ar.vals { a with di := m }) := by
  have := ar_put (W := W) (s := s) (o := 17) (pre := .bool a.ans :: (a.sm.vals ++ (a.si.vals ++ a.dm.vals))) (old := a.di.vals) (new := m.vals) (post := []) (by simpa [Ar.vals] using h) rfl rfl
  simpa [Ar.vals] using this

set_option maxRecDepth 100000 in
set_option maxHeartbeats 8000000 in
theorem Decode_long {A : Nat → Prop} {w : World} {v : Value} {bs : List Int} (h : IsF A w v bs) (hB : Bytes bs) (hl : (bs.length : Int) ≤ 4611686018427387904) (h28 : 28 ≤ bs.length) : Calls Try.prog 11 #[v] w (DeEnd w bs) := by
  obtain ⟨gb, off, vc, rfl, hvc⟩ : ∃ gb off vc, v = .slice (some ⟨gb, off, none⟩) bs.length vc ∧ bs.length ≤ vc := by
    obtain ⟨va, vc, e, hl, _, hc⟩ := h
    obtain ⟨b, off, e1, _⟩ := hc (by omega)
    exact ⟨b, off, vc, by rw [e, e1], hl⟩
  obtain ⟨n, hn⟩ : ∃ n, n = bs.length := ⟨_, rfl⟩
  rw [← hn] at h hvc ⊢
  have n28 : (28 : Int) ≤ (n : Int) := by omega
  obtain ⟨s, hs⟩ : ∃ s, s = w.heap.size := ⟨_, rfl⟩
  obtain ⟨W1, hW1⟩ : ∃ W1, W1 = w.alloc (.cells zA.vals.toArray 27) := ⟨_, rfl⟩
  have b1 : Below s w W1 := by rw [hW1, hs]; exact (Below.refl _ _).alloc (Nat.le_refl _) _
  have z1 : W1.heap.size = s + 1 := by rw [hW1, hs]; simp
  have c1 : CellsAt W1 s 0 zA.vals := by rw [hW1, hs]; exact CellsAt.new w _ _
  have f1 : ∀ y, W1.frozen? ⟨s, y, none⟩ = false := fun y => by rw [hW1, hs]; exact frozen_new w _ _ _
  obtain ⟨H, hH⟩ : ∃ H, H = hwV bs := ⟨_, rfl⟩
  have KH := headAt_any (h.later (hs ▸ b1)) hB hl h28
  rw [← hH] at KH
  have KH := hide KH
  simp only [H4.val, H4.vals] at KH
  have HF : Hid (∀ W, Below s w W → IsF A W (.slice (some ⟨gb, off, none⟩) n vc) bs) := fun W hb => h.later (hs ▸ hb)
  have HH := hide hH
  have HN := hide hn
  have H28 := hide h28
  have HVC := hide hvc
  have HBY := hide hB
  have hW1' := hW1.symm
  simp only [zA, zM, zI, Ar.vals, M6.vals, I4.vals, List.cons_append, List.nil_append] at hW1'
  have hs' := hs.symm
  have HS := hide hs
  have C1 := hide c1
  have F1 := hide f1
  have B1 := hide b1
  have Z1 := hide z1
  obtain ⟨R, hR⟩ : ∃ R, R = DeEnd w bs := ⟨_, rfl⟩
  rw [← hR]
  have HR := hide hR
  clear h hB hl h28 hn hvc hW1 hs b1 z1 c1 f1 hH hR
  go_enter Try.func11, Try.ntmps11
  go_wp2_with fail
  clear hW1' hs'
  refine KH.out.mono ?_
  rintro _ w2 ⟨rfl, b2⟩
  obtain ⟨s4, hs4⟩ : ∃ s4, s4 = w2.heap.size := ⟨_, rfl⟩
  obtain ⟨w3, hw3⟩ : ∃ w3, w3 = w2.alloc (.cells #[.int .i64 H.a, .int .i64 H.b, .int .i64 H.c, .int .i64 H.d] 70) := ⟨_, rfl⟩
  have b3 : Below w2.heap.size w2 w3 := by rw [hw3]; exact (Below.refl _ _).alloc (Nat.le_refl _) _
  have z3 : w3.heap.size = s4 + 1 := by rw [hw3, hs4]; simp
  have c4 : CellsAt w3 s4 0 H.vals := by rw [hw3, hs4]; exact CellsAt.new w2 H.vals 70
  have l4 : s < s4 := by have := b2.size; have := Z1.out; omega
  have B3 : Hid (Below s w w3) := (B1.out.trans (b2.mono (by have := Z1.out; omega))).trans (b3.mono (by omega))
  have b13 : Below W1.heap.size W1 w3 := b2.trans (b3.mono b2.size)
  have C3 : Hid (CellsAt w3 s 0 zA.vals) := C1.out.later (by have := Z1.out; omega) b13
  have F3 : Hid (∀ y, w3.frozen? ⟨s, y, none⟩ = false) := fun y => (b13.frozen (p := ⟨s, y, none⟩) (by show s < _; have := Z1.out; omega)).trans (F1.out y)
  have C4 := hide c4
  have Z3 := hide z3
  have L4 := hide l4
  have hw3' := hw3.symm
  have hs4' := hs4.symm
  clear hw3 hs4 b2 b3 z3 c4 l4 b13 KH C1 F1 B1 Z1
  go_wp2_with fail
  clear hw3' hs4'
  obtain ⟨ans, hans⟩ : ∃ ans, ans = eqH H (hdH true) := ⟨_, rfl⟩
  have HANS := hide hans
  obtain ⟨a0, ha0⟩ : ∃ a0 : Ar, a0 = ⟨ans, zM, zI, zM, zI⟩ := ⟨_, rfl⟩
  have HA0 := hide ha0
  clear hans ha0
  go_cut [5] from 12 to 15 (fun v5 wx => ∃ s5 : Nat, v5 = .pointer (some ⟨s5, 0, none⟩) ∧ Hid (DSt w s s4 s5 H a0 wx))
  case first =>
    have bd : Below w3.heap.size w3 w3.drew := (Below.refl _ w3).drew
    have SP : ∀ W, Below w3.heap.size w3 W → CellsAt W s4 0 H.vals := fun W hb => C4.out.later (by have := Z3.out; omega) hb
    have AL : ∀ W, Below w3.heap.size w3 W → Below w3.heap.size w3 (W.alloc (.cells (Ar.vals ⟨false, zM, zI, zM, zI⟩).toArray 27)) := fun W hb => hb.alloc hb.size _
    have LAY : ∀ W s5, Below w3.heap.size w3 W → w3.heap.size ≤ s5 → s5 < W.heap.size → CellsAt W s5 0 zA.vals → (∀ y, W.frozen? ⟨s5, y, none⟩ = false) → DSt w s s4 s5 H a0 (W.setCells s5 0 (Ar.vals ⟨ans, zM, zI, zM, zI⟩)) := fun W s5 hb h1 h2 h3 h4 => by
      have hz := Z3.out
      have hl := L4.out
      have D : DSt w s s4 s5 H zA W := ⟨C3.out.later (by omega) hb, fun y => (hb.frozen (p := ⟨s, y, none⟩) (by show s < _; omega)).trans (F3.out y), SP W hb, h3, h4, ⟨hl, by omega, h2⟩, B3.out.trans (hb.mono (by omega))⟩
      have := D.turn (a' := a0) 0 a0.vals (h3.stored rfl)
      rw [HA0.out] at this ⊢
      exact this
    have CI : ∀ (W : World), Calls Try.prog 24 #[.bool true] W fun e w2 => ∃ v, e = .returned v ∧ (v = (hdH true).val ∧ Below W.heap.size W w2) := fun W => (headOf_any true W).mono (by rintro _ w2 ⟨rfl, b⟩; exact ⟨_, rfl, rfl, b⟩)
    have S0 := SP _ bd
    refine region_out (fun W => CellsAt W s4 0 H.vals) (by kernel_rfl) ?_
    refine takeD (i := 0) (v := .agg (H.vals).toArray) 12 rfl rfl (by kernel_rfl) (by kernel_rfl) (by kernel_rfl) (fun _ _ _ h => h) (.inl ⟨by rfl, fun W hW => exec_loadA 70 4 aggH sizH _ rfl s4 0 rfl (H.vals) rfl (hW)⟩) (S0) ?_
    try simp only [Act.put, List.setIfInBounds_toArray, List.set_cons_zero, List.set_cons_succ]
    refine wpAnyH_all (rs := [1, 4]) (by kernel_rfl) (by simp) (fun q' hq' => ?_)
    rcases List.mem_cons.1 hq' with rfl | hq'
    · skip
      refine opD_call (w' := w3.drew) 1 13 rfl rfl (by rfl) 24 #[.bool true] (by kernel_rfl) _ (CI w3.drew) ?_
      rintro _ wa ⟨rfl, bwa⟩
      have Bwa : Below w3.heap.size w3 wa := bd.trans (bwa.mono bd.size)
      have Swa := SP wa Bwa
      refine ⟨Swa, ?_⟩
      simp only [Act.put, List.setIfInBounds_toArray, List.set_cons_zero, List.set_cons_succ, H4.val]
      refine takeD (i := 2) (v := .bool ans) 14 rfl rfl (by kernel_rfl) (by kernel_rfl) (by kernel_rfl) (fun _ _ _ h => h) (.inl ⟨by rfl, fun W hW => exec_eqH _ _ _ H (hdH true) _ rfl rfl rfl HANS.out.symm⟩) (Swa) ?_
      try simp only [Act.put, List.setIfInBounds_toArray, List.set_cons_zero, List.set_cons_succ]
      refine takeD (i := 3) (v := .agg (Ar.vals ⟨ans, zM, zI, zM, zI⟩).toArray) 15 rfl rfl (by kernel_rfl) (by kernel_rfl) (by kernel_rfl) (fun _ _ _ h => h) (.inl ⟨by rfl, fun W hW => exec_bA1 _ ans rfl rfl⟩) (Swa) ?_
      try simp only [Act.put, List.setIfInBounds_toArray, List.set_cons_zero, List.set_cons_succ]
      obtain ⟨s5, hs5⟩ : ∃ s5, s5 = wa.heap.size := ⟨_, rfl⟩
      obtain ⟨wz, hwz⟩ : ∃ wz, wz = wa.alloc (.cells (Ar.vals ⟨false, zM, zI, zM, zI⟩).toArray 27) := ⟨_, rfl⟩
      have Bwz : Below w3.heap.size w3 wz := by rw [hwz]; exact AL wa Bwa
      have z1 : w3.heap.size ≤ s5 := by have := Bwa.size; omega
      have z2 : s5 < wz.heap.size := by rw [hwz, hs5]; simp
      have cz : CellsAt wz s5 0 zA.vals := by rw [hwz, hs5]; exact CellsAt.new wa _ 27
      have fz : ∀ y, wz.frozen? ⟨s5, y, none⟩ = false := fun y => by rw [hwz, hs5]; exact frozen_new wa _ _ _
      have Swz := SP wz Bwz
      refine nextD (w' := wz) 4 5 (.pointer (some ⟨s5, 0, none⟩)) (by kernel_rfl) rfl rfl (by rfl) (by rw [hwz, hs5]; exact exec_allocA rfl) (Swz) ?_
      try simp only [Act.put, List.setIfInBounds_toArray, List.set_cons_zero, List.set_cons_succ]
      clear hwz hs5
      have FE := LAY wz s5 Bwz z1 z2 cz fz
      refine storeD (w' := wz.setCells s5 0 (Ar.vals ⟨ans, zM, zI, zM, zI⟩)) 5 (by kernel_rfl) rfl rfl (by rfl) (exec_storeA 27 21 sizA _ _ rfl s5 0 rfl _ zA.vals rfl rfl rfl cz fz (ar_one _)) (FE.c4) ?_
      try simp only [Act.put, List.setIfInBounds_toArray, List.set_cons_zero, List.set_cons_succ]
      refine wpAnyH_done (by kernel_rfl) ?_ _
      obtain ⟨wf, hwf⟩ : ∃ wf, wf = wz.setCells s5 0 (Ar.vals ⟨ans, zM, zI, zM, zI⟩) := ⟨_, rfl⟩
      rw [← hwf] at FE ⊢
      have FE1 := hide FE
      clear hwf FE
      go_wp2
      go_meet
      exact ⟨s5, rfl, FE1⟩
    · obtain rfl : q' = 4 := by simpa using hq'
      obtain ⟨s5, hs5⟩ : ∃ s5, s5 = w3.drew.heap.size := ⟨_, rfl⟩
      obtain ⟨wz, hwz⟩ : ∃ wz, wz = w3.drew.alloc (.cells (Ar.vals ⟨false, zM, zI, zM, zI⟩).toArray 27) := ⟨_, rfl⟩
      have Bwz : Below w3.heap.size w3 wz := by rw [hwz]; exact AL w3.drew bd
      have z1 : w3.heap.size ≤ s5 := by have := bd.size; omega
      have z2 : s5 < wz.heap.size := by rw [hwz, hs5]; simp
      have cz : CellsAt wz s5 0 zA.vals := by rw [hwz, hs5]; exact CellsAt.new w3.drew _ 27
      have fz : ∀ y, wz.frozen? ⟨s5, y, none⟩ = false := fun y => by rw [hwz, hs5]; exact frozen_new w3.drew _ _ _
      have Swz := SP wz Bwz
      refine opD_val (w' := wz) 4 5 (.pointer (some ⟨s5, 0, none⟩)) rfl rfl (by rfl) (by rw [hwz, hs5]; exact exec_allocA rfl) ⟨Swz, ?_⟩
      simp only [Act.put, List.setIfInBounds_toArray, List.set_cons_zero, List.set_cons_succ]
      clear hwz hs5
      refine callD (w' := wz) 1 13 (by kernel_rfl) rfl rfl (by rfl) 24 #[.bool true] (by kernel_rfl) _ (CI wz) ?_
      rintro _ wb ⟨rfl, bwb⟩
      have Bwb : Below w3.heap.size w3 wb := Bwz.trans (bwb.mono Bwz.size)
      have Swb := SP wb Bwb
      refine ⟨Swb, ?_⟩
      simp only [Act.put, List.setIfInBounds_toArray, List.set_cons_zero, List.set_cons_succ, H4.val]
      have cz := cz.later z2 bwb
      have fz : ∀ y, wb.frozen? ⟨s5, y, none⟩ = false := fun y => (bwb.frozen (p := ⟨s5, y, none⟩) z2).trans (fz y)
      have z2 : s5 < wb.heap.size := Nat.lt_of_lt_of_le z2 bwb.size
      refine takeD (i := 2) (v := .bool ans) 14 rfl rfl (by kernel_rfl) (by kernel_rfl) (by kernel_rfl) (fun _ _ _ h => h) (.inl ⟨by rfl, fun W hW => exec_eqH _ _ _ H (hdH true) _ rfl rfl rfl HANS.out.symm⟩) (Swb) ?_
      try simp only [Act.put, List.setIfInBounds_toArray, List.set_cons_zero, List.set_cons_succ]
      refine takeD (i := 3) (v := .agg (Ar.vals ⟨ans, zM, zI, zM, zI⟩).toArray) 15 rfl rfl (by kernel_rfl) (by kernel_rfl) (by kernel_rfl) (fun _ _ _ h => h) (.inl ⟨by rfl, fun W hW => exec_bA1 _ ans rfl rfl⟩) (Swb) ?_
      try simp only [Act.put, List.setIfInBounds_toArray, List.set_cons_zero, List.set_cons_succ]
      have FE := LAY wb s5 Bwb z1 z2 cz fz
      refine storeD (w' := wb.setCells s5 0 (Ar.vals ⟨ans, zM, zI, zM, zI⟩)) 5 (by kernel_rfl) rfl rfl (by rfl) (exec_storeA 27 21 sizA _ _ rfl s5 0 rfl _ zA.vals rfl rfl rfl cz fz (ar_one _)) (FE.c4) ?_
      try simp only [Act.put, List.setIfInBounds_toArray, List.set_cons_zero, List.set_cons_succ]
      refine wpAnyH_done (by kernel_rfl) ?_ _
      obtain ⟨wf, hwf⟩ : ∃ wf, wf = wb.setCells s5 0 (Ar.vals ⟨ans, zM, zI, zM, zI⟩) := ⟨_, rfl⟩
      rw [← hwf] at FE ⊢
      have FE1 := hide FE
      clear hwf FE
      go_wp2
      go_meet
      exact ⟨s5, rfl, FE1⟩
  case rest =>
    obtain ⟨s5, rfl, D0⟩ := hcut
    obtain ⟨x0, hx0⟩ : ∃ x0, x0 = wc := ⟨_, rfl⟩
    rw [← hx0] at D0 ⊢
    clear hx0 C3 F3 B3 C4 Z3 L4
    go_wp2_with fail
    obtain ⟨a1, ha1⟩ : ∃ a1 : Ar, a1 = { a0 with sm := macAt bs 8 } := ⟨_, rfl⟩
    have HA1 := hide ha1
    clear ha1
    have D0d : DSt w s s4 s5 H a0 x0.drew := D0.out.later ((Below.refl _ x0).drew)
    have CP1 : (Builtin.copy_ #[28, 28] 3 #[.slice (some ⟨s5, 1, none⟩) 6 6, .slice (some ⟨gb, off + 8, none⟩) (n - 8) (vc - 8)]).run Try.prog x0.drew = .ok (.int .i64 ((6 : Nat) : Int)) (x0.drew.setCells s5 1 (macAt bs 8).vals) :=
      cells_copy ((HF.out _ D0d.b).drop 8 (by have := H28.out; omega)) (by omega) (by rw [List.length_drop]; have := H28.out; omega) (take6 (by have := H28.out; omega)) (ar_cells D0d.c5).2.1 rfl D0d.f5
    have D1 : Hid (DSt w s s4 s5 H a1 (x0.drew.setCells s5 1 (macAt bs 8).vals)) := by
      refine D0d.turn _ _ ?_
      rw [HA1.out]
      exact ar_sm D0d.c5 _
    obtain ⟨x1, hx1⟩ : ∃ x1, x1 = x0.drew.setCells s5 1 (macAt bs 8).vals := ⟨_, rfl⟩
    rw [← hx1] at CP1 D1
    refine region_out (fun _ => True) (by kernel_rfl) ?_
    refine takeD (i := 0) (v := .pointer (some ⟨s5, 1, none⟩)) 16 rfl rfl (by kernel_rfl) (by kernel_rfl) (by kernel_rfl) (fun _ _ _ h => h) (.inl ⟨by rfl, fun W hW => exec_fieldO 27 _ 1 s5 0 1 rfl rfl (fun w => by kernel_rfl)⟩) (trivial) ?_
    try simp only [Act.put, List.setIfInBounds_toArray, List.set_cons_zero, List.set_cons_succ]
    refine takeD (i := 1) (v := .slice (some ⟨s5, 1, none⟩) 6 6) 17 rfl rfl (by kernel_rfl) (by kernel_rfl) (by kernel_rfl) (fun _ _ _ h => h) (.inl ⟨by rfl, fun W hW => exec_slM _ s5 1 rfl rfl⟩) (trivial) ?_
    try simp only [Act.put, List.setIfInBounds_toArray, List.set_cons_zero, List.set_cons_succ]
    refine takeD (i := 2) (v := .slice (some ⟨gb, off, none⟩) n vc) 18 rfl rfl (by kernel_rfl) (by kernel_rfl) (by kernel_rfl) (fun _ _ _ h => h) (.inl ⟨by rfl, fun W hW => exec_move _ _ rfl rfl⟩) (trivial) ?_
    try simp only [Act.put, List.setIfInBounds_toArray, List.set_cons_zero, List.set_cons_succ]
    refine takeD (i := 3) (v := .slice (some ⟨gb, off + 8, none⟩) (n - 8) (vc - 8)) 19 rfl rfl (by kernel_rfl) (by kernel_rfl) (by kernel_rfl) (fun _ _ _ h => h) (.inl ⟨by rfl, fun W hW => exec_slB _ _ gb off n vc 8 rfl rfl rfl (by have := HN.out; have := H28.out; omega) HVC.out⟩) (trivial) ?_
    try simp only [Act.put, List.setIfInBounds_toArray, List.set_cons_zero, List.set_cons_succ]
    refine nextD (w' := x1) 4 20 (.int .i64 ((6 : Nat) : Int)) (by kernel_rfl) rfl rfl (by rfl) (exec_copy _ _ _ _ rfl _ _ rfl rfl _ rfl CP1) (trivial) ?_
    try simp only [Act.put, List.setIfInBounds_toArray, List.set_cons_zero, List.set_cons_succ]
    refine wpAnyH_done (by kernel_rfl) ?_ _
    rw [show (((6 : Nat) : Int)) = 6 from rfl]
    clear CP1 D0d D0 hx1
    go_wp2_with fail
    obtain ⟨a2, ha2⟩ : ∃ a2 : Ar, a2 = { a1 with si := ipAt bs 14 } := ⟨_, rfl⟩
    have HA2 := hide ha2
    clear ha2
    have D1d : DSt w s s4 s5 H a1 x1.drew := D1.out.later ((Below.refl _ x1).drew)
    have CP2 : (Builtin.copy_ #[28, 28] 3 #[.slice (some ⟨s5, 7, none⟩) 4 4, .slice (some ⟨gb, off + 14, none⟩) (n - 14) (vc - 14)]).run Try.prog x1.drew = .ok (.int .i64 ((4 : Nat) : Int)) (x1.drew.setCells s5 7 (ipAt bs 14).vals) :=
      cells_copy ((HF.out _ D1d.b).drop 14 (by have := H28.out; omega)) (by omega) (by rw [List.length_drop]; have := H28.out; omega) (take4 (by have := H28.out; omega)) (ar_cells D1d.c5).2.2.1 rfl D1d.f5
    have D2 : Hid (DSt w s s4 s5 H a2 (x1.drew.setCells s5 7 (ipAt bs 14).vals)) := by
      refine D1d.turn _ _ ?_
      rw [HA2.out]
      exact ar_si D1d.c5 _
    obtain ⟨x2, hx2⟩ : ∃ x2, x2 = x1.drew.setCells s5 7 (ipAt bs 14).vals := ⟨_, rfl⟩
    rw [← hx2] at CP2 D2
    refine region_out (fun _ => True) (by kernel_rfl) ?_
    refine takeD (i := 0) (v := .pointer (some ⟨s5, 7, none⟩)) 21 rfl rfl (by kernel_rfl) (by kernel_rfl) (by kernel_rfl) (fun _ _ _ h => h) (.inl ⟨by rfl, fun W hW => exec_fieldO 27 _ 2 s5 0 7 rfl rfl (fun w => by kernel_rfl)⟩) (trivial) ?_
    try simp only [Act.put, List.setIfInBounds_toArray, List.set_cons_zero, List.set_cons_succ]
    refine takeD (i := 1) (v := .slice (some ⟨s5, 7, none⟩) 4 4) 22 rfl rfl (by kernel_rfl) (by kernel_rfl) (by kernel_rfl) (fun _ _ _ h => h) (.inl ⟨by rfl, fun W hW => exec_slI _ s5 7 rfl rfl⟩) (trivial) ?_
    try simp only [Act.put, List.setIfInBounds_toArray, List.set_cons_zero, List.set_cons_succ]
    refine takeD (i := 2) (v := .slice (some ⟨gb, off, none⟩) n vc) 23 rfl rfl (by kernel_rfl) (by kernel_rfl) (by kernel_rfl) (fun _ _ _ h => h) (.inl ⟨by rfl, fun W hW => exec_move _ _ rfl rfl⟩) (trivial) ?_
    try simp only [Act.put, List.setIfInBounds_toArray, List.set_cons_zero, List.set_cons_succ]
    refine takeD (i := 3) (v := .slice (some ⟨gb, off + 14, none⟩) (n - 14) (vc - 14)) 24 rfl rfl (by kernel_rfl) (by kernel_rfl) (by kernel_rfl) (fun _ _ _ h => h) (.inl ⟨by rfl, fun W hW => exec_slB _ _ gb off n vc 14 rfl rfl rfl (by have := HN.out; have := H28.out; omega) HVC.out⟩) (trivial) ?_
    try simp only [Act.put, List.setIfInBounds_toArray, List.set_cons_zero, List.set_cons_succ]
    refine nextD (w' := x2) 4 25 (.int .i64 ((4 : Nat) : Int)) (by kernel_rfl) rfl rfl (by rfl) (exec_copy _ _ _ _ rfl _ _ rfl rfl _ rfl CP2) (trivial) ?_
    try simp only [Act.put, List.setIfInBounds_toArray, List.set_cons_zero, List.set_cons_succ]
    refine wpAnyH_done (by kernel_rfl) ?_ _
    rw [show (((4 : Nat) : Int)) = 4 from rfl]
    clear CP2 D1d D1 hx2
    go_wp2_with fail
    obtain ⟨a3, ha3⟩ : ∃ a3 : Ar, a3 = { a2 with dm := macAt bs 18 } := ⟨_, rfl⟩
    have HA3 := hide ha3
    clear ha3
    have D2d : DSt w s s4 s5 H a2 x2.drew := D2.out.later ((Below.refl _ x2).drew)
    have CP3 : (Builtin.copy_ #[28, 28] 3 #[.slice (some ⟨s5, 11, none⟩) 6 6, .slice (some ⟨gb, off + 18, none⟩) (n - 18) (vc - 18)]).run Try.prog x2.drew = .ok (.int .i64 ((6 : Nat) : Int)) (x2.drew.setCells s5 11 (macAt bs 18).vals) :=
      cells_copy ((HF.out _ D2d.b).drop 18 (by have := H28.out; omega)) (by omega) (by rw [List.length_drop]; have := H28.out; omega) (take6 (by have := H28.out; omega)) (ar_cells D2d.c5).2.2.2.1 rfl D2d.f5
    have D3 : Hid (DSt w s s4 s5 H a3 (x2.drew.setCells s5 11 (macAt bs 18).vals)) := by
      refine D2d.turn _ _ ?_
      rw [HA3.out]
      exact ar_dm D2d.c5 _
    obtain ⟨x3, hx3⟩ : ∃ x3, x3 = x2.drew.setCells s5 11 (macAt bs 18).vals := ⟨_, rfl⟩
    rw [← hx3] at CP3 D3
    refine region_out (fun _ => True) (by kernel_rfl) ?_
    refine takeD (i := 0) (v := .pointer (some ⟨s5, 11, none⟩)) 26 rfl rfl (by kernel_rfl) (by kernel_rfl) (by kernel_rfl) (fun _ _ _ h => h) (.inl ⟨by rfl, fun W hW => exec_fieldO 27 _ 3 s5 0 11 rfl rfl (fun w => by kernel_rfl)⟩) (trivial) ?_
    try simp only [Act.put, List.setIfInBounds_toArray, List.set_cons_zero, List.set_cons_succ]
    refine takeD (i := 1) (v := .slice (some ⟨s5, 11, none⟩) 6 6) 27 rfl rfl (by kernel_rfl) (by kernel_rfl) (by kernel_rfl) (fun _ _ _ h => h) (.inl ⟨by rfl, fun W hW => exec_slM _ s5 11 rfl rfl⟩) (trivial) ?_
    try simp only [Act.put, List.setIfInBounds_toArray, List.set_cons_zero, List.set_cons_succ]
    refine takeD (i := 2) (v := .slice (some ⟨gb, off, none⟩) n vc) 28 rfl rfl (by kernel_rfl) (by kernel_rfl) (by kernel_rfl) (fun _ _ _ h => h) (.inl ⟨by rfl, fun W hW => exec_move _ _ rfl rfl⟩) (trivial) ?_
    try simp only [Act.put, List.setIfInBounds_toArray, List.set_cons_zero, List.set_cons_succ]
    refine takeD (i := 3) (v := .slice (some ⟨gb, off + 18, none⟩) (n - 18) (vc - 18)) 29 rfl rfl (by kernel_rfl) (by kernel_rfl) (by kernel_rfl) (fun _ _ _ h => h) (.inl ⟨by rfl, fun W hW => exec_slB _ _ gb off n vc 18 rfl rfl rfl (by have := HN.out; have := H28.out; omega) HVC.out⟩) (trivial) ?_
    try simp only [Act.put, List.setIfInBounds_toArray, List.set_cons_zero, List.set_cons_succ]
    refine nextD (w' := x3) 4 30 (.int .i64 ((6 : Nat) : Int)) (by kernel_rfl) rfl rfl (by rfl) (exec_copy _ _ _ _ rfl _ _ rfl rfl _ rfl CP3) (trivial) ?_
    try simp only [Act.put, List.setIfInBounds_toArray, List.set_cons_zero, List.set_cons_succ]
    refine wpAnyH_done (by kernel_rfl) ?_ _
    rw [show (((6 : Nat) : Int)) = 6 from rfl]
    clear CP3 D2d D2 hx3
    go_wp2_with fail
    obtain ⟨a4, ha4⟩ : ∃ a4 : Ar, a4 = { a3 with di := ipAt bs 24 } := ⟨_, rfl⟩
    have HA4 := hide ha4
    clear ha4
    have D3d : DSt w s s4 s5 H a3 x3.drew := D3.out.later ((Below.refl _ x3).drew)
    have CP4 : (Builtin.copy_ #[28, 28] 3 #[.slice (some ⟨s5, 17, none⟩) 4 4, .slice (some ⟨gb, off + 24, none⟩) (n - 24) (vc - 24)]).run Try.prog x3.drew = .ok (.int .i64 ((4 : Nat) : Int)) (x3.drew.setCells s5 17 (ipAt bs 24).vals) :=
      cells_copy ((HF.out _ D3d.b).drop 24 (by have := H28.out; omega)) (by omega) (by rw [List.length_drop]; have := H28.out; omega) (take4 (by have := H28.out; omega)) (ar_cells D3d.c5).2.2.2.2 rfl D3d.f5
    have D4 : Hid (DSt w s s4 s5 H a4 (x3.drew.setCells s5 17 (ipAt bs 24).vals)) := by
      refine D3d.turn _ _ ?_
      rw [HA4.out]
      exact ar_di D3d.c5 _
    obtain ⟨x4, hx4⟩ : ∃ x4, x4 = x3.drew.setCells s5 17 (ipAt bs 24).vals := ⟨_, rfl⟩
    rw [← hx4] at CP4 D4
    refine region_out (fun _ => True) (by kernel_rfl) ?_
    refine takeD (i := 0) (v := .pointer (some ⟨s5, 17, none⟩)) 31 rfl rfl (by kernel_rfl) (by kernel_rfl) (by kernel_rfl) (fun _ _ _ h => h) (.inl ⟨by rfl, fun W hW => exec_fieldO 27 _ 4 s5 0 17 rfl rfl (fun w => by kernel_rfl)⟩) (trivial) ?_
    try simp only [Act.put, List.setIfInBounds_toArray, List.set_cons_zero, List.set_cons_succ]
    refine takeD (i := 1) (v := .slice (some ⟨s5, 17, none⟩) 4 4) 32 rfl rfl (by kernel_rfl) (by kernel_rfl) (by kernel_rfl) (fun _ _ _ h => h) (.inl ⟨by rfl, fun W hW => exec_slI _ s5 17 rfl rfl⟩) (trivial) ?_
    try simp only [Act.put, List.setIfInBounds_toArray, List.set_cons_zero, List.set_cons_succ]
    refine takeD (i := 2) (v := .slice (some ⟨gb, off, none⟩) n vc) 33 rfl rfl (by kernel_rfl) (by kernel_rfl) (by kernel_rfl) (fun _ _ _ h => h) (.inl ⟨by rfl, fun W hW => exec_move _ _ rfl rfl⟩) (trivial) ?_
    try simp only [Act.put, List.setIfInBounds_toArray, List.set_cons_zero, List.set_cons_succ]
    refine takeD (i := 3) (v := .slice (some ⟨gb, off + 24, none⟩) (n - 24) (vc - 24)) 34 rfl rfl (by kernel_rfl) (by kernel_rfl) (by kernel_rfl) (fun _ _ _ h => h) (.inl ⟨by rfl, fun W hW => exec_slB _ _ gb off n vc 24 rfl rfl rfl (by have := HN.out; have := H28.out; omega) HVC.out⟩) (trivial) ?_
    try simp only [Act.put, List.setIfInBounds_toArray, List.set_cons_zero, List.set_cons_succ]
    refine nextD (w' := x4) 4 35 (.int .i64 ((4 : Nat) : Int)) (by kernel_rfl) rfl rfl (by rfl) (exec_copy _ _ _ _ rfl _ _ rfl rfl _ rfl CP4) (trivial) ?_
    try simp only [Act.put, List.setIfInBounds_toArray, List.set_cons_zero, List.set_cons_succ]
    refine wpAnyH_done (by kernel_rfl) ?_ _
    rw [show (((4 : Nat) : Int)) = 4 from rfl]
    clear CP4 D3d D3 hx4
    go_upto_region 9 with fail
    obtain ⟨od, hod⟩ : ∃ od, od = decide (nb bs 8 % 2 = 1) := ⟨_, rfl⟩
    obtain ⟨ok, hok⟩ : ∃ ok, ok = eqH H (hdH ans) := ⟨_, rfl⟩
    have EA : Hid (a4 = deA bs) := by unfold Hid deA hOk; rw [HA4.out, HA3.out, HA2.out, HA1.out, HA0.out, HANS.out, HH.out]
    have EE : Hid (deE bs = if ok = true ∧ od = false then 0 else 4) := by
      have h28 := H28.out
      unfold Hid deE hOk
      rw [if_neg (by omega), ← HH.out, ← HANS.out, ← hok, hod]
      by_cases e : nb bs 8 % 2 = 1 <;> simp [e]
    have HOD := hide hod
    have HOKK := hide hok
    have a0b := nb_bd HBY.out 8
    have S4 : Hid (a4.ans = ans ∧ a4.sm = macAt bs 8) := by unfold Hid; rw [HA4.out, HA3.out, HA2.out, HA1.out, HA0.out]; exact ⟨rfl, rfl⟩
    clear hod hok
    go_cut [45] from 36 to 44 (fun v45 wx => v45 = .bool (!ok || od) ∧ Hid (DSt w s s4 s5 H a4 wx))
    case first =>
      have D4d : DSt w s s4 s5 H a4 x4.drew := D4.out.later ((Below.refl _ x4).drew)
      have bd : Below x4.heap.size x4 x4.drew := (Below.refl _ x4).drew
      have SP : ∀ W, Below x4.heap.size x4 W → CellsAt W s4 0 H.vals ∧ CellsAt W s5 0 a4.vals := fun W hb => ⟨(D4.out.later hb).c4, (D4.out.later hb).c5⟩
      have P1 : ∀ W, CellsAt W s5 0 a4.vals → W.cell? ⟨s5, 0, none⟩ = some (.bool ans) ∧ CellsAt W s5 1 (macAt bs 8).vals := fun W h => by
        have := ar_cells h
        rw [S4.out.1, S4.out.2] at this
        exact ⟨this.1, this.2.1⟩
      have S0 := SP _ bd
      have CI : ∀ (W : World), Calls Try.prog 24 #[.bool ans] W fun e w2 => ∃ v, e = .returned v ∧ (v = (hdH ans).val ∧ Below W.heap.size W w2) := fun W => (headOf_any ans W).mono (by rintro _ w2 ⟨rfl, b⟩; exact ⟨_, rfl, rfl, b⟩)
      refine region_out (fun W => CellsAt W s4 0 H.vals ∧ CellsAt W s5 0 a4.vals) (by kernel_rfl) ?_
      refine takeD (i := 0) (v := .agg (H.vals).toArray) 36 rfl rfl (by kernel_rfl) (by kernel_rfl) (by kernel_rfl) (fun _ _ _ h => h) (.inl ⟨by rfl, fun W hW => exec_loadA 70 4 aggH sizH _ rfl s4 0 rfl (H.vals) rfl (hW.1)⟩) (S0) ?_
      try simp only [Act.put, List.setIfInBounds_toArray, List.set_cons_zero, List.set_cons_succ]
      refine takeD (i := 1) (v := .pointer (some ⟨s5, 0, none⟩)) 37 rfl rfl (by kernel_rfl) (by kernel_rfl) (by kernel_rfl) (fun _ _ _ h => h) (.inl ⟨by rfl, fun W hW => exec_fieldO 27 _ 0 s5 0 0 rfl rfl (fun w => by kernel_rfl)⟩) (S0) ?_
      try simp only [Act.put, List.setIfInBounds_toArray, List.set_cons_zero, List.set_cons_succ]
      refine takeD (i := 2) (v := .bool ans) 38 rfl rfl (by kernel_rfl) (by kernel_rfl) (by kernel_rfl) (fun _ _ _ h => h) (.inl ⟨by rfl, fun W hW => exec_load1 4 oneB _ rfl s5 0 rfl (.bool ans) ((P1 W hW.2).1)⟩) (S0) ?_
      try simp only [Act.put, List.setIfInBounds_toArray, List.set_cons_zero, List.set_cons_succ]
      refine callD (w' := x4.drew) 3 39 (by kernel_rfl) rfl rfl (by rfl) 24 #[.bool ans] (by kernel_rfl) _ (CI x4.drew) ?_
      rintro _ wa ⟨rfl, bwa⟩
      have Bwa : Below x4.heap.size x4 wa := bd.trans (bwa.mono bd.size)
      have Swa := SP wa Bwa
      refine ⟨Swa, ?_⟩
      simp only [Act.put, List.setIfInBounds_toArray, List.set_cons_zero, List.set_cons_succ, H4.val]
      refine takeD (i := 4) (v := .bool (!ok)) 40 rfl rfl (by kernel_rfl) (by kernel_rfl) (by kernel_rfl) (fun _ _ _ h => h) (.inl ⟨by rfl, fun W hW => exec_neH _ _ _ H (hdH ans) _ rfl rfl rfl (by rw [HOKK.out])⟩) (Swa) ?_
      try simp only [Act.put, List.setIfInBounds_toArray, List.set_cons_zero, List.set_cons_succ]
      refine takeD (i := 5) (v := .bool (!ok)) 41 rfl rfl (by kernel_rfl) (by kernel_rfl) (by kernel_rfl) (fun _ _ _ h => h) (.inl ⟨by rfl, fun W hW => exec_move _ _ rfl rfl⟩) (Swa) ?_
      try simp only [Act.put, List.setIfInBounds_toArray, List.set_cons_zero, List.set_cons_succ]
      cases ok with
      | false =>
        refine takeD (i := 6) (v := undef) 42 rfl rfl (by kernel_rfl) (by kernel_rfl) (by kernel_rfl) (fun _ _ _ h => h) (.inr ⟨by rfl, rfl⟩) (Swa) ?_
        try simp only [Act.put, List.setIfInBounds_toArray, List.set_cons_zero, List.set_cons_succ]
        refine takeD (i := 7) (v := undef) 43 rfl rfl (by kernel_rfl) (by kernel_rfl) (by kernel_rfl) (fun _ _ _ h => h) (.inr ⟨by rfl, rfl⟩) (Swa) ?_
        try simp only [Act.put, List.setIfInBounds_toArray, List.set_cons_zero, List.set_cons_succ]
        refine takeD (i := 8) (v := undef) 44 rfl rfl (by kernel_rfl) (by kernel_rfl) (by kernel_rfl) (fun _ _ _ h => h) (.inr ⟨by rfl, rfl⟩) (Swa) ?_
        try simp only [Act.put, List.setIfInBounds_toArray, List.set_cons_zero, List.set_cons_succ]
        refine takeD (i := 9) (v := .bool true) 45 rfl rfl (by kernel_rfl) (by kernel_rfl) (by kernel_rfl) (fun _ _ _ h => h) (.inl ⟨by rfl, fun W hW => exec_pick _ _ _ true _ rfl rfl rfl⟩) (Swa) ?_
        try simp only [Act.put, List.setIfInBounds_toArray, List.set_cons_zero, List.set_cons_succ]
        refine wpAnyH_done (by kernel_rfl) ?_ _
        have DF := hide (D4.out.later Bwa)
        clear D4 D4d
        go_wp2
        go_meet
        exact ⟨rfl, DF⟩
      | true =>
        refine takeD (i := 6) (v := .pointer (some ⟨s5, 1, none⟩)) 42 rfl rfl (by kernel_rfl) (by kernel_rfl) (by kernel_rfl) (fun _ _ _ h => h) (.inl ⟨by rfl, fun W hW => exec_fieldO 27 _ 1 s5 0 1 rfl rfl (fun w => by kernel_rfl)⟩) (Swa) ?_
        try simp only [Act.put, List.setIfInBounds_toArray, List.set_cons_zero, List.set_cons_succ]
        refine takeD (i := 7) (v := .agg ((macAt bs 8).vals).toArray) 43 rfl rfl (by kernel_rfl) (by kernel_rfl) (by kernel_rfl) (fun _ _ _ h => h) (.inl ⟨by rfl, fun W hW => exec_loadA 23 6 aggM sizM _ rfl s5 1 rfl ((macAt bs 8).vals) rfl ((P1 W hW.2).2)⟩) (Swa) ?_
        try simp only [Act.put, List.setIfInBounds_toArray, List.set_cons_zero, List.set_cons_succ]
        have CJ := (isOfMany_any (macAt bs 8) wa a0b.1 a0b.2).mono (R' := fun e w2 => ∃ v, e = .returned v ∧ (v = .bool od ∧ Below wa.heap.size wa w2)) (by rintro _ w2 ⟨rfl, b⟩; exact ⟨_, rfl, by rw [HOD.out]; rfl, b⟩)
        refine callD (w' := wa) 8 44 (by kernel_rfl) rfl rfl (by rfl) 23 #[(macAt bs 8).val] (by kernel_rfl) _ CJ ?_
        rintro _ wb ⟨rfl, bwb⟩
        have Bwb : Below x4.heap.size x4 wb := Bwa.trans (bwb.mono Bwa.size)
        have Swb := SP wb Bwb
        refine ⟨Swb, ?_⟩
        simp only [Act.put, List.setIfInBounds_toArray, List.set_cons_zero, List.set_cons_succ]
        refine takeD (i := 9) (v := .bool od) 45 rfl rfl (by kernel_rfl) (by kernel_rfl) (by kernel_rfl) (fun _ _ _ h => h) (.inl ⟨by rfl, fun W hW => exec_pick _ _ _ false _ rfl rfl rfl⟩) (Swb) ?_
        try simp only [Act.put, List.setIfInBounds_toArray, List.set_cons_zero, List.set_cons_succ]
        refine wpAnyH_done (by kernel_rfl) ?_ _
        have DF := hide (D4.out.later Bwb)
        clear D4 D4d
        go_wp2
        go_meet
        exact ⟨rfl, DF⟩
    case rest =>
      obtain ⟨rfl, DF⟩ := hcut
      obtain ⟨x5, hx5⟩ : ∃ x5, x5 = wc := ⟨_, rfl⟩
      rw [← hx5] at DF ⊢
      clear hx5 D4
      have CZ := hide DF.out.cz
      have FZ := hide DF.out.fz
      have C5 := hide DF.out.c5
      have FIN : ∀ a : Ar, Hid (Below s w (x5.setCells s 0 a.vals)) ∧ Hid (CellsAt (x5.setCells s 0 a.vals) s 0 a.vals) := fun a => by
        have hl := DF.out.lt
        have bo := But.cells s a.vals 0 x5
        exact ⟨DF.out.b.trans (bo.below (by omega) (fun g hg e => by have e : g = s := e; omega)), DF.out.cz.stored rfl⟩
      obtain ⟨FB, FC⟩ := FIN zA
      obtain ⟨GB, GC⟩ := FIN a4
      clear FIN DF
      cases hb : (!ok || od) with
      | true =>
        have E4 : deE bs = 4 := by
          rw [EE.out, if_neg]
          intro e
          rw [e.1, e.2] at hb
          cases hb
        have FE := hide (DeEnd.no (w := w) (by decide) E4 (by rw [← HS.out]; exact FB.out))
        rw [← HR.out] at FE
        clear hb E4 EE a0b
        go_wp2_with (refine wpList_storeA rfl 27 21 sizA _ _ rfl s 0 rfl zA.vals zA.vals rfl rfl rfl CZ.out FZ.out (ar_one _) (fun _ => ?_))
        refine bodyPost_ret (v := .tuple #[zA.val, .int .i64 4]) ?_ rfl FE.out
        exact results_2 rfl _ _ s _ _ rfl rfl (run_loadVarA 27 21 aggA sizA s 0 _ rfl FC.out)
      | false =>
        have E0 : deE bs = 0 := by
          rw [EE.out, if_pos]
          revert hb
          cases ok <;> cases od <;> simp
        have FE : Hid (R (.returned (.tuple #[a4.val, .int .i64 0])) (x5.setCells s 0 a4.vals)) := by
          unfold Hid
          rw [HR.out]
          refine ⟨?_, by rw [← HS.out]; exact GB.out⟩
          unfold deR
          rw [E0, if_pos rfl, EA.out]
        clear hb E0 EE a0b
        go_wp2_with (first | refine wpList_loadA rfl 27 21 aggA sizA _ rfl s5 0 rfl a4.vals rfl C5.out ?_ | refine wpList_storeA rfl 27 21 sizA _ _ rfl s 0 rfl a4.vals zA.vals rfl rfl rfl CZ.out FZ.out (ar_one _) (fun _ => ?_))
        refine bodyPost_ret (v := .tuple #[a4.val, .int .i64 0]) ?_ rfl FE.out
        exact results_2 rfl _ _ s _ _ rfl rfl (run_loadVarA 27 21 aggA sizA s 0 _ rfl GC.out)
theorem Decode_any {A : Nat → Prop} {w : World} {v : Value} {bs : List Int} (h : IsF A w v bs) (hB : Bytes bs) (hl : (bs.length : Int) ≤ 4611686018427387904) : Calls Try.prog 11 #[v] w (DeEnd w bs) := by
  by_cases h28 : bs.length < 28
  · exact Decode_short h h28
  · exact Decode_long h hB hl (by omega)
end Go.Proofs.Ytjaodjlgnclkhaa
