
/-
  Package udp: Push of a line.
-/
import Derived.Test.YthjeaebpboilpaaU20
namespace Go.Proofs.Ythjeaebpboilpaa
open Go.RowKit Go.Shelf

set_option maxRecDepth 100000 in
set_option maxHeartbeats 4000000 in
theorem uPush_full {w : World} {b : Nat} {LR LC : Nat → Prop} {M : List Dg} (h : LnAt w b LR LC M) (hl : M.length = 4) (d : Dg) : Calls Try.prog 21 #[.pointer (some ⟨b, 0, none⟩), .agg d.cells.toArray] w fun e w' => e = .returned (.int .i64 6) ∧ Below w.heap.size w w' := by
  rw [show (Value.agg d.cells.toArray) = .agg #[.int .u8 d.src.a, .int .u8 d.src.b, .int .u8 d.src.c, .int .u8 d.src.d, .int .i64 d.port, d.dv, d.bv] from rfl]
  obtain ⟨w1, hw1⟩ : ∃ w1, w1 = w.alloc (.cells #[.int .u8 d.src.a, .int .u8 d.src.b, .int .u8 d.src.c, .int .u8 d.src.d, .int .i64 d.port, d.dv, d.bv] 57) := ⟨_, rfl⟩
  have b1 : Below w.heap.size w w1 := by rw [hw1]; exact (Below.refl _ w).alloc (Nat.le_refl _) _
  obtain ⟨v, cv, rv⟩ := (h.later b1).row
  obtain ⟨va, vc, rfl⟩ := rv.shape
  rw [hl] at cv
  have LEN := hide (uLen_any w1 b va 4 vc cv)
  have B1 := hide b1
  have hw1' := hw1.symm
  clear h rv cv hl hw1 b1
  go_enter Try.func21, Try.ntmps21
  go_wp2_with fail
  refine LEN.out.mono ?_
  rintro _ wx ⟨rfl, rfl⟩
  clear hw1' LEN
  go_wp2
  go_ret
  exact ⟨rfl, B1.out⟩
set_option maxRecDepth 100000 in
set_option maxHeartbeats 4000000 in
theorem uPush_any {w : World} {b : Nat} {LR LC P : Nat → Prop} {M : List Dg} (h : LnAt w b LR LC M) (hl : M.length < 4) (d : Dg) (hd : d.Ok P w) : Calls Try.prog 21 #[.pointer (some ⟨b, 0, none⟩), .agg d.cells.toArray] w fun e w' => ∃ d' LR' LC', e = .returned (.int .i64 0) ∧ (d'.src = d.src ∧ d'.port = d.port ∧ d'.D = d.D ∧ d'.B = d.B) ∧ LnAt w' b LR' LC' (M ++ [d']) ∧ But (fun g => g = b ∨ LR g) w w' ∧ (∀ g, LR' g → LR g ∨ w.heap.size ≤ g) ∧ (∀ g, LC' g → LC g ∨ w.heap.size ≤ g) := by
  rw [show (Value.agg d.cells.toArray) = .agg #[.int .u8 d.src.a, .int .u8 d.src.b, .int .u8 d.src.c, .int .u8 d.src.d, .int .i64 d.port, d.dv, d.bv] from rfl]
  obtain ⟨s, hs⟩ : ∃ s, s = w.heap.size := ⟨_, rfl⟩
  obtain ⟨V, hV⟩ : ∃ V, V = d.cells := ⟨_, rfl⟩
  obtain ⟨w1, hw1⟩ : ∃ w1, w1 = w.alloc (.cells V.toArray 57) := ⟨_, rfl⟩
  have b1 : Below w.heap.size w w1 := by rw [hw1]; exact (Below.refl _ w).alloc (Nat.le_refl _) _
  have c1 : CellsAt w1 s 0 V := by rw [hw1, hs]; exact CellsAt.new w V 57
  have f1 : ∀ y, w1.frozen? ⟨s, y, none⟩ = false := by rw [hw1, hs]; exact fun y => frozen_new w _ _ _
  have lV : V.length = 7 := by rw [hV]; rfl
  have ls : s < w1.heap.size := c1.lt (by omega)
  have H1 := h.later b1
  obtain ⟨v, cv, rv⟩ := H1.row
  obtain ⟨va, vc, rfl⟩ := rv.shape
  obtain ⟨k, hk⟩ : ∃ k, k = M.length := ⟨_, rfl⟩
  rw [← hk] at cv hl
  have LEN := hide (uLen_any w1 b va k vc cv)
  have kz : ¬ (k : Int) = 4 := by omega
  have S5 : Hid (∀ W, Below w1.heap.size w1 W → W.cell? ⟨s, 5, none⟩ = some d.dv) := fun W hW => by
    have := (c1.later ls hW) 5 d.dv (by rw [hV]; rfl)
    exact this
  have S6 : Hid (∀ W, Below w1.heap.size w1 W → W.cell? ⟨s, 6, none⟩ = some d.bv) := fun W hW => by
    have := (c1.later ls hW) 6 d.bv (by rw [hV]; rfl)
    exact this
  have CL1 := hide (cloneB_any (P := P) ((hd.d.later b1).later (later_drew w1)) (by have := hd.ld; omega))
  have HB : Hid (CI P w1 d.bv d.B) := hd.b.later b1
  have LB : Hid (d.B.length ≤ 10000000) := hd.lb
  have LD : Hid (d.D.length ≤ 10000000) := hd.ld
  have hw1' : w.alloc (.cells #[.int .u8 d.src.a, .int .u8 d.src.b, .int .u8 d.src.c, .int .u8 d.src.d, .int .i64 d.port, d.dv, d.bv] 57) = w1 := by rw [hw1, hV]; rfl
  have hs' := hs.symm
  have HS := hide hs
  have HV := hide hV
  have LV := hide lV
  have C1 := hide c1
  have F1 := hide f1
  have B1 := hide b1
  have HH := hide h
  have HK := hide hk
  clear h hd rv H1 hk hV hw1 hs lV c1 f1 cv b1
  go_enter Try.func21, Try.ntmps21
  go_wp2_with fail
  refine LEN.out.mono ?_
  rintro _ wx ⟨rfl, rfl⟩
  clear hw1' hs' LEN
  go_upto_region 3 with fail
  refine regionJ (fun i => decide (i < 7)) (fun W => Below wx.heap.size wx W) (by kernel_rfl) ?_
  refine takeJ (i := 0) (v := .pointer (some ⟨s, 5, none⟩)) 8 rfl rfl (by kernel_rfl) (by kernel_rfl) (by kernel_rfl) (by kernel_rfl) (fun _ _ _ h => h) (.inl ⟨by rfl, fun W hW => exec_fieldO 57 _ 2 s 0 5 rfl rfl (fun w => by kernel_rfl)⟩) ((later_drew wx)) ?_
  try simp only [Act.put, List.setIfInBounds_toArray, List.set_cons_zero, List.set_cons_succ]
  refine takeJ (i := 1) (v := d.dv) 9 rfl rfl (by kernel_rfl) (by kernel_rfl) (by kernel_rfl) (by kernel_rfl) (fun _ _ _ h => h) (.inl ⟨by rfl, fun W hW => exec_load1 24 oneS _ rfl s 5 rfl (d.dv) (S5.out _ hW)⟩) ((later_drew wx)) ?_
  try simp only [Act.put, List.setIfInBounds_toArray, List.set_cons_zero, List.set_cons_succ]
  refine takeJ (i := 3) (v := .pointer (some ⟨s, 6, none⟩)) 11 rfl rfl (by kernel_rfl) (by kernel_rfl) (by kernel_rfl) (by kernel_rfl) (fun _ _ _ h => h) (.inl ⟨by rfl, fun W hW => exec_fieldO 57 _ 3 s 0 6 rfl rfl (fun w => by kernel_rfl)⟩) ((later_drew wx)) ?_
  try simp only [Act.put, List.setIfInBounds_toArray, List.set_cons_zero, List.set_cons_succ]
  refine takeJ (i := 4) (v := d.bv) 12 rfl rfl (by kernel_rfl) (by kernel_rfl) (by kernel_rfl) (by kernel_rfl) (fun _ _ _ h => h) (.inl ⟨by rfl, fun W hW => exec_load1 55 oneI _ rfl s 6 rfl (d.bv) (S6.out _ hW)⟩) ((later_drew wx)) ?_
  try simp only [Act.put, List.setIfInBounds_toArray, List.set_cons_zero, List.set_cons_succ]
  refine callJ 2 10 (by kernel_rfl) rfl rfl (by rfl) 33 #[d.dv] (by kernel_rfl) (fun u w' => CB (fun g => wx.drew.heap.size ≤ g ∧ g < w'.heap.size) w' u d.D ∧ Below wx.drew.heap.size wx.drew w') (CL1.out.mono (fun e w' h => by obtain ⟨u, e1, c, b⟩ := h; exact ⟨u, e1, c, b⟩)) ?_
  rintro u5 w2 ⟨cu5, b2'⟩
  have b2 : Below wx.heap.size wx w2 := later (later_drew wx) b2'
  refine ⟨b2, ?_⟩
  simp only [Act.put, List.setIfInBounds_toArray, List.set_cons_zero, List.set_cons_succ]
  refine takeJ (i := 6) (v := .pointer (some ⟨s, 5, none⟩)) 14 rfl rfl (by kernel_rfl) (by kernel_rfl) (by kernel_rfl) (by kernel_rfl) (fun _ _ _ h => h) (.inl ⟨by rfl, fun W hW => exec_fieldO 57 _ 2 s 0 5 rfl rfl (fun w => by kernel_rfl)⟩) (b2) ?_
  try simp only [Act.put, List.setIfInBounds_toArray, List.set_cons_zero, List.set_cons_succ]
  have CL2 := hide (cloneI_any (P := P) (HB.out.later b2) (by have := LB.out; omega))
  refine callJ 5 13 (by kernel_rfl) rfl rfl (by rfl) 39 #[d.bv] (by kernel_rfl) (fun u w' => CI (fun g => w2.heap.size ≤ g ∧ g < w'.heap.size) w' u d.B ∧ Below w2.heap.size w2 w') (CL2.out.mono (fun e w' h => by obtain ⟨u, e1, c, b⟩ := h; exact ⟨u, e1, c, b⟩)) ?_
  rintro u6 w3 ⟨cu6, b3'⟩
  have b3 : Below wx.heap.size wx w3 := later b2 b3'
  refine ⟨b3, ?_⟩
  simp only [Act.put, List.setIfInBounds_toArray, List.set_cons_zero, List.set_cons_succ]
  have c3 := C1.out.later ls b3
  have ls3 : s < w3.heap.size := Nat.lt_of_lt_of_le ls b3.size
  have f3 : ∀ y, w3.frozen? ⟨s, y, none⟩ = false := fun y => (b3.frozen (p := ⟨s, y, none⟩) ls).trans (F1.out y)
  obtain ⟨w4, hw4⟩ : ∃ w4, w4 = w3.setCell ⟨s, 5, none⟩ u5 := ⟨_, rfl⟩
  have c4 : CellsAt w4 s 0 (V.set 5 u5) := by rw [hw4]; exact c3.set 5 u5
  have f4 : ∀ y, w4.frozen? ⟨s, y, none⟩ = false := fun y => by rw [hw4, World.frozen?_setCell]; exact f3 y
  obtain ⟨w5, hw5⟩ : ∃ w5, w5 = w4.setCell ⟨s, 6, none⟩ u6 := ⟨_, rfl⟩
  have c5 : CellsAt w5 s 0 ((V.set 5 u5).set 6 u6) := by rw [hw5]; exact c4.set 6 u6
  have k35 := S5.out _ b3
  have k46 : w4.cell? ⟨s, 6, none⟩ = some d.bv := c4 6 d.bv (by rw [HV.out]; rfl)
  have b35 : But (Only s) w3 w5 := by
    rw [hw5, hw4]
    exact ((But.refl (Only s) w3).cellb (b := s) rfl 5 _).cellb (b := s) rfl 6 _
  refine storeJ (w' := w4) 7 (by kernel_rfl) rfl rfl (by rfl) (by rw [hw4]; exact exec_store1 24 s1S _ _ rfl s 5 rfl _ _ rfl k35 (f3 5) cu5.one) ((fun e => by simp at e)) ?_
  try simp only [Act.put, List.setIfInBounds_toArray, List.set_cons_zero, List.set_cons_succ]
  refine nextF (w' := w4) 8 15 (.pointer (some ⟨s, 6, none⟩)) (by kernel_rfl) rfl rfl (by rfl) (exec_fieldO 57 _ 3 s 0 6 rfl rfl (fun w => by kernel_rfl)) (by simp) ?_
  try simp only [Act.put, List.setIfInBounds_toArray, List.set_cons_zero, List.set_cons_succ]
  refine storeJ (w' := w5) 9 (by kernel_rfl) rfl rfl (by rfl) (by rw [hw5]; exact exec_store1 55 s1I _ _ rfl s 6 rfl _ _ rfl k46 (f4 6) cu6.one) ((fun e => by simp at e)) ?_
  try simp only [Act.put, List.setIfInBounds_toArray, List.set_cons_zero, List.set_cons_succ]
  refine doneJ (by kernel_rfl) ?_ _
  obtain ⟨d', hd'⟩ : ∃ d' : Dg, d' = ⟨d.src, d.port, u5, u6, d.D, d.B⟩ := ⟨_, rfl⟩
  obtain ⟨V', hV'⟩ : ∃ V', V' = d'.cells := ⟨_, rfl⟩
  have C5 : Hid (CellsAt w5 s 0 V') := by
    have e : V' = (V.set 5 u5).set 6 u6 := by rw [hV', hd', HV.out]; rfl
    rw [e]; exact c5
  have LV' : Hid (V'.length = 7) := by rw [hV']; exact rfl
  have sw := HS.out
  have ltb := HH.out.lt
  have bx := B1.out.size
  have b35' : ∀ y, (fun g => g = b ∨ LR g ∨ LC g) y → ¬ Only s y := fun y e e2 => by
    have e2 : y = s := e2
    rcases e with e | e
    · omega
    · have := (HH.out.nb y e).2; omega
  have L5 : LnAt w5 b LR LC M := ((HH.out.later B1.out).later b3).but b35 b35'
  have z3 := b3.size
  have z35 := b35.size
  have z2 := b2.size
  have z23 := b3'.size
  have zd : wx.drew.heap.size = wx.heap.size := rfl
  obtain ⟨LC', hLC'⟩ : ∃ LC' : Nat → Prop, LC' = fun g => LC g ∨ (wx.heap.size ≤ g ∧ g < w3.heap.size) := ⟨_, rfl⟩
  have L5' : LnAt w5 b LR LC' M := L5.more (fun g e => by rw [hLC']; exact .inl e) (fun g e => by
    rw [hLC'] at e
    rcases e with e | e
    · exact .inl e
    · exact .inr ⟨by omega, by omega, fun e2 => by have := (HH.out.nb g (.inl e2)).2; omega⟩)
  have D5 : d'.Ok LC' w5 := by
    rw [hd']
    refine ⟨?_, ?_, LD.out, LB.out⟩
    · refine ((cu5.later b3').own (fun g _ e => ?_)).but b35 (fun g e e2 => ?_)
      · rw [hLC']; exact .inr ⟨by omega, by omega⟩
      · have e2 : g = s := e2
        rw [hLC'] at e
        rcases e with e | e
        · have := (HH.out.nb g (.inr e)).2; omega
        · omega
    · refine (cu6.own (fun g _ e => ?_)).but b35 (fun g e e2 => ?_)
      · rw [hLC']; exact .inr ⟨by omega, e.2⟩
      · have e2 : g = s := e2
        rw [hLC'] at e
        rcases e with e | e
        · have := (HH.out.nb g (.inr e)).2; omega
        · omega
  have PUSH := hide (qPush_any (L5'.later (later_drew w5)) (by rw [← HK.out]; exact hl) d' (D5.later (later_drew w5)))
  have C5d : CellsAt w5.drew s 0 V' := C5.out
  have B5 : Hid (But (fun g => g = b ∨ LR g) w w5) := ((But.of_below B1.out).trans (But.of_below b3)).trans' b35 (fun g hg e => by have e : g = s := e; omega)
  have HLC' := hide hLC'
  have HD' := hide hd'
  have LSW : Hid (s < w5.heap.size ∧ wx.heap.size ≤ w5.heap.size ∧ w.heap.size ≤ wx.heap.size) := ⟨by omega, by omega, bx⟩
  have NS : Hid (¬ (s = b ∨ LR s)) := fun e => by
    rcases e with e | e
    · omega
    · have := (HH.out.nb s (.inl e)).2; omega
  rw [← hV'] at PUSH
  clear c3 f3 c4 f4 c5 k35 k46 b35 b35' L5 L5' D5 hw4 hw5 cu5 cu6 b2' b3' b2 b3 CL1 CL2 S5 S6 HB LB LD hV' hd' hLC' z3 z35 z2 z23 zd C1 F1 hl kz sw ltb bx
  go_upto_region 4 with fail
  refine regionJ (fun _ => true) (fun W => CellsAt W s 0 V') (by kernel_rfl) ?_
  refine takeJ (i := 0) (v := .pointer (some ⟨b, 0, none⟩)) 16 rfl rfl (by kernel_rfl) (by kernel_rfl) (by kernel_rfl) (by kernel_rfl) (fun _ _ _ h => h) (.inl ⟨by rfl, fun W hW => exec_move _ _ rfl rfl⟩) (C5d) ?_
  try simp only [Act.put, List.setIfInBounds_toArray, List.set_cons_zero, List.set_cons_succ]
  refine takeJ (i := 1) (v := .pointer (some ⟨b, 0, none⟩)) 17 rfl rfl (by kernel_rfl) (by kernel_rfl) (by kernel_rfl) (by kernel_rfl) (fun _ _ _ h => h) (.inl ⟨by rfl, fun W hW => exec_nil _ _ rfl rfl⟩) (C5d) ?_
  try simp only [Act.put, List.setIfInBounds_toArray, List.set_cons_zero, List.set_cons_succ]
  refine takeJ (i := 2) (v := .pointer (some ⟨b, 0, none⟩)) 18 rfl rfl (by kernel_rfl) (by kernel_rfl) (by kernel_rfl) (by kernel_rfl) (fun _ _ _ h => h) (.inl ⟨by rfl, fun W hW => exec_fieldO 83 _ 0 b 0 0 rfl rfl (fun w => by kernel_rfl)⟩) (C5d) ?_
  try simp only [Act.put, List.setIfInBounds_toArray, List.set_cons_zero, List.set_cons_succ]
  refine takeJ (i := 3) (v := .agg V'.toArray) 19 rfl rfl (by kernel_rfl) (by kernel_rfl) (by kernel_rfl) (by kernel_rfl) (fun _ _ _ h => h) (.inl ⟨by rfl, fun W hW => exec_loadA 57 7 aggDg sizDg _ rfl s 0 rfl V' LV'.out hW⟩) (C5d) ?_
  try simp only [Act.put, List.setIfInBounds_toArray, List.set_cons_zero, List.set_cons_succ]
  refine callJ 4 20 (by kernel_rfl) rfl rfl (by rfl) 40 #[.pointer (some ⟨b, 0, none⟩), .agg V'.toArray] (by kernel_rfl) (fun v w' => v = .tuple #[] ∧ LnAt w' b (fun g => LR g ∨ w5.drew.heap.size ≤ g ∧ g < w'.heap.size) LC' (M ++ [d']) ∧ But (fun g => g = b ∨ LR g) w5.drew w') (PUSH.out.mono (fun e w' h => ⟨_, h.1, rfl, h.2⟩)) ?_
  rintro _ w6 ⟨rfl, L6, b6⟩
  refine ⟨C5d.but (by exact LSW.out.1) b6 NS.out, ?_⟩
  simp only [Act.put, List.setIfInBounds_toArray, List.set_cons_zero, List.set_cons_succ]
  refine doneJ (by kernel_rfl) ?_ _
  have FIN : Hid (∃ d' LR' LC', (d'.src = d.src ∧ d'.port = d.port ∧ d'.D = d.D ∧ d'.B = d.B) ∧ LnAt w6 b LR' LC' (M ++ [d']) ∧ But (fun g => g = b ∨ LR g) w w6 ∧ (∀ g, LR' g → LR g ∨ w.heap.size ≤ g) ∧ (∀ g, LC' g → LC g ∨ w.heap.size ≤ g)) := by
    have l := LSW.out
    have zd : w5.drew.heap.size = w5.heap.size := rfl
    refine ⟨d', _, LC', by rw [HD'.out]; exact ⟨rfl, rfl, rfl, rfl⟩, L6, B5.out.trans ((But.of_below (later_drew w5)).trans b6), fun g e => ?_, fun g e => ?_⟩
    · rcases e with e | e
      · exact .inl e
      · exact .inr (by omega)
    · rw [HLC'.out] at e
      rcases e with e | e
      · exact .inl e
      · exact .inr (by omega)
  clear L6 b6 C5d PUSH
  go_wp2
  go_ret
  obtain ⟨d', LR', LC', q⟩ := FIN.out
  exact ⟨d', LR', LC', rfl, q⟩
end Go.Proofs.Ythjeaebpboilpaa
