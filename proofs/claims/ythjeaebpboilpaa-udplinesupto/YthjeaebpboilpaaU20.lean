
/-
  Package udp: a line in memory; the queue's push and pop.
-/
import Derived.Test.YthjeaebpboilpaaU19
namespace Go.Proofs.Ythjeaebpboilpaa
open Go.RowKit Go.Shelf

/-- a line at b: its row in blocks of LR, what waits in it in blocks of LC -/
structure LnAt (W : World) (b : Nat) (LR LC : Nat → Prop) (M : List Dg) : Prop where
  row : ∃ v, W.cell? ⟨b, 0, none⟩ = some v ∧ RowF 7 LR W v M.length (dgc M)
  fz : W.frozen? ⟨b, 0, none⟩ = false
  con : ∀ m ∈ M, m.Ok LC W
  nb : ∀ g, LR g ∨ LC g → b < g ∧ g < W.heap.size
  dj : ∀ g, LR g → ¬ LC g
  len : M.length ≤ 4
section
variable {W W' : World} {b : Nat} {LR LC K : Nat → Prop} {M : List Dg}
theorem LnAt.lt (h : LnAt W b LR LC M) : b < W.heap.size := by
  obtain ⟨v, h1, _⟩ := h.row
  exact World.block_lt_of_cell? W _ h1
theorem LnAt.but (h : LnAt W b LR LC M) (hb : But K W W') (hk : ∀ g, g = b ∨ LR g ∨ LC g → ¬ K g) : LnAt W' b LR LC M := by
  have hl := h.lt
  obtain ⟨v, h1, h2⟩ := h.row
  have k1 := hk b (.inl rfl)
  exact ⟨⟨v, (hb.cell (p := ⟨b, 0, none⟩) hl k1).trans h1, h2.but hb (fun g e => hk g (.inr (.inl e)))⟩, (hb.frozen (p := ⟨b, 0, none⟩) hl k1).trans h.fz, fun m hm => (h.con m hm).but hb (fun g e => hk g (.inr (.inr e))), fun g e => ⟨(h.nb g e).1, Nat.lt_of_lt_of_le (h.nb g e).2 hb.size⟩, h.dj, h.len⟩
theorem LnAt.later (h : LnAt W b LR LC M) (hb : Below W.heap.size W W') : LnAt W' b LR LC M := h.but (K := fun _ => False) (But.of_below hb) (fun _ _ => id)
/-- more blocks of what waits -/
theorem LnAt.more {LC' : Nat → Prop} (h : LnAt W b LR LC M) (h1 : ∀ g, LC g → LC' g) (h2 : ∀ g, LC' g → LC g ∨ (b < g ∧ g < W.heap.size ∧ ¬ LR g)) : LnAt W b LR LC' M := by
  refine ⟨h.row, h.fz, fun m hm => (h.con m hm).own (fun g _ e => h1 g e), fun g e => ?_, fun g e e2 => ?_, h.len⟩
  · rcases e with e | e
    · exact h.nb g (.inl e)
    · rcases h2 g e with e | e
      · exact h.nb g (.inr e)
      · exact ⟨e.1, e.2.1⟩
  · rcases h2 g e2 with e2 | e2
    · exact h.dj g e e2
    · exact e2.2.2 e
end
theorem oneDs (w : World) : (isAgg 51).run Try.prog w = .ok false w := by kernel_rfl
theorem s1Ds (w : World) : (Go.sizeOf 51).run Try.prog w = .ok 1 w := by kernel_rfl
theorem oneI (w : World) : (isAgg 55).run Try.prog w = .ok false w := by kernel_rfl
theorem s1I (w : World) : (Go.sizeOf 55).run Try.prog w = .ok 1 w := by kernel_rfl
theorem s1S (w : World) : (Go.sizeOf 24).run Try.prog w = .ok 1 w := by kernel_rfl
theorem exec_bsDg {o : Oper} {w : World} {ev : Operand → Value} (x : Operand) (d : Dg) (ho : o.op = .buildSlice 51 1 #[(0, x)]) (hx : ev x = .agg d.cells.toArray) : (execOp ev o).run Try.prog w = .ok (.value (.slice (some ⟨w.heap.size, 0, none⟩) 1 1)) (w.alloc (.cells d.cells.toArray 57)) := by
  unfold execOp
  simp [ho, hx, go_sem, Dg.cells]
set_option maxRecDepth 100000 in
set_option maxHeartbeats 4000000 in
theorem qPush_any {w : World} {b : Nat} {LR LC : Nat → Prop} {M : List Dg} (h : LnAt w b LR LC M) (hl : M.length < 4) (d : Dg) (hd : d.Ok LC w) : Calls Try.prog 40 #[.pointer (some ⟨b, 0, none⟩), .agg d.cells.toArray] w fun e w' => e = .returned (.tuple #[]) ∧ LnAt w' b (fun g => LR g ∨ w.heap.size ≤ g ∧ g < w'.heap.size) LC (M ++ [d]) ∧ But (fun g => g = b ∨ LR g) w w' := by
  obtain ⟨s, hs⟩ : ∃ s, s = w.heap.size := ⟨_, rfl⟩
  obtain ⟨V, hV⟩ : ∃ V, V = d.cells := ⟨_, rfl⟩
  obtain ⟨w1, hw1⟩ : ∃ w1, w1 = w.alloc (.cells V.toArray 57) := ⟨_, rfl⟩
  have b1 : Below w.heap.size w w1 := by rw [hw1]; exact (Below.refl _ w).alloc (Nat.le_refl _) _
  have c1 : CellsAt w1 s 0 V := by rw [hw1, hs]; exact CellsAt.new w V 57
  have lV : V.length = 7 := by rw [hV]; rfl
  have oV : ∀ u ∈ V, u.oneCell' = true := by rw [hV]; exact hd.one
  have H1 := h.later b1
  obtain ⟨v, cv, rv⟩ := H1.row
  obtain ⟨va, vc, rfl⟩ := rv.shape
  obtain ⟨k, hk⟩ : ∃ k, k = M.length := ⟨_, rfl⟩
  have oM : ∀ q, q < k → ∀ u ∈ dgc M q, u.oneCell' = true := fun q hq => by
    obtain ⟨m, hm⟩ : ∃ m, M[q]? = some m := ⟨_, List.getElem?_eq_getElem (by omega)⟩
    rw [dgc_at hm]; exact (h.con m (List.mem_of_getElem? hm)).one
  rw [← hk] at cv rv
  have lb : b < w1.heap.size := H1.lt
  have ls : s < w1.heap.size := c1.lt (by omega)
  rw [show (Value.agg d.cells.toArray) = .agg #[.int .u8 d.src.a, .int .u8 d.src.b, .int .u8 d.src.c, .int .u8 d.src.d, .int .i64 d.port, d.dv, d.bv] from rfl]
  obtain ⟨p2, hp2⟩ : ∃ p2, p2 = w1.drew.heap.size := ⟨_, rfl⟩
  obtain ⟨wE, hwE⟩ : ∃ z, z = w1.drew.alloc (.cells V.toArray 57) := ⟨_, rfl⟩
  have bE : Below w1.heap.size w1 wE := by rw [hwE]; exact (Below.refl _ w1).drew.alloc (Nat.le_refl _) _
  have cE : CellsAt wE p2 0 V := by rw [hwE, hp2]; exact CellsAt.new w1.drew V 57
  obtain ⟨i0, hi0, hz0, hz1, hz2⟩ := info_parts info_dg
  obtain ⟨a', c', wF, hrun, rF, hbF⟩ := (rv.later bE).push 51 57 i0 _ Try.underlying51 hi0 hz0 hz1 (by omega) rfl (fun j hj => dgc_len M j) oM V lV oV p2 cE (by omega)
  have nq : ¬ LR b := fun e => by have := (h.nb b (.inl e)).1; omega
  have nos : ¬ LR s := fun e => by have := (h.nb s (.inl e)).2; omega
  have cvE := (bE.cell (p := ⟨b, 0, none⟩) lb).trans cv
  have fvE : wE.frozen? ⟨b, 0, none⟩ = false := (H1.later bE).fz
  have lbE : b < wE.heap.size := Nat.lt_of_lt_of_le lb bE.size
  have cvF := (hbF.cell (p := ⟨b, 0, none⟩) lbE nq).trans cvE
  have fvF := (hbF.frozen (p := ⟨b, 0, none⟩) lbE nq).trans fvE
  have csE := c1.later ls bE
  have csF := csE.but (Nat.lt_of_lt_of_le ls bE.size) hbF nos
  obtain ⟨wG, hwG⟩ : ∃ z, z = wF.setCell ⟨b, 0, none⟩ (.slice a' (k + 1) c') := ⟨_, rfl⟩
  have bG : But (Only b) wF wG := by rw [hwG]; exact (But.refl (Only b) wF).cellb (b := b) rfl 0 _
  have Sd : w1.drew.cell? ⟨b, 0, none⟩ = some (.slice va k vc) ∧ CellsAt w1.drew s 0 V := ⟨cv, c1⟩
  have SE : wE.cell? ⟨b, 0, none⟩ = some (.slice va k vc) ∧ CellsAt wE s 0 V := ⟨cvE, csE⟩
  have SF : wF.cell? ⟨b, 0, none⟩ = some (.slice va k vc) ∧ CellsAt wF s 0 V := ⟨cvF, csF⟩
  have BG : Hid (But (fun g => g = b ∨ LR g) w wG) := ((((But.of_below b1).trans (But.of_below bE)).trans (hbF.mono (fun g e => .inr e))).trans (bG.mono (fun g e => .inl e)))
  have FIN : Hid (LnAt wG b (fun g => LR g ∨ w.heap.size ≤ g ∧ g < wG.heap.size) LC (M ++ [d])) := by
    have sw : w.heap.size ≤ wE.heap.size := Nat.le_trans b1.size bE.size
    have sg : w.heap.size ≤ wG.heap.size := BG.out.size
    have lw := h.lt
    refine ⟨⟨_, by rw [hwG]; exact World.cell?_setCell_same _ _ _ cvF, ?_⟩, by rw [hwG, World.frozen?_setCell]; exact fvF, fun m hm => ?_, fun g e => ?_, fun g e e2 => ?_, ?_⟩
    · rw [List.length_append, ← hk]
      refine ((rF.but bG (fun g e e2 => ?_)).own (fun g hg e => ?_)).cong (fun j hj => ?_)
      · have e2 : g = b := e2
        rcases e with e | e
        · exact nq (e2 ▸ e)
        · omega
      · rcases e with e | e
        · exact .inl e
        · exact .inr ⟨by omega, hg⟩
      · rw [dgc_app M d j (by rw [← hk]; exact hj), ← hk, hV]
    · have hm2 : m.Ok LC w := by
        rcases List.mem_append.1 hm with hm | hm
        · exact h.con m hm
        · rw [List.mem_singleton.1 hm]; exact hd
      refine hm2.but BG.out (fun g e e2 => ?_)
      rcases e2 with e2 | e2
      · have := (h.nb g (.inr e)).1; omega
      · exact h.dj g e2 e
    · rcases e with (e | e) | e
      · exact ⟨(h.nb g (.inl e)).1, Nat.lt_of_lt_of_le (h.nb g (.inl e)).2 sg⟩
      · exact ⟨by omega, e.2⟩
      · exact ⟨(h.nb g (.inr e)).1, Nat.lt_of_lt_of_le (h.nb g (.inr e)).2 sg⟩
    · rcases e with e | e
      · exact h.dj g e e2
      · have := (h.nb g (.inr e2)).2; omega
    · rw [List.length_append]; simp; omega
  have hw1' : w.alloc (.cells #[.int .u8 d.src.a, .int .u8 d.src.b, .int .u8 d.src.c, .int .u8 d.src.d, .int .i64 d.port, d.dv, d.bv] 57) = w1 := by rw [hw1, hV]; rfl
  have hs' := hs.symm
  have LV := hide lV
  have HV := hide hV
  have HP2 := hide hp2
  have HWE := hide hwE
  have HWG := hide hwG
  have HRUN := hide hrun
  clear h hd rv H1 oM i0 hi0 hz0 hz1 hz2 rF hbF bG bE b1 oV hk hV hw1 hs hp2 hwE hwG hrun
  go_enter Try.func40, Try.ntmps40
  go_wp2_with fail
  clear hw1' hs' lV
  refine regionJ (fun i => i != 10) (fun W => W.cell? ⟨b, 0, none⟩ = some (.slice va k vc) ∧ CellsAt W s 0 V) (by kernel_rfl) ?_
  refine takeJ (i := 0) (v := .pointer (some ⟨b, 0, none⟩)) 4 rfl rfl (by kernel_rfl) (by kernel_rfl) (by kernel_rfl) (by kernel_rfl) (fun _ _ _ h => h) (.inl ⟨by rfl, fun W hW => exec_move _ _ rfl rfl⟩) (Sd) ?_
  try simp only [Act.put, List.setIfInBounds_toArray, List.set_cons_zero, List.set_cons_succ]
  refine takeJ (i := 1) (v := .pointer (some ⟨b, 0, none⟩)) 5 rfl rfl (by kernel_rfl) (by kernel_rfl) (by kernel_rfl) (by kernel_rfl) (fun _ _ _ h => h) (.inl ⟨by rfl, fun W hW => exec_move _ _ rfl rfl⟩) (Sd) ?_
  try simp only [Act.put, List.setIfInBounds_toArray, List.set_cons_zero, List.set_cons_succ]
  refine takeJ (i := 2) (v := .pointer (some ⟨b, 0, none⟩)) 6 rfl rfl (by kernel_rfl) (by kernel_rfl) (by kernel_rfl) (by kernel_rfl) (fun _ _ _ h => h) (.inl ⟨by rfl, fun W hW => exec_nil _ _ rfl rfl⟩) (Sd) ?_
  try simp only [Act.put, List.setIfInBounds_toArray, List.set_cons_zero, List.set_cons_succ]
  refine takeJ (i := 3) (v := .pointer (some ⟨b, 0, none⟩)) 7 rfl rfl (by kernel_rfl) (by kernel_rfl) (by kernel_rfl) (by kernel_rfl) (fun _ _ _ h => h) (.inl ⟨by rfl, fun W hW => exec_fieldO 81 _ 0 b 0 0 rfl rfl (fun w => by kernel_rfl)⟩) (Sd) ?_
  try simp only [Act.put, List.setIfInBounds_toArray, List.set_cons_zero, List.set_cons_succ]
  refine takeJ (i := 4) (v := .slice va k vc) 8 rfl rfl (by kernel_rfl) (by kernel_rfl) (by kernel_rfl) (by kernel_rfl) (fun _ _ _ h => h) (.inl ⟨by rfl, fun W hW => exec_load1 51 oneDs _ rfl b 0 rfl (.slice va k vc) (hW.1)⟩) (Sd) ?_
  try simp only [Act.put, List.setIfInBounds_toArray, List.set_cons_zero, List.set_cons_succ]
  refine takeJ (i := 5) (v := .agg V.toArray) 9 rfl rfl (by kernel_rfl) (by kernel_rfl) (by kernel_rfl) (by kernel_rfl) (fun _ _ _ h => h) (.inl ⟨by rfl, fun W hW => exec_loadA 57 7 aggDg sizDg _ rfl s 0 rfl V LV.out hW.2⟩) (Sd) ?_
  try simp only [Act.put, List.setIfInBounds_toArray, List.set_cons_zero, List.set_cons_succ]
  refine nextJ (w' := wE) 6 10 (.slice (some ⟨p2, 0, none⟩) 1 1) (by kernel_rfl) rfl rfl (by rfl) (by rw [HWE.out, HP2.out, HV.out]; exact exec_bsDg _ d rfl (by rw [← HV.out]; rfl)) (SE) ?_
  try simp only [Act.put, List.setIfInBounds_toArray, List.set_cons_zero, List.set_cons_succ]
  refine nextJ (w' := wF) 7 11 (.slice a' (k + 1) c') (by kernel_rfl) rfl rfl (by rfl) (exec_app _ _ 51 51 rfl (.slice va k vc) (.slice (some ⟨p2, 0, none⟩) 1 1) rfl rfl 51 rfl HRUN.out) (SF) ?_
  try simp only [Act.put, List.setIfInBounds_toArray, List.set_cons_zero, List.set_cons_succ]
  refine nextJ (w' := wF) 8 12 (.pointer (some ⟨b, 0, none⟩)) (by kernel_rfl) rfl rfl (by rfl) (exec_nil _ _ rfl rfl) (SF) ?_
  try simp only [Act.put, List.setIfInBounds_toArray, List.set_cons_zero, List.set_cons_succ]
  refine nextJ (w' := wF) 9 13 (.pointer (some ⟨b, 0, none⟩)) (by kernel_rfl) rfl rfl (by rfl) (exec_fieldO 81 _ 0 b 0 0 rfl rfl (fun w => by kernel_rfl)) (SF) ?_
  try simp only [Act.put, List.setIfInBounds_toArray, List.set_cons_zero, List.set_cons_succ]
  refine storeJ (w' := wG) 10 (by kernel_rfl) rfl rfl (by rfl) (by rw [HWG.out]; exact exec_store1 51 s1Ds _ _ rfl b 0 rfl _ _ rfl cvF fvF rfl) ((fun e => by simp at e)) ?_
  try simp only [Act.put, List.setIfInBounds_toArray, List.set_cons_zero, List.set_cons_succ]
  refine doneJ (by kernel_rfl) ?_ _
  clear Sd SE SF cvE fvE cvF fvF csE csF cE c1 cv
  go_wp2
  go_end0
  exact ⟨rfl, FIN.out, BG.out⟩
set_option maxRecDepth 100000 in
set_option maxHeartbeats 4000000 in
theorem qPop_any {w : World} {b : Nat} {LR LC : Nat → Prop} {M : List Dg} (h : LnAt w b LR LC M) : Calls Try.prog 41 #[.pointer (some ⟨b, 0, none⟩)] w fun e w' => (M = [] ∧ e = .returned (.tuple #[.agg zD.cells.toArray, .bool false]) ∧ Below w.heap.size w w') ∨ (∃ d M', M = d :: M' ∧ e = .returned (.tuple #[.agg d.cells.toArray, .bool true]) ∧ LnAt w' b LR LC M' ∧ But (fun g => g = b ∨ LR g) w w') := by
  obtain ⟨s2, hs2⟩ : ∃ s, s = w.heap.size := ⟨_, rfl⟩
  obtain ⟨Z, hZ⟩ : ∃ Z, Z = zD.cells := ⟨_, rfl⟩
  have LZ : Hid (Z.length = 7) := by rw [hZ]; exact rfl
  obtain ⟨w1, hw1⟩ : ∃ w1, w1 = w.alloc (.cells Z.toArray 57) := ⟨_, rfl⟩
  have b1 : Below w.heap.size w w1 := by rw [hw1]; exact later_alloc _ _
  have c1 : CellsAt w1 s2 0 Z := by rw [hw1, hs2]; exact CellsAt.new w Z _
  have f1 : ∀ y, w1.frozen? ⟨s2, y, none⟩ = false := by rw [hw1, hs2]; exact fun y => frozen_new w _ _ _
  obtain ⟨s4, hs4⟩ : ∃ s, s = w1.heap.size := ⟨_, rfl⟩
  obtain ⟨w2, hw2⟩ : ∃ w2, w2 = w1.alloc (.cells Z.toArray 57) := ⟨_, rfl⟩
  have b2 : Below w1.heap.size w1 w2 := by rw [hw2]; exact later_alloc _ _
  have c2 : CellsAt w2 s4 0 Z := by rw [hw2, hs4]; exact CellsAt.new w1 Z _
  have f2 : ∀ y, w2.frozen? ⟨s4, y, none⟩ = false := by rw [hw2, hs4]; exact fun y => frozen_new w1 _ _ _
  have l1 : s2 < w1.heap.size := c1.lt (by rw [LZ.out]; decide)
  have l2 : s4 < w2.heap.size := c2.lt (by rw [LZ.out]; decide)
  have c12 := c1.later l1 b2
  have f12 : ∀ y, w2.frozen? ⟨s2, y, none⟩ = false := fun y => (b2.frozen (p := ⟨s2, y, none⟩) l1).trans (f1 y)
  have B2 := hide (later b1 b2)
  have OZ : Hid (∀ u ∈ Z, u.oneCell' = true) := by
    rw [hZ]
    intro u hu
    simp only [Dg.cells, zD, List.mem_cons, List.not_mem_nil, or_false] at hu
    rcases hu with rfl | rfl | rfl | rfl | rfl | rfl | rfl <;> rfl
  have H2 := h.later (later b1 b2)
  obtain ⟨v, cv, rv⟩ := H2.row
  obtain ⟨va, vc, rfl⟩ := rv.shape
  have lb : b < w.heap.size := h.lt
  have hw1' : w.alloc (.cells #[.int .u8 0, .int .u8 0, .int .u8 0, .int .u8 0, .int .i64 0, .slice none 0 0, .slice none 0 0] 57) = w1 := by rw [hw1, hZ]; rfl
  have hw2' : w1.alloc (.cells #[.int .u8 0, .int .u8 0, .int .u8 0, .int .u8 0, .int .i64 0, .slice none 0 0, .slice none 0 0] 57) = w2 := by rw [hw2, hZ]; rfl
  have hs2' := hs2.symm
  have hs4' := hs4.symm
  have HS2 := hide hs2
  have HS4 : Hid (w.heap.size ≤ s4 ∧ s2 < s4) := by rw [hs4]; exact ⟨b1.size, l1⟩
  have C2 := hide c2
  have F2 := hide f2
  have C12 := hide c12
  have F12 := hide f12
  have HZ := hide hZ
  clear hw1 hw2 c1 f1 b1 b2 c2 f2 c12 f12 hs2 hs4 hZ
  cases M with
  | nil =>
    have cv' : w2.cell? ⟨b, 0, none⟩ = some (.slice va 0 vc) := cv
    obtain ⟨w3, hw3⟩ : ∃ w3, w3 = w2.setCells s2 0 Z := ⟨_, rfl⟩
    have C3 : Hid (CellsAt w3 s2 0 Z) := by rw [hw3]; exact C12.out.stored rfl
    have B3 : Hid (Below w.heap.size w w3) := by rw [hw3]; exact B2.out.trans ((But.cells s2 Z 0 w2).below B2.out.size (fun g hg e => by have e : g = s2 := e; have := HS2.out; omega))
    have hw3' := hw3.symm
    clear cv rv H2 h hw3
    go_enter Try.func41, Try.ntmps41
    go_wp2_with (first | refine wpList_loadA rfl 57 7 aggDg sizDg _ rfl s4 0 rfl Z LZ.out C2.out ?_ | (refine wpList_storeA rfl 57 7 sizDg _ _ rfl s2 0 rfl Z Z rfl LZ.out LZ.out C12.out F12.out OZ.out ?_; intro _; rw [hw3']))
    refine bodyPost_ret (v := .tuple #[.agg Z.toArray, .bool false]) (results_2 rfl _ _ s2 _ _ rfl rfl (run_loadVarA 57 7 aggDg sizDg s2 0 _ LZ.out C3.out)) rfl ?_
    exact .inl ⟨trivial, by rw [HZ.out], B3.out⟩
  | cons d M' =>
    obtain ⟨m, hm⟩ : ∃ m, m = M'.length := ⟨_, rfl⟩
    have m4 : m < 4 := by have := h.len; simp at this; omega
    have cv' : w2.cell? ⟨b, 0, none⟩ = some (.slice va (m + 1) vc) := by rw [hm]; exact cv
    have rv' : RowF 7 LR w2 (.slice va (m + 1) vc) (m + 1) (dgc (d :: M')) := by rw [hm]; exact rv
    obtain ⟨g, ea, hg1, hg2, hg3, hg4⟩ := rv'.at (by omega)
    subst ea
    obtain ⟨X, hX⟩ : ∃ X, X = d.cells := ⟨_, rfl⟩
    have LX : Hid (X.length = 7) := by rw [hX]; exact rfl
    have OX : Hid (∀ u ∈ X, u.oneCell' = true) := by rw [hX]; exact (h.con d (by simp)).one
    have CG : Hid (CellsAt w2 g 0 X) := by have := hg4 0 (by omega); rw [Nat.zero_mul] at this; rw [hX]; exact this
    have gb : b < g := (h.nb g (.inl hg2)).1
    have gw : g < w.heap.size := (h.nb g (.inl hg2)).2
    obtain ⟨w3, hw3⟩ : ∃ w3, w3 = w2.setCells s4 0 X := ⟨_, rfl⟩
    have b3 : But (Only s4) w2 w3 := by rw [hw3]; exact But.cells s4 X 0 w2
    have C3 : Hid (CellsAt w3 s4 0 X) := by rw [hw3]; exact C2.out.stored (by rw [LX.out, LZ.out])
    have s24 : s2 ≠ s4 := by have := HS4.out.2; omega
    have l2' : s2 < w2.heap.size := Nat.lt_trans HS4.out.2 l2
    have C13 : Hid (CellsAt w3 s2 0 Z) := C12.out.but l2' b3 (fun e => s24 e)
    have F13 : Hid (∀ y, w3.frozen? ⟨s2, y, none⟩ = false) := fun y => (b3.frozen (p := ⟨s2, y, none⟩) l2' (fun e => s24 e)).trans (F12.out y)
    have H3 := H2.but b3 (fun y e e2 => by
      have e2 : y = s4 := e2
      have := HS4.out.1
      rcases e with e | e
      · omega
      · have := (h.nb y e).2; omega)
    have rv3 : RowF 7 LR w3 (.slice (some ⟨g, 0, none⟩) (m + 1) vc) (m + 1) (dgc (d :: M')) := rv'.but b3 (fun y e e2 => by
      have e2 : y = s4 := e2
      have := HS4.out.1
      have := (h.nb y (.inl e)).2
      omega)
    have cv3 : w3.cell? ⟨b, 0, none⟩ = some (.slice (some ⟨g, 0, none⟩) (m + 1) vc) := (b3.cell (p := ⟨b, 0, none⟩) H2.lt (fun e => by have e : b = s4 := e; have := HS4.out.1; omega)).trans cv'
    have oM : ∀ q, q < m + 1 → ∀ u ∈ dgc (d :: M') q, u.oneCell' = true := fun q hq => by
      obtain ⟨x, hx⟩ : ∃ x, (d :: M')[q]? = some x := ⟨_, List.getElem?_eq_getElem (by simp; omega)⟩
      rw [dgc_at hx]; exact (h.con x (List.mem_of_getElem? hx)).one
    have DEL := hide (uDel_any m4 (dgc_len (d :: M')) oM rv3)
    have H3H := hide H3
    have HH := hide h
    have HX := hide hX
    have HM := hide hm
    have l3 : s4 < w3.heap.size := Nat.lt_of_lt_of_le l2 b3.size
    have l23 : s2 < w3.heap.size := Nat.lt_of_lt_of_le l2' b3.size
    have B3 : Hid (But (Only s4) w2 w3) := b3
    have hw3' := hw3.symm
    clear cv rv H2 h hw3 rv' hg1 hg3 hg4 hX b3 H3 rv3 oM hm
    go_enter Try.func41, Try.ntmps41
    go_upto_region 5 with (first | refine wpList_loadA rfl 57 7 aggDg sizDg _ rfl g 0 rfl X LX.out CG.out ?_ | (refine wpList_storeA rfl 57 7 sizDg _ _ rfl s4 0 rfl X Z rfl LX.out LZ.out C2.out F2.out OX.out ?_; intro _; rw [hw3']))
    clear hw1' hw2' hs2' hs4' hw3' cv'
    go_wp2_with fail
    refine DEL.out.mono ?_
    rintro _ w5 ⟨rfl, r5, b5⟩
    have ngb : ¬ Only g b := fun e => by have e : b = g := e; omega
    have c5 : w5.cell? ⟨b, 0, none⟩ = some (.slice (some ⟨g, 0, none⟩) (m + 1) vc) := (b5.cell (p := ⟨b, 0, none⟩) H3H.out.lt ngb).trans cv3
    have f5 : w5.frozen? ⟨b, 0, none⟩ = false := (b5.frozen (p := ⟨b, 0, none⟩) H3H.out.lt ngb).trans H3H.out.fz
    obtain ⟨w6, hw6⟩ : ∃ w6, w6 = w5.setCell ⟨b, 0, none⟩ (.slice (some ⟨g, 0, none⟩) m vc) := ⟨_, rfl⟩
    have b6 : But (Only b) w5 w6 := by rw [hw6]; exact (But.refl (Only b) w5).cellb (b := b) rfl 0 _
    have sw := HS4.out.1
    have s2w := HS2.out
    have b36 : But (fun y => y = g ∨ y = b) w3 w6 := (b5.mono (fun y e => .inl e)).trans (b6.mono (fun y e => .inr e))
    have C6 : Hid (CellsAt w6 s4 0 X) := C3.out.but l3 b36 (fun e => by have e : s4 = g ∨ s4 = b := e; omega)
    have C16 : Hid (CellsAt w6 s2 0 Z) := C13.out.but l23 b36 (fun e => by have e : s2 = g ∨ s2 = b := e; omega)
    have F16 : Hid (∀ y, w6.frozen? ⟨s2, y, none⟩ = false) := fun y => (b36.frozen (p := ⟨s2, y, none⟩) l23 (fun e => by have e : s2 = g ∨ s2 = b := e; omega)).trans (F13.out y)
    obtain ⟨w7, hw7⟩ : ∃ w7, w7 = w6.setCells s2 0 X := ⟨_, rfl⟩
    have b7 : But (Only s2) w6 w7 := by rw [hw7]; exact But.cells s2 X 0 w6
    have C7 : Hid (CellsAt w7 s2 0 X) := by rw [hw7]; exact C16.out.stored (by rw [LX.out, LZ.out])
    have L6 : LnAt w6 b LR LC M' := by
      refine ⟨⟨_, by rw [hw6]; exact World.cell?_setCell_same _ _ _ c5, ?_⟩, by rw [hw6, World.frozen?_setCell]; exact f5, fun x hx => ?_, fun y e => ⟨(HH.out.nb y e).1, Nat.lt_of_lt_of_le (HH.out.nb y e).2 (Nat.le_trans B2.out.size (Nat.le_trans B3.out.size b36.size))⟩, HH.out.dj, by rw [← HM.out]; omega⟩
      · rw [← HM.out]
        exact (r5.but b6 (fun y e e2 => by have e2 : y = b := e2; have := (HH.out.nb y (.inl e)).1; omega)).cong (fun j hj => rfl)
      · refine (H3H.out.con x (by simp [hx])).but b36 (fun y e e2 => ?_)
        rcases e2 with e2 | e2
        · exact HH.out.dj g hg2 (e2 ▸ e)
        · have := (HH.out.nb y (.inr e)).1; omega
    have L7 : Hid (LnAt w7 b LR LC M') := L6.but b7 (fun y e e2 => by
      have e2 : y = s2 := e2
      rcases e with e | e
      · omega
      · have := (HH.out.nb y e).2; omega)
    have B7 : Hid (But (fun y => y = b ∨ LR y) w w7) := by
      have a1 : But (fun y => y = b ∨ LR y) w w2 := But.of_below B2.out
      have a2 := a1.trans' B3.out (fun y hy e => by have e : y = s4 := e; omega)
      have a3 := a2.trans (b36.mono (fun y e => by rcases e with e | e; exact .inr (e ▸ hg2); exact .inl e))
      exact a3.trans' b7 (fun y hy e => by have e : y = s2 := e; omega)
    have hw6' := hw6.symm
    have hw7' := hw7.symm
    clear r5 b5 b6 b36 b7 L6 hw6 hw7 DEL cv3 s2w sw
    go_wp2_with (first | refine wpList_loadA rfl 57 7 aggDg sizDg _ rfl s4 0 rfl X LX.out C6.out ?_ | (refine wpList_storeA rfl 57 7 sizDg _ _ rfl s2 0 rfl X Z rfl LX.out LZ.out C16.out F16.out OX.out ?_; intro _; rw [hw7']))
    refine bodyPost_ret (v := .tuple #[.agg X.toArray, .bool true]) (results_2 rfl _ _ s2 _ _ rfl rfl (run_loadVarA 57 7 aggDg sizDg s2 0 _ LX.out C7.out)) rfl ?_
    exact .inr ⟨d, M', rfl, by rw [HX.out], L7.out, B7.out⟩
end Go.Proofs.Ythjeaebpboilpaa
