
/-
  The document's cache: request, at.
-/
import Derived.Test.YtdcpnjlldocdcaaAX
import Derived.Test.YtdcpnjlldocdcaaA19
namespace Go.Proofs.Ytdcpnjlldocdcaa
open Go.RowKit Go.Shelf

set_option maxHeartbeats 400000 in
theorem rrequest_any {w : World} (b : Nat) (m : M6) (i ip : I4) (h : CellsAt w b 0 (m.vals ++ i.vals)) :
    Calls Try.prog 44 #[.pointer (some ⟨b, 0, none⟩), ip.val] w fun e w' => e = .returned (Ar.val ⟨false, m, i, zM, ip⟩) ∧ Below w.heap.size w w' := by
  obtain ⟨p0, p1, p2, p3⟩ := ip
  have hlt := h.lt (by simp [M6.vals])
  simp only [I4.val]
  go_enter Try.func44, Try.ntmps44
  go_wp2_with fail
  obtain ⟨z, hz⟩ : ∃ z : Ar, z = ⟨false, zM, zI, zM, zI⟩ := ⟨_, rfl⟩
  obtain ⟨s, hs⟩ : ∃ s, s = w.heap.size := ⟨_, rfl⟩
  obtain ⟨w1, hw1⟩ : ∃ w1, w1 = (w.alloc (.cells #[.int .u8 p0, .int .u8 p1, .int .u8 p2, .int .u8 p3] 25)).alloc (.cells z.vals.toArray 27) := ⟨_, rfl⟩
  have hb : Below w.heap.size w w1 := by rw [hw1]; exact ((Below.refl _ w).alloc (Nat.le_refl _) _).alloc (by simp) _
  have cb : CellsAt w1 b 0 (m.vals ++ i.vals) := h.later hlt hb
  have ci : CellsAt w1 s 0 (I4.vals ⟨p0, p1, p2, p3⟩) := by
    rw [hw1, hs]
    exact (CellsAt.new w [.int .u8 p0, .int .u8 p1, .int .u8 p2, .int .u8 p3] 25).but (by simp) ((But.refl (fun _ => False) _).alloc _) id
  have cz : CellsAt w1 (s + 1) 0 z.vals := by
    have := CellsAt.new (w.alloc (.cells #[.int .u8 p0, .int .u8 p1, .int .u8 p2, .int .u8 p3] 25)) z.vals 27
    rw [← hw1, World.size_alloc, ← hs] at this
    exact this
  have fz : ∀ j, w1.frozen? ⟨s + 1, j, none⟩ = false := fun j => by
    have := frozen_new (w.alloc (.cells #[.int .u8 p0, .int .u8 p1, .int .u8 p2, .int .u8 p3] 25)) z.vals.toArray 27 j
    rw [← hw1, World.size_alloc, ← hs] at this
    exact this
  rw [hz] at hw1
  simp only [Ar.vals, zM, zI, M6.vals, I4.vals, List.cons_append, List.nil_append] at hw1
  rw [← hw1, ← hs]
  have h0 : CellsAt w1.drew b 0 (m.vals ++ i.vals) ∧ CellsAt w1.drew s 0 (I4.vals ⟨p0, p1, p2, p3⟩) := ⟨cb, ci⟩
  have h1 : CellsAt w1.drew (s + 1) 0 z.vals ∧ ∀ j, w1.drew.frozen? ⟨s + 1, j, none⟩ = false := ⟨cz, fz⟩
  clear cb ci cz fz hw1
  refine wp_region_held (S := fun W => CellsAt W b 0 (m.vals ++ i.vals) ∧ CellsAt W s 0 (I4.vals ⟨p0, p1, p2, p3⟩)) (by kernel_rfl) ?_
  refine takeD (i := 0) (v := (.pointer (some ⟨b, 0, none⟩))) 5 rfl rfl (by kernel_rfl) (by kernel_rfl) (by kernel_rfl) (fun _ _ _ h => h) (.inl ⟨by rfl, (fun W _ => exec_move _ _ rfl rfl)⟩) h0 ?_
  try simp only [Act.put, List.setIfInBounds_toArray, List.set_cons_zero, List.set_cons_succ]
  refine takeD (i := 1) (v := (.pointer (some ⟨b, 0, none⟩))) 6 rfl rfl (by kernel_rfl) (by kernel_rfl) (by kernel_rfl) (fun _ _ _ h => h) (.inl ⟨by rfl, (fun W _ => exec_nil _ _ rfl rfl)⟩) h0 ?_
  try simp only [Act.put, List.setIfInBounds_toArray, List.set_cons_zero, List.set_cons_succ]
  refine takeD (i := 2) (v := (.pointer (some ⟨b, 0, none⟩))) 7 rfl rfl (by kernel_rfl) (by kernel_rfl) (by kernel_rfl) (fun _ _ _ h => h) (.inl ⟨by rfl, (fun W _ => exec_field _ _ _ _ _ rfl rfl (fun w => by kernel_rfl))⟩) h0 ?_
  try simp only [Act.put, List.setIfInBounds_toArray, List.set_cons_zero, List.set_cons_succ]
  refine takeD (i := 3) (v := (.agg m.vals.toArray)) 8 rfl rfl (by kernel_rfl) (by kernel_rfl) (by kernel_rfl) (fun _ _ _ h => h) (.inl ⟨by rfl, (fun W hW => exec_loadA 23 6 aggM sizM _ rfl b 0 rfl _ rfl (CellsAt.append.1 hW.1).1)⟩) h0 ?_
  try simp only [Act.put, List.setIfInBounds_toArray, List.set_cons_zero, List.set_cons_succ]
  refine takeD (i := 4) (v := (.pointer (some ⟨b, 0, none⟩))) 9 rfl rfl (by kernel_rfl) (by kernel_rfl) (by kernel_rfl) (fun _ _ _ h => h) (.inl ⟨by rfl, (fun W _ => exec_move _ _ rfl rfl)⟩) h0 ?_
  try simp only [Act.put, List.setIfInBounds_toArray, List.set_cons_zero, List.set_cons_succ]
  refine takeD (i := 5) (v := (.pointer (some ⟨b, 0, none⟩))) 10 rfl rfl (by kernel_rfl) (by kernel_rfl) (by kernel_rfl) (fun _ _ _ h => h) (.inl ⟨by rfl, (fun W _ => exec_nil _ _ rfl rfl)⟩) h0 ?_
  try simp only [Act.put, List.setIfInBounds_toArray, List.set_cons_zero, List.set_cons_succ]
  refine takeD (i := 6) (v := (.pointer (some ⟨b, 6, none⟩))) 11 rfl rfl (by kernel_rfl) (by kernel_rfl) (by kernel_rfl) (fun _ _ _ h => h) (.inl ⟨by rfl, (fun W _ => exec_field _ _ _ _ _ rfl rfl (fun w => by kernel_rfl))⟩) h0 ?_
  try simp only [Act.put, List.setIfInBounds_toArray, List.set_cons_zero, List.set_cons_succ]
  refine takeD (i := 7) (v := (.agg i.vals.toArray)) 12 rfl rfl (by kernel_rfl) (by kernel_rfl) (by kernel_rfl) (fun _ _ _ h => h) (.inl ⟨by rfl, (fun W hW => exec_loadA 25 4 aggI sizI _ rfl b 6 rfl _ rfl (CellsAt.append.1 hW.1).2)⟩) h0 ?_
  try simp only [Act.put, List.setIfInBounds_toArray, List.set_cons_zero, List.set_cons_succ]
  refine takeD (i := 8) (v := (.agg (I4.vals ⟨p0, p1, p2, p3⟩).toArray)) 13 rfl rfl (by kernel_rfl) (by kernel_rfl) (by kernel_rfl) (fun _ _ _ h => h) (.inl ⟨by rfl, (fun W hW => exec_loadA 25 4 aggI sizI _ rfl s 0 rfl _ rfl hW.2)⟩) h0 ?_
  try simp only [Act.put, List.setIfInBounds_toArray, List.set_cons_zero, List.set_cons_succ]
  refine takeD (i := 9) (v := (Ar.val ⟨false, m, i, zM, ⟨p0, p1, p2, p3⟩⟩)) 14 rfl rfl (by kernel_rfl) (by kernel_rfl) (by kernel_rfl) (fun _ _ _ h => h) (.inl ⟨by rfl, (fun W hW => exec_build3 _ _ _ _ _ _ _ _ _ _ _ _ _ _ _ _ _ rfl rfl rfl rfl)⟩) h0 ?_
  try simp only [Act.put, List.setIfInBounds_toArray, List.set_cons_zero, List.set_cons_succ]
  have cE := h1.1.stored (vs := Ar.vals ⟨false, m, i, zM, ⟨p0, p1, p2, p3⟩⟩) rfl
  have bE : Below w.heap.size w (w1.drew.setCells (s + 1) 0 (Ar.vals ⟨false, m, i, zM, ⟨p0, p1, p2, p3⟩⟩)) := (hb.drew).trans ((But.cells (s + 1) _ 0 w1.drew).below (by have : w1.drew.heap.size = w1.heap.size := rfl; rw [this]; exact hb.size) (fun g hg e => by have e : g = s + 1 := e; omega))
  refine lastD 10 (w' := w1.drew.setCells (s + 1) 0 (Ar.vals ⟨false, m, i, zM, ⟨p0, p1, p2, p3⟩⟩)) (by kernel_rfl) rfl rfl rfl (exec_storeA 27 21 sizA _ _ rfl (s + 1) 0 rfl _ z.vals rfl rfl rfl h1.1 h1.2 ?_) ?_ (by kernel_rfl) ?_
  · intro u hu
    simp only [Ar.vals, M6.vals, I4.vals, zM, List.cons_append, List.nil_append, List.mem_cons, List.not_mem_nil, or_false] at hu
    rcases hu with rfl | rfl | rfl | rfl | rfl | rfl | rfl | rfl | rfl | rfl | rfl | rfl | rfl | rfl | rfl | rfl | rfl | rfl | rfl | rfl | rfl <;> rfl
  · have bO := But.cells (s + 1) (Ar.vals ⟨false, m, i, zM, ⟨p0, p1, p2, p3⟩⟩) 0 w1.drew
    exact ⟨h0.1.but (h0.1.lt (by simp [M6.vals])) bO (fun e => by have e : b = s + 1 := e; omega), h0.2.but (h0.2.lt (by simp [I4.vals])) bO (fun e => by have e : s = s + 1 := e; omega)⟩
  · go_wp2
    refine bodyPost_ret (v := Ar.val ⟨false, m, i, zM, ⟨p0, p1, p2, p3⟩⟩) ?_ rfl ⟨rfl, bE⟩
    have hL := run_loadVarA 27 21 aggA sizA (s + 1) 0 _ rfl cE
    exact results_A rfl _ _ (s + 1) _ rfl hL

/-- a neighbour's place, or -1 -/
def atI (ip : I4) (L : List Nb) : Int := match fndI ip L with
  | some k => (k : Int)
  | none => -1
theorem exec_ixL {o : Oper} {w : World} {ev : Operand → Value} (x y : Operand) (g n c : Nat) (k : Nat) (ho : o.op = .indexAddr 41 x y) (hx : ev x = .slice (some ⟨g, 0, none⟩) n c) (hy : ev y = .int .i64 (k : Int)) (hk : k < n) : (execOp ev o).run Try.prog w = .ok (.value (.pointer (some ⟨g, k * 15, none⟩))) w := exec_ixN x y g n c k ho hx hy hk
set_option maxRecDepth 100000 in
set_option maxHeartbeats 4000000 in
theorem at_any {ρ : Nat → Role} {k : Nat} {w : World} {b : Nat} {m : M6} {i : I4} {lv : Value} {Lt : List (Nat × Nb)} (h : CAt ρ k w b m i lv Lt) (hl : Lt.length ≤ 1000) (ip : I4) :
    Calls Try.prog 43 #[.pointer (some ⟨b, 0, none⟩), ip.val] w fun e w' => e = .returned (.int .i64 (atI ip (Lt.map Prod.snd))) ∧ Below w.heap.size w w' := by
  obtain ⟨s, hs⟩ : ∃ s, s = w.heap.size := ⟨_, rfl⟩
  obtain ⟨W1, hW1⟩ : ∃ W1, W1 = w.alloc (.cells ip.vals.toArray 25) := ⟨_, rfl⟩
  have b1 : Below w.heap.size w W1 := by rw [hW1]; exact (Below.refl _ _).alloc (Nat.le_refl _) _
  have c1 : CellsAt W1 s 0 ip.vals := by rw [hW1, hs]; exact CellsAt.new w _ _
  have z1 : s < W1.heap.size := by rw [hW1, hs]; simp
  have H1 := hide (h.later b1)
  have C1 := hide c1
  have B1 := hide b1
  have Z1 := hide z1
  obtain ⟨a0, c0, rfl, -⟩ := h.row
  obtain ⟨n, hn⟩ : ∃ n, n = Lt.length := ⟨_, rfl⟩
  have HN := hide hn
  rw [← hn] at hl H1
  have zn : (n : Int) ≤ 1000 := by omega
  rw [show ip.val = .agg ip.vals.toArray from rfl]
  have li : ip.vals.length = 4 := rfl
  have hW1' := hW1.symm
  have hs' := hs.symm
  clear hW1 hs b1 c1 z1 h hn hl
  go_enter Try.func43, Try.ntmps43
  go_wp2
  clear hW1' hs' li
  go_loopw [5] (fun v5 wr => ∃ q : Nat, v5 = .int .i64 (q : Int) ∧ q ≤ n ∧ Hid (∀ j x, j < q → (Lt.map Prod.snd)[j]? = some x → eqI x.ip ip = false) ∧ Hid (Below W1.heap.size W1 wr)) (fun v5 _ => n - (intOf v5).toNat)
  case atStart => exact ⟨0, rfl, by omega, fun j x hj => by omega, Below.refl _ _⟩
  case round =>
    obtain ⟨q, rfl, hq, HNo, HB⟩ := hrel
    have HR := hide (H1.out.later HB.out)
    have xl : wr.cell? ⟨b, 10, none⟩ = some (.slice a0 n c0) := HR.out.lst
    by_cases hlt : q < n
    · have hN := HN.out
      obtain ⟨⟨tg, x⟩, hx⟩ : ∃ p, Lt[q]? = some p := ⟨_, List.getElem?_eq_getElem (by omega)⟩
      have hxm : (Lt.map Prod.snd)[q]? = some x := by rw [List.getElem?_map, hx]; rfl
      obtain ⟨a1, c1, e1, hlc, -, hna, hr⟩ := HR.out.row
      simp only [Value.slice.injEq] at e1
      obtain ⟨rfl, -, rfl⟩ := e1
      have ha : ∃ ad, a0 = some ad := by
        cases a0 with
        | none => have := hna rfl; omega
        | some ad => exact ⟨ad, rfl⟩
      obtain ⟨ad, rfl⟩ := ha
      obtain ⟨g, rfl, _, hgl, _, _, hcs⟩ := hr ad rfl
      obtain ⟨v, cx, _⟩ := hcs q tg x hx
      have cip : CellsAt wr g (q * 15) x.ip.vals := (CellsAt.append.1 cx).1
      have bd : Below wr.heap.size wr wr.drew := (Below.refl _ wr).drew
      have S0 : wr.drew.cell? ⟨b, 10, none⟩ = some (.slice (some ⟨g, 0, none⟩) n c0) ∧ CellsAt wr.drew g (q * 15) x.ip.vals ∧ CellsAt wr.drew s 0 ip.vals := ⟨xl, cip, C1.out.later Z1.out (HB.out.trans (bd.mono HB.out.size))⟩
      have HB2 : Hid (Below W1.heap.size W1 wr.drew) := HB.out.trans (bd.mono HB.out.size)
      have HXM := hide hxm
      have zq : (q : Int) < (n : Int) := by omega
      have FIN : Hid (eqI x.ip ip = true → atI ip (Lt.map Prod.snd) = (q : Int)) := fun e => by
        unfold atI
        rw [fndI_some (fun j y hj hy => HNo.out j y hj hy) hxm e]
      clear hx hxm hr hcs cx cip hna hN hq hlc
      go_wp2_with fail
      refine region_out (fun W => W.cell? ⟨b, 10, none⟩ = some (.slice (some ⟨g, 0, none⟩) n c0) ∧ CellsAt W g (q * 15) x.ip.vals ∧ CellsAt W s 0 ip.vals) (by kernel_rfl) ?_
      obtain ⟨eq, heq⟩ : ∃ eq, eqI x.ip ip = eq := ⟨_, rfl⟩
      refine takeD (i := 0) (v := .pointer (some ⟨b, 0, none⟩)) 15 rfl rfl (by kernel_rfl) (by kernel_rfl) (by kernel_rfl) (fun _ _ _ h => h) (.inl ⟨by rfl, fun W hW => exec_move _ _ rfl rfl⟩) (S0) ?_
      try simp only [Act.put, List.setIfInBounds_toArray, List.set_cons_zero, List.set_cons_succ]
      refine takeD (i := 1) (v := .pointer (some ⟨b, 0, none⟩)) 16 rfl rfl (by kernel_rfl) (by kernel_rfl) (by kernel_rfl) (fun _ _ _ h => h) (.inl ⟨by rfl, fun W hW => exec_nil _ _ rfl rfl⟩) (S0) ?_
      try simp only [Act.put, List.setIfInBounds_toArray, List.set_cons_zero, List.set_cons_succ]
      refine takeD (i := 2) (v := .pointer (some ⟨b, 10, none⟩)) 17 rfl rfl (by kernel_rfl) (by kernel_rfl) (by kernel_rfl) (fun _ _ _ h => h) (.inl ⟨by rfl, fun W hW => exec_fieldO 43 _ 2 b 0 10 rfl rfl (fun w => by kernel_rfl)⟩) (S0) ?_
      try simp only [Act.put, List.setIfInBounds_toArray, List.set_cons_zero, List.set_cons_succ]
      refine takeD (i := 3) (v := .slice (some ⟨g, 0, none⟩) n c0) 18 rfl rfl (by kernel_rfl) (by kernel_rfl) (by kernel_rfl) (fun _ _ _ h => h) (.inl ⟨by rfl, fun W hW => exec_load1 41 oneL _ rfl b 10 rfl (.slice (some ⟨g, 0, none⟩) n c0) (hW.1)⟩) (S0) ?_
      try simp only [Act.put, List.setIfInBounds_toArray, List.set_cons_zero, List.set_cons_succ]
      refine takeD (i := 4) (v := .int .i64 (q : Int)) 19 rfl rfl (by kernel_rfl) (by kernel_rfl) (by kernel_rfl) (fun _ _ _ h => h) (.inl ⟨by rfl, fun W hW => exec_move _ _ rfl rfl⟩) (S0) ?_
      try simp only [Act.put, List.setIfInBounds_toArray, List.set_cons_zero, List.set_cons_succ]
      refine takeD (i := 5) (v := .pointer (some ⟨g, q * 15, none⟩)) 20 rfl rfl (by kernel_rfl) (by kernel_rfl) (by kernel_rfl) (fun _ _ _ h => h) (.inl ⟨by rfl, fun W hW => exec_ixL _ _ g n c0 q rfl rfl rfl hlt⟩) (S0) ?_
      try simp only [Act.put, List.setIfInBounds_toArray, List.set_cons_zero, List.set_cons_succ]
      refine takeD (i := 6) (v := .pointer (some ⟨g, q * 15, none⟩)) 21 rfl rfl (by kernel_rfl) (by kernel_rfl) (by kernel_rfl) (fun _ _ _ h => h) (.inl ⟨by rfl, fun W hW => exec_fieldO 66 _ 0 g (q * 15) (q * 15) rfl rfl (fun w => by kernel_rfl)⟩) (S0) ?_
      try simp only [Act.put, List.setIfInBounds_toArray, List.set_cons_zero, List.set_cons_succ]
      refine takeD (i := 7) (v := .agg (x.ip.vals).toArray) 22 rfl rfl (by kernel_rfl) (by kernel_rfl) (by kernel_rfl) (fun _ _ _ h => h) (.inl ⟨by rfl, fun W hW => exec_loadA 25 4 aggI sizI _ rfl g (q * 15) rfl (x.ip.vals) rfl (hW.2.1)⟩) (S0) ?_
      try simp only [Act.put, List.setIfInBounds_toArray, List.set_cons_zero, List.set_cons_succ]
      refine takeD (i := 8) (v := .agg (ip.vals).toArray) 23 rfl rfl (by kernel_rfl) (by kernel_rfl) (by kernel_rfl) (fun _ _ _ h => h) (.inl ⟨by rfl, fun W hW => exec_loadA 25 4 aggI sizI _ rfl s 0 rfl (ip.vals) rfl (hW.2.2)⟩) (S0) ?_
      try simp only [Act.put, List.setIfInBounds_toArray, List.set_cons_zero, List.set_cons_succ]
      refine takeD (i := 9) (v := .bool eq) 24 rfl rfl (by kernel_rfl) (by kernel_rfl) (by kernel_rfl) (fun _ _ _ h => h) (.inl ⟨by rfl, fun W hW => exec_eqI _ _ _ x.ip ip _ rfl rfl rfl heq⟩) (S0) ?_
      try simp only [Act.put, List.setIfInBounds_toArray, List.set_cons_zero, List.set_cons_succ]
      refine wpAnyH_done (by kernel_rfl) ?_ _
      have HEQ := hide heq
      clear S0 heq xl
      cases eq with
      | true =>
        have fe := FIN.out HEQ.out
        have BE : Hid (Below w.heap.size w wr.drew) := B1.out.trans (HB2.out.mono B1.out.size)
        go_wp2
        go_ret
        exact ⟨by rw [fe]; rfl, BE.out⟩
      | false =>
        go_wp2
        go_roundw
        case rel => exact ⟨q + 1, val_int (by omega), by omega, fun j y hj hy => by
          by_cases e : j = q
          · subst e
            rw [HXM.out] at hy
            cases hy
            exact HEQ.out
          · exact HNo.out j y (by omega) hy, HB2.out⟩
        case measure => simp [intOf]; omega
    · have eq : q = n := by omega
      subst eq
      have fe : atI ip (Lt.map Prod.snd) = -1 := by
        unfold atI
        have : fndI ip (Lt.map Prod.snd) = none := by
          unfold fndI
          rw [List.findIdx?_eq_none_iff]
          intro y hy
          obtain ⟨j, hj⟩ := List.getElem?_of_mem hy
          have hjl : j < q := by
            have := (List.getElem?_eq_some_iff.1 hj).1
            rw [List.length_map, ← HN.out] at this
            exact this
          exact HNo.out j y hjl hj
        rw [this]
      have BE : Hid (Below w.heap.size w wr) := B1.out.trans (HB.out.mono B1.out.size)
      clear hlt hq
      go_wp2
      go_ret
      exact ⟨by rw [fe]; rfl, BE.out⟩
end Go.Proofs.Ytdcpnjlldocdcaa
