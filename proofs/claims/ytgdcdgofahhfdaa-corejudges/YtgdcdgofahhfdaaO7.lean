
/-
  Package core: the steps that a segment goes through, from its Ack on; and where two meet.
-/
import Derived.Test.YtgdcdgofahhfdaaO6
namespace Go.Proofs.Ytgdcdgofahhfdaa
open Go.RowKit Go.Shelf

theorem CellsAt.skips {s o : Nat} {vs : List Value} : ∀ {us : List Value} {W : World} {k : Nat}, CellsAt W s o vs → (k + us.length ≤ o ∨ o + vs.length ≤ k) → CellsAt (W.setCells s k us) s o vs
  | [], _, _, h, _ => h
  | u :: us, W, k, h, hk => by
    have h2 := h.skip (k := k) u (by rcases hk with h | h; · left; rw [List.length_cons] at h; omega
                                     · exact .inr h)
    exact CellsAt.skips (us := us) (k := k + 1) h2 (by rcases hk with h | h; · left; rw [List.length_cons] at h; omega
                                                       · right; omega)
section
variable {W : World} {b : Nat} {c : Ct} {s : Sg} {gv dv : Value} {v : Vd}
theorem JgAt.stC (h : JgAt W b c s gv dv v) (c' : Ct) : JgAt (W.setCells b 0 c'.cells) b c' s gv dv v :=
  ⟨h.cc.stored (by rfl), h.cs.skips (.inl (by rw [Ct.cells_len]; decide)), h.cv.skips (.inl (by rw [Ct.cells_len]; decide)), fun y => by rw [World.frozen?_setCells]; exact h.fz y, Nat.lt_of_lt_of_le h.lt (But.cells b c'.cells 0 W).size⟩
def Vd.rest (v : Vd) : List Value := [.int .i64 v.rep, .int .i64 v.en, .bool v.ack, .bool v.ag, .int .i64 v.sk, .int .i64 v.tk, .bool v.fin]
theorem Vd.parts (v : Vd) : v.cells = v.nx.cells ++ v.rest := rfl
theorem JgAt.stN (h : JgAt W b c s gv dv v) (c' : Ct) : JgAt (W.setCells b 21 c'.cells) b c s gv dv { v with nx := c' } := by
  refine ⟨h.cc.skips (.inr (by rw [Ct.cells_len]; decide)), h.cs.skips (.inr (by rw [Sg.cells_len]; decide)), ?_, fun y => by rw [World.frozen?_setCells]; exact h.fz y, Nat.lt_of_lt_of_le h.lt (But.cells b c'.cells 21 W).size⟩
  have hv := h.cv
  rw [Vd.parts] at hv
  obtain ⟨h1, h2⟩ := CellsAt.append.1 hv
  rw [Vd.parts]
  exact CellsAt.append.2 ⟨h1.stored (by rfl), h2.skips (.inl (by rw [Ct.cells_len, Ct.cells_len]; decide))⟩
end
def fHears (c : Ct) (s : Sg) (v : Vd) : Bool × Ct × Vd :=
  if c.st = 2 then (true, c, v)
  else if 0 < dif s.ack c.nxt ∨ 65535 < dif c.una s.ack then (false, c, { v with rep := 1 })
  else if 0 < dif s.ack c.una then
    (true, if latB { c with una := s.ack } s = true then { c with una := s.ack, wnd := s.wnd, wl1 := s.seq, wl2 := s.ack } else { c with una := s.ack }, { v with ack := true })
  else (true, if latB c s = true then { c with wnd := s.wnd, wl1 := s.seq, wl2 := s.ack } else c, { v with ag := agB c s })
def fThrough (c : Ct) (_ : Sg) (v : Vd) : Bool × Ct × Vd :=
  if c.fs = true ∧ c.una = c.nxt then
    (if c.st = 4 then (true, { c with st := 5 }, v) else if c.st = 7 then (true, { c with st := 9 }, v) else if c.st = 8 then (false, c, { v with en := 218 }) else (true, c, v))
  else (true, c, v)
def fRecv (c : Ct) (s : Sg) (v : Vd) : Bool × Ct × Vd :=
  if c.st = 2 then
    (if s.ack = c.nxt then (false, { c with st := 3, una := s.ack, wnd := s.wnd, wl1 := s.seq, wl2 := s.ack }, { v with ack := true, sk := skp c s, tk := tkn c s, fin := finB c s })
     else (false, c, { v with rep := 2 }))
  else if c.st = 3 ∨ c.st = 4 ∨ c.st = 5 then (false, c, { v with sk := skp c s, tk := tkn c s, fin := finB c s })
  else (false, c, v)
section
variable {w : World} {b : Nat} {c : Ct} {s : Sg} {gv dv : Value} {v : Vd}
set_option maxHeartbeats 8000000 in
theorem meets_any (J : JgAt w b c s gv dv v) : SD 38 b w s gv dv (fMeets c s v) := by
  unfold SD
  obtain ⟨R, hR⟩ : ∃ R, R = fMeets c s v := ⟨_, rfl⟩
  have HR := hide hR
  rw [← hR]
  obtain ⟨Z, hZ⟩ : ∃ Z, Z = s.cells gv dv := ⟨_, rfl⟩
  have LZ : Hid (Z.length = 10) := by rw [hZ]; exact rfl
  have CS : Hid (CellsAt w b 11 Z) := by rw [hZ]; exact J.cs
  have ZV := hide hZ
  obtain ⟨h2, e2⟩ : ∃ h, h = hasB s.flg 2 := ⟨_, rfl⟩
  have E2 := hide e2
  have H2 : Hid (∀ W, Calls Try.prog 30 #[.agg Z.toArray, .int .i64 2] W fun e w' => e = .returned (.bool h2) ∧ Below W.heap.size W w') := fun W => by rw [e2]; exact hasZ hZ 1 (by decide) (by decide) W
  obtain ⟨h16, e16⟩ : ∃ h, h = hasB s.flg 16 := ⟨_, rfl⟩
  have E16 := hide e16
  have H16 : Hid (∀ W, Calls Try.prog 30 #[.agg Z.toArray, .int .i64 16] W fun e w' => e = .returned (.bool h16) ∧ Below W.heap.size W w') := fun W => by rw [e16]; exact hasZ hZ 4 (by decide) (by decide) W
  have HJ := hide J
  clear J hZ e2 e16 hR
  go_enter Try.func38, Try.ntmps38
  go_wp2_with (refine wpList_loadA rfl 28 10 aggSg sizSg _ rfl b 11 rfl Z LZ.out CS.out ?_)
  refine (H2.out w).mono ?_
  rintro _ w1 ⟨rfl, bz⟩
  have B_w1 := hide bz
  have J_w1 := hide (HJ.out.later bz)
  have CS_w1 := hide (CS.out.later HJ.out.lt bz)
  clear bz H2
  cases h2 with
  | false =>
    go_wp2
    go_ret
    have e : R = (false, c, v) := by rw [HR.out]; unfold fMeets; rw [← E2.out, if_neg (by simp)]
    rw [e]
    exact ⟨rfl, J_w1.out, But.of_below B_w1.out⟩
  | true =>
    have ER : Hid (R = (if h16 = true then (false, { synC c s with st := 3, wl2 := s.ack, una := s.ack }, { v with ack := true, rep := 1 }) else (false, { synC c s with st := 2, wl2 := c.iss }, { v with rep := 3 }))) := by unfold Hid; rw [HR.out]; unfold fMeets; rw [← E2.out, ← E16.out, if_pos rfl]
    go_upto_region 3 with fail
    have BW : ∀ W, Below w1.heap.size w1.drew W → Below w1.heap.size w1 W := fun W hb => later (later_drew _) hb
    refine region_grow_store (w := w1) (fun i v W => match i with | 0 => v = .pointer (some ⟨b, 0, none⟩) | 1 => v = .pointer (some ⟨b, 0, none⟩) | 2 => v = .pointer (some ⟨b, 0, none⟩) | 3 => v = .pointer (some ⟨b, 0, none⟩) | 4 => v = .agg (c.cells).toArray | 5 => v = .pointer (some ⟨b, 0, none⟩) | 6 => v = .pointer (some ⟨b, 0, none⟩) | 7 => v = .pointer (some ⟨b, 11, none⟩) | 8 => v = .agg (s.cells gv dv).toArray | 9 => v = .agg (synC c s).cells.toArray | 10 => v = .pointer (some ⟨b, 0, none⟩) | 11 => v = .pointer (some ⟨b, 0, none⟩) | _ => True) (by kernel_rfl) (by kernel_rfl) (by kernel_rfl) 12 rfl _ rfl rfl (no_guard (by kernel_rfl)) (fun i v W W' h hb => match i, h with | 0, h => h | 1, h => h | 2, h => h | 3, h => h | 4, h => h | 5, h => h | 6, h => h | 7, h => h | 8, h => h | 9, h => h | 10, h => h | 11, h => h | _ + 12, h => h) ?_ ?_
    · intro listed a W hM hn i o ho hlt hr
      have B := hM.bel
      match i, ho, hlt, hr with
      | 0, ho, _, hr =>
        have u0 : a.eval (.tmp 0) = .pointer (some ⟨b, 0, none⟩) := hM.keep (t := 0) (by kernel_rfl)
        exact Step.of rfl (.inl ⟨.pointer (some ⟨b, 0, none⟩), W, exec_move _ _ rfl u0, Below.refl _ _, rfl⟩) ho
      | 1, ho, _, hr =>
        have u0 : a.eval (.tmp 0) = .pointer (some ⟨b, 0, none⟩) := hM.keep (t := 0) (by kernel_rfl)
        exact Step.of rfl (.inl ⟨.pointer (some ⟨b, 0, none⟩), W, exec_move _ _ rfl u0, Below.refl _ _, rfl⟩) ho
      | 2, ho, _, hr =>
        have u10 := hM.use hr rfl (j := 1) (by kernel_rfl) rfl rfl
        have u10 : a.eval (.tmp 10) = .pointer (some ⟨b, 0, none⟩) := u10
        exact Step.of rfl (.inl ⟨.pointer (some ⟨b, 0, none⟩), W, exec_nil _ _ rfl u10, Below.refl _ _, rfl⟩) ho
      | 3, ho, _, hr =>
        have u11 := hM.use hr rfl (j := 2) (by kernel_rfl) rfl rfl
        have u11 : a.eval (.tmp 11) = .pointer (some ⟨b, 0, none⟩) := u11
        exact Step.of rfl (.inl ⟨.pointer (some ⟨b, 0, none⟩), W, exec_fieldO 50 _ 0 b 0 0 rfl u11 (fun w => by kernel_rfl), Below.refl _ _, rfl⟩) ho
      | 4, ho, _, hr =>
        have u12 := hM.use hr rfl (j := 3) (by kernel_rfl) rfl rfl
        have u12 : a.eval (.tmp 12) = .pointer (some ⟨b, 0, none⟩) := u12
        exact Step.of rfl (.inl ⟨.agg (c.cells).toArray, W, exec_loadA 24 11 aggCt sizCt _ rfl b 0 u12 (c.cells) rfl ((J_w1.out.later (BW W B)).cc), Below.refl _ _, rfl⟩) ho
      | 5, ho, _, hr =>
        have u0 : a.eval (.tmp 0) = .pointer (some ⟨b, 0, none⟩) := hM.keep (t := 0) (by kernel_rfl)
        exact Step.of rfl (.inl ⟨.pointer (some ⟨b, 0, none⟩), W, exec_move _ _ rfl u0, Below.refl _ _, rfl⟩) ho
      | 6, ho, _, hr =>
        have u14 := hM.use hr rfl (j := 5) (by kernel_rfl) rfl rfl
        have u14 : a.eval (.tmp 14) = .pointer (some ⟨b, 0, none⟩) := u14
        exact Step.of rfl (.inl ⟨.pointer (some ⟨b, 0, none⟩), W, exec_nil _ _ rfl u14, Below.refl _ _, rfl⟩) ho
      | 7, ho, _, hr =>
        have u15 := hM.use hr rfl (j := 6) (by kernel_rfl) rfl rfl
        have u15 : a.eval (.tmp 15) = .pointer (some ⟨b, 0, none⟩) := u15
        exact Step.of rfl (.inl ⟨.pointer (some ⟨b, 11, none⟩), W, exec_fieldO 50 _ 1 b 0 11 rfl u15 (fun w => by kernel_rfl), Below.refl _ _, rfl⟩) ho
      | 8, ho, _, hr =>
        have u16 := hM.use hr rfl (j := 7) (by kernel_rfl) rfl rfl
        have u16 : a.eval (.tmp 16) = .pointer (some ⟨b, 11, none⟩) := u16
        exact Step.of rfl (.inl ⟨.agg (s.cells gv dv).toArray, W, exec_loadA 28 10 aggSg sizSg _ rfl b 11 u16 (s.cells gv dv) rfl ((J_w1.out.later (BW W B)).cs), Below.refl _ _, rfl⟩) ho
      | 9, ho, _, hr =>
        have u13 := hM.use hr rfl (j := 4) (by kernel_rfl) rfl rfl
        have u13 : a.eval (.tmp 13) = .agg (c.cells).toArray := u13
        have u17 := hM.use hr rfl (j := 8) (by kernel_rfl) rfl rfl
        have u17 : a.eval (.tmp 17) = .agg (s.cells gv dv).toArray := u17
        refine Step.of rfl (.inr ⟨31, #[.agg c.cells.toArray, .agg (s.cells gv dv).toArray], exec_callF _ _ _ _ rfl (map2 u13 u17) (enters_of Try.func31 (by kernel_rfl) rfl), ?_⟩) ho
        exact (withSyn_any c s gv dv W).mono fun e w' h => ⟨_, h.1, rfl, h.2⟩
      | 10, ho, _, hr =>
        have u9 := hM.use hr rfl (j := 0) (by kernel_rfl) rfl rfl
        have u9 : a.eval (.tmp 9) = .pointer (some ⟨b, 0, none⟩) := u9
        exact Step.of rfl (.inl ⟨.pointer (some ⟨b, 0, none⟩), W, exec_nil _ _ rfl u9, Below.refl _ _, rfl⟩) ho
      | 11, ho, _, hr =>
        have u19 := hM.use hr rfl (j := 10) (by kernel_rfl) rfl rfl
        have u19 : a.eval (.tmp 19) = .pointer (some ⟨b, 0, none⟩) := u19
        exact Step.of rfl (.inl ⟨.pointer (some ⟨b, 0, none⟩), W, exec_fieldO 50 _ 0 b 0 0 rfl u19 (fun w => by kernel_rfl), Below.refl _ _, rfl⟩) ho
      | n + 12, _, hlt, _ => exact absurd hlt (by omega)
    intro listed a W hM hl
    have B := hM.bel
    have p9 : a.tmps.getD 9 undef = .pointer (some ⟨b, 0, none⟩) := hM.got 0 _ _ rfl (hl 0 (by decide)) rfl
    have p10 : a.tmps.getD 10 undef = .pointer (some ⟨b, 0, none⟩) := hM.got 1 _ _ rfl (hl 1 (by decide)) rfl
    have p11 : a.tmps.getD 11 undef = .pointer (some ⟨b, 0, none⟩) := hM.got 2 _ _ rfl (hl 2 (by decide)) rfl
    have p12 : a.tmps.getD 12 undef = .pointer (some ⟨b, 0, none⟩) := hM.got 3 _ _ rfl (hl 3 (by decide)) rfl
    have p13 : a.tmps.getD 13 undef = .agg (c.cells).toArray := hM.got 4 _ _ rfl (hl 4 (by decide)) rfl
    have p14 : a.tmps.getD 14 undef = .pointer (some ⟨b, 0, none⟩) := hM.got 5 _ _ rfl (hl 5 (by decide)) rfl
    have p15 : a.tmps.getD 15 undef = .pointer (some ⟨b, 0, none⟩) := hM.got 6 _ _ rfl (hl 6 (by decide)) rfl
    have p16 : a.tmps.getD 16 undef = .pointer (some ⟨b, 11, none⟩) := hM.got 7 _ _ rfl (hl 7 (by decide)) rfl
    have p17 : a.tmps.getD 17 undef = .agg (s.cells gv dv).toArray := hM.got 8 _ _ rfl (hl 8 (by decide)) rfl
    have p18 : (fun v W => v = .agg (synC c s).cells.toArray) (a.tmps.getD 18 undef) W := hM.got 9 _ _ rfl (hl 9 (by decide)) rfl
    have p19 : a.tmps.getD 19 undef = .pointer (some ⟨b, 0, none⟩) := hM.got 10 _ _ rfl (hl 10 (by decide)) rfl
    have p20 : a.tmps.getD 20 undef = .pointer (some ⟨b, 0, none⟩) := hM.got 11 _ _ rfl (hl 11 (by decide)) rfl
    refine ⟨W.setCells b 0 (synC c s).cells, exec_storeA 24 11 sizCt (.tmp 20) (.tmp 18) rfl b 0 p20 _ c.cells p18 rfl rfl (J_w1.out.later (BW W B)).cc (J_w1.out.later (BW W B)).fz (ct_one _), ?_⟩
    rw [hM.lit [9, 10, 11, 12, 13, 14, 15, 16, 17, 18, 19, 20] (by kernel_rfl)]
    clear hM hl
    simp only [fill, List.foldl_cons, List.foldl_nil, Act.put, List.setIfInBounds_toArray, List.set_cons_zero, List.set_cons_succ]
    clear p9
    generalize a.tmps.getD 9 undef = x9 at *
    clear p10
    generalize a.tmps.getD 10 undef = x10 at *
    clear p11
    generalize a.tmps.getD 11 undef = x11 at *
    clear p12
    generalize a.tmps.getD 12 undef = x12 at *
    clear p13
    generalize a.tmps.getD 13 undef = x13 at *
    clear p14
    generalize a.tmps.getD 14 undef = x14 at *
    clear p15
    generalize a.tmps.getD 15 undef = x15 at *
    clear p16
    generalize a.tmps.getD 16 undef = x16 at *
    clear p17
    generalize a.tmps.getD 17 undef = x17 at *
    generalize a.tmps.getD 18 undef = x18 at *
    clear p19
    generalize a.tmps.getD 19 undef = x19 at *
    clear p20
    generalize a.tmps.getD 20 undef = x20 at *
    obtain ⟨w2, hw2⟩ : ∃ w2, w2 = W.setCells b 0 (synC c s).cells := ⟨_, rfl⟩
    rw [← hw2]
    obtain ⟨K, hK⟩ : ∃ K, K = synC c s := ⟨_, rfl⟩
    rw [← hK] at hw2
    have EK : Hid (R = (if h16 = true then (false, { K with st := 3, wl2 := s.ack, una := s.ack }, { v with ack := true, rep := 1 }) else (false, { K with st := 2, wl2 := c.iss }, { v with rep := 3 }))) := by rw [hK]; exact ER.out
    have KI : Hid (K.iss = c.iss) := by rw [hK]; exact rfl
    have J2 : Hid (JgAt w2 b K s gv dv v) := by rw [hw2]; exact (J_w1.out.later (BW W B)).stC K
    have B2 : Hid (But (Only b) w w2) := by rw [hw2]; exact (But.of_below (K := Only b) (later B_w1.out (BW W B))).trans (But.cells b K.cells 0 W)
    have CS2 : Hid (CellsAt w2 b 11 Z) := by rw [ZV.out]; exact J2.out.cs
    clear hw2 hK ER B BW J_w1 B_w1 CS_w1
    go_wp2_with (refine wpList_loadA rfl 28 10 aggSg sizSg _ rfl b 11 rfl Z LZ.out CS2.out ?_)
    refine (H16.out w2).mono ?_
    rintro _ w3 ⟨rfl, bz⟩
    have J3 := hide (J2.out.later bz)
    have B3 := hide (B2.out.after bz)
    clear bz H16 CS2 J2 B2
    have x0 : w3.cell? ⟨b, 0, none⟩ = some (.int .i64 K.st) := J3.out.cc 0 _ rfl
    have x1 : w3.cell? ⟨b, 1, none⟩ = some (.int .u32 K.iss) := J3.out.cc 1 _ rfl
    have x7 : w3.cell? ⟨b, 7, none⟩ = some (.int .u32 K.wl2) := J3.out.cc 7 _ rfl
    have x14 : w3.cell? ⟨b, 14, none⟩ = some (.int .u32 s.ack) := J3.out.cs 3 _ rfl
    have f0 := J3.out.fz 0
    have f7 := J3.out.fz 7
    cases h16 with
    | true =>
      obtain ⟨w4, hw4⟩ : ∃ w4, w4 = (w3.setCell ⟨b, 0, none⟩ (.int .i64 3)).setCell ⟨b, 7, none⟩ (.int .u32 s.ack) := ⟨_, rfl⟩
      have J4 : Hid (JgAt w4 b { K with st := 3, wl2 := s.ack } s gv dv v) := by rw [hw4]; exact (J3.out.setC (k := 0) (c' := { K with st := 3 }) (by decide) (.int .i64 3) rfl).setC (k := 7) (by decide) (.int .u32 s.ack) rfl
      have B4 : Hid (But (Only b) w w4) := by rw [hw4]; exact (B3.out.setOf (b := b) rfl 0 _).setOf (b := b) rfl 7 _
      have hw4' := hw4.symm
      clear hw4
      go_upto_region 7 with fail
      clear x0 x1 x7 x14 f0 f7 hw4'
      have CN := hide (acknowledge_any J4.out)
      go_wp2_with fail
      refine CN.out.mono ?_
      rintro _ w5 ⟨rfl, jz, bz⟩
      have J_w5 := hide jz
      have B_w5 : Hid (But (Only b) w w5) := B4.out.trans bz
      clear jz bz CN
      have CN := hide (reply_any J_w5.out 1)
      go_wp2_with fail
      refine CN.out.mono ?_
      rintro _ w6 ⟨rfl, jz, bz⟩
      have J_w6 := hide jz
      have B_w6 : Hid (But (Only b) w w6) := B_w5.out.trans bz
      clear jz bz CN
      go_wp2
      go_ret
      have e : R = (false, { K with st := 3, wl2 := s.ack, una := s.ack }, { v with ack := true, rep := 1 }) := by rw [EK.out]; simp
      rw [e]
      exact ⟨rfl, J_w6.out, B_w6.out⟩
    | false =>
      obtain ⟨w4, hw4⟩ : ∃ w4, w4 = (w3.setCell ⟨b, 0, none⟩ (.int .i64 2)).setCell ⟨b, 7, none⟩ (.int .u32 K.iss) := ⟨_, rfl⟩
      have J4 : Hid (JgAt w4 b { K with st := 2, wl2 := K.iss } s gv dv v) := by rw [hw4]; exact (J3.out.setC (k := 0) (c' := { K with st := 2 }) (by decide) (.int .i64 2) rfl).setC (k := 7) (by decide) (.int .u32 K.iss) rfl
      have B4 : Hid (But (Only b) w w4) := by rw [hw4]; exact (B3.out.setOf (b := b) rfl 0 _).setOf (b := b) rfl 7 _
      have hw4' := hw4.symm
      clear hw4
      go_upto_region 11 with fail
      clear x0 x1 x7 x14 f0 f7 hw4'
      have CN := hide (reply_any J4.out 3)
      go_wp2_with fail
      refine CN.out.mono ?_
      rintro _ w6 ⟨rfl, jz, bz⟩
      have J_w6 := hide jz
      have B_w6 : Hid (But (Only b) w w6) := B4.out.trans bz
      clear jz bz CN
      go_wp2
      go_ret
      have e : R = (false, { K with st := 2, wl2 := K.iss }, { v with rep := 3 }) := by rw [EK.out, KI.out]; simp
      rw [e]
      exact ⟨rfl, J_w6.out, B_w6.out⟩
set_option maxHeartbeats 8000000 in
theorem isNotThrough_any (J : JgAt w b c s gv dv v) : SD 44 b w s gv dv (fThrough c s v) := by
  unfold SD
  obtain ⟨R, hR⟩ : ∃ R, R = fThrough c s v := ⟨_, rfl⟩
  have HR := hide hR
  rw [← hR]
  have HJ := hide J
  clear J hR
  go_enter Try.func44, Try.ntmps44
  go_upto_region 1 with fail
  cases hf : c.fs with
  | false =>
    refine region_quiet_C (fun W => Below w.heap.size w W) (by kernel_rfl) (by kernel_rfl) (later_drew _) ?_
    go_big_quiet_step (fail)
    go_big_quiet_want
    refine quiet_pure (.pointer (some ⟨b, 0, none⟩)) (fun W hW => exec_nil _ _ rfl rfl) ?_
    go_big_quiet_on
    simp only [Act.put, List.setIfInBounds_toArray, List.set_cons_succ, List.set_cons_zero]
    go_big_quiet_want
    refine quiet_pure (.pointer (some ⟨b, 0, none⟩)) (fun W hW => exec_fieldO 50 _ 0 b 0 0 rfl rfl (fun w => by kernel_rfl)) ?_
    go_big_quiet_on
    simp only [Act.put, List.setIfInBounds_toArray, List.set_cons_succ, List.set_cons_zero]
    go_big_quiet_want
    refine quiet_pure (.pointer (some ⟨b, 4, none⟩)) (fun W hW => exec_fieldO 24 _ 4 b 0 4 rfl rfl (fun w => by kernel_rfl)) ?_
    go_big_quiet_on
    simp only [Act.put, List.setIfInBounds_toArray, List.set_cons_succ, List.set_cons_zero]
    go_big_quiet_want
    refine quiet_pure (.bool false) (fun W hW => exec_load1 4 oneB _ rfl b 4 rfl (.bool false) (by have h := (HJ.out.later hW).cc 4 _ rfl; rw [hf] at h; exact h)) ?_
    go_big_quiet_on
    simp only [Act.put, List.setIfInBounds_toArray, List.set_cons_succ, List.set_cons_zero]
    go_big_quiet_want
    refine quiet_pure (.bool true) (fun W hW => exec_not _ _ false rfl rfl) ?_
    go_big_quiet_on
    simp only [Act.put, List.setIfInBounds_toArray, List.set_cons_succ, List.set_cons_zero]
    go_big_quiet_step (fail)
    go_big_quiet_step (fail)
    go_big_quiet_step (fail)
    go_big_quiet_step (fail)
    go_big_quiet_step (fail)
    go_big_quiet_step (fail)
    go_big_quiet_step (fail)
    go_big_quiet_step (fail)
    go_big_quiet_step (fail)
    go_big_quiet_step (fail)
    go_big_quiet_step (fail)
    go_big_quiet_step (fail)
    go_big_quiet_want
    refine quiet_pure (.bool true) (fun W hW => exec_pick _ _ _ true _ rfl rfl rfl) ?_
    go_big_quiet_on
    simp only [Act.put, List.setIfInBounds_toArray, List.set_cons_succ, List.set_cons_zero]
    refine wpQuiet_nil ?_
    intro wq bq
    have BQ := hide bq
    clear bq
    go_wp2
    go_ret
    have e : R = (true, c, v) := by rw [HR.out]; unfold fThrough; rw [if_neg (by rw [hf]; simp)]
    rw [e]
    exact ⟨rfl, HJ.out.later BQ.out, But.of_below BQ.out⟩
  | true =>
    by_cases h : c.una = c.nxt
    · have hd : (!decide (c.una = c.nxt)) = false := by rw [decide_eq_true h]; rfl
      refine region_quiet_C (fun W => Below w.heap.size w W) (by kernel_rfl) (by kernel_rfl) (later_drew _) ?_
      go_big_quiet_step (fail)
      go_big_quiet_want
      refine quiet_pure (.pointer (some ⟨b, 0, none⟩)) (fun W hW => exec_nil _ _ rfl rfl) ?_
      go_big_quiet_on
      simp only [Act.put, List.setIfInBounds_toArray, List.set_cons_succ, List.set_cons_zero]
      go_big_quiet_want
      refine quiet_pure (.pointer (some ⟨b, 0, none⟩)) (fun W hW => exec_fieldO 50 _ 0 b 0 0 rfl rfl (fun w => by kernel_rfl)) ?_
      go_big_quiet_on
      simp only [Act.put, List.setIfInBounds_toArray, List.set_cons_succ, List.set_cons_zero]
      go_big_quiet_want
      refine quiet_pure (.pointer (some ⟨b, 4, none⟩)) (fun W hW => exec_fieldO 24 _ 4 b 0 4 rfl rfl (fun w => by kernel_rfl)) ?_
      go_big_quiet_on
      simp only [Act.put, List.setIfInBounds_toArray, List.set_cons_succ, List.set_cons_zero]
      go_big_quiet_want
      refine quiet_pure (.bool true) (fun W hW => exec_load1 4 oneB _ rfl b 4 rfl (.bool true) (by have h := (HJ.out.later hW).cc 4 _ rfl; rw [hf] at h; exact h)) ?_
      go_big_quiet_on
      simp only [Act.put, List.setIfInBounds_toArray, List.set_cons_succ, List.set_cons_zero]
      go_big_quiet_want
      refine quiet_pure (.bool false) (fun W hW => exec_not _ _ true rfl rfl) ?_
      go_big_quiet_on
      simp only [Act.put, List.setIfInBounds_toArray, List.set_cons_succ, List.set_cons_zero]
      go_big_quiet_step (fail)
      go_big_quiet_step (fail)
      go_big_quiet_want
      refine quiet_pure (.pointer (some ⟨b, 0, none⟩)) (fun W hW => exec_nil _ _ rfl rfl) ?_
      go_big_quiet_on
      simp only [Act.put, List.setIfInBounds_toArray, List.set_cons_succ, List.set_cons_zero]
      go_big_quiet_want
      refine quiet_pure (.pointer (some ⟨b, 0, none⟩)) (fun W hW => exec_fieldO 50 _ 0 b 0 0 rfl rfl (fun w => by kernel_rfl)) ?_
      go_big_quiet_on
      simp only [Act.put, List.setIfInBounds_toArray, List.set_cons_succ, List.set_cons_zero]
      go_big_quiet_want
      refine quiet_pure (.pointer (some ⟨b, 2, none⟩)) (fun W hW => exec_fieldO 24 _ 2 b 0 2 rfl rfl (fun w => by kernel_rfl)) ?_
      go_big_quiet_on
      simp only [Act.put, List.setIfInBounds_toArray, List.set_cons_succ, List.set_cons_zero]
      go_big_quiet_want
      refine quiet_pure (.int .u32 c.una) (fun W hW => exec_load1 22 one32 _ rfl b 2 rfl (.int .u32 c.una) ((HJ.out.later hW).cc 2 _ rfl)) ?_
      go_big_quiet_on
      simp only [Act.put, List.setIfInBounds_toArray, List.set_cons_succ, List.set_cons_zero]
      go_big_quiet_step (fail)
      go_big_quiet_want
      refine quiet_pure (.pointer (some ⟨b, 0, none⟩)) (fun W hW => exec_nil _ _ rfl rfl) ?_
      go_big_quiet_on
      simp only [Act.put, List.setIfInBounds_toArray, List.set_cons_succ, List.set_cons_zero]
      go_big_quiet_want
      refine quiet_pure (.pointer (some ⟨b, 0, none⟩)) (fun W hW => exec_fieldO 50 _ 0 b 0 0 rfl rfl (fun w => by kernel_rfl)) ?_
      go_big_quiet_on
      simp only [Act.put, List.setIfInBounds_toArray, List.set_cons_succ, List.set_cons_zero]
      go_big_quiet_want
      refine quiet_pure (.pointer (some ⟨b, 3, none⟩)) (fun W hW => exec_fieldO 24 _ 3 b 0 3 rfl rfl (fun w => by kernel_rfl)) ?_
      go_big_quiet_on
      simp only [Act.put, List.setIfInBounds_toArray, List.set_cons_succ, List.set_cons_zero]
      go_big_quiet_want
      refine quiet_pure (.int .u32 c.nxt) (fun W hW => exec_load1 22 one32 _ rfl b 3 rfl (.int .u32 c.nxt) ((HJ.out.later hW).cc 3 _ rfl)) ?_
      go_big_quiet_on
      simp only [Act.put, List.setIfInBounds_toArray, List.set_cons_succ, List.set_cons_zero]
      go_big_quiet_want
      refine quiet_pure (.bool false) (fun W hW => exec_neu _ _ _ _ _ _ rfl rfl rfl hd) ?_
      go_big_quiet_on
      simp only [Act.put, List.setIfInBounds_toArray, List.set_cons_succ, List.set_cons_zero]
      go_big_quiet_want
      refine quiet_pure (.bool false) (fun W hW => exec_pick _ _ _ false _ rfl rfl rfl) ?_
      go_big_quiet_on
      simp only [Act.put, List.setIfInBounds_toArray, List.set_cons_succ, List.set_cons_zero]
      refine wpQuiet_nil ?_
      intro wq bq
      obtain ⟨w1, hw1⟩ : ∃ w1, w1 = wq := ⟨_, rfl⟩
      rw [← hw1] at bq ⊢
      have BQ := hide bq
      have J1 := hide (HJ.out.later bq)
      clear bq hw1
      have ER : Hid (R = (if c.st = 4 then (true, { c with st := 5 }, v) else if c.st = 7 then (true, { c with st := 9 }, v) else if c.st = 8 then (false, c, { v with en := 218 }) else (true, c, v))) := by unfold Hid; rw [HR.out]; unfold fThrough; rw [if_pos ⟨hf, h⟩]
      have x0 : w1.cell? ⟨b, 0, none⟩ = some (.int .i64 c.st) := J1.out.cc 0 _ rfl
      have x33 : w1.cell? ⟨b, 33, none⟩ = some (.int .i64 v.en) := J1.out.cv 12 _ rfl
      have f0 := J1.out.fz 0
      have f33 := J1.out.fz 33
      by_cases h4 : c.st = 4
      · skip
        go_wp2
        go_ret
        have e : R = (true, { c with st := 5 }, v) := by rw [ER.out, if_pos h4]
        rw [e]
        exact ⟨rfl, J1.out.setC (k := 0) (by decide) (.int .i64 5) rfl, (But.of_below (K := Only b) BQ.out).setOf (b := b) rfl 0 _⟩
      by_cases h7 : c.st = 7
      · skip
        go_wp2
        go_ret
        have e : R = (true, { c with st := 9 }, v) := by rw [ER.out, if_neg h4, if_pos h7]
        rw [e]
        exact ⟨rfl, J1.out.setC (k := 0) (by decide) (.int .i64 9) rfl, (But.of_below (K := Only b) BQ.out).setOf (b := b) rfl 0 _⟩
      by_cases h8 : c.st = 8
      · skip
        go_wp2
        go_ret
        have e : R = (false, c, { v with en := 218 }) := by rw [ER.out, if_neg h4, if_neg h7, if_pos h8]
        rw [e]
        exact ⟨rfl, J1.out.setV (k := 12) (by decide) (.int .i64 218) rfl, (But.of_below (K := Only b) BQ.out).setOf (b := b) rfl 33 _⟩
      go_wp2
      go_ret
      have e : R = (true, c, v) := by rw [ER.out, if_neg h4, if_neg h7, if_neg h8]
      rw [e]
      exact ⟨rfl, J1.out, But.of_below BQ.out⟩
    · have hd : (!decide (c.una = c.nxt)) = true := by rw [decide_eq_false h]; rfl
      refine region_quiet_C (fun W => Below w.heap.size w W) (by kernel_rfl) (by kernel_rfl) (later_drew _) ?_
      go_big_quiet_step (fail)
      go_big_quiet_want
      refine quiet_pure (.pointer (some ⟨b, 0, none⟩)) (fun W hW => exec_nil _ _ rfl rfl) ?_
      go_big_quiet_on
      simp only [Act.put, List.setIfInBounds_toArray, List.set_cons_succ, List.set_cons_zero]
      go_big_quiet_want
      refine quiet_pure (.pointer (some ⟨b, 0, none⟩)) (fun W hW => exec_fieldO 50 _ 0 b 0 0 rfl rfl (fun w => by kernel_rfl)) ?_
      go_big_quiet_on
      simp only [Act.put, List.setIfInBounds_toArray, List.set_cons_succ, List.set_cons_zero]
      go_big_quiet_want
      refine quiet_pure (.pointer (some ⟨b, 4, none⟩)) (fun W hW => exec_fieldO 24 _ 4 b 0 4 rfl rfl (fun w => by kernel_rfl)) ?_
      go_big_quiet_on
      simp only [Act.put, List.setIfInBounds_toArray, List.set_cons_succ, List.set_cons_zero]
      go_big_quiet_want
      refine quiet_pure (.bool true) (fun W hW => exec_load1 4 oneB _ rfl b 4 rfl (.bool true) (by have h := (HJ.out.later hW).cc 4 _ rfl; rw [hf] at h; exact h)) ?_
      go_big_quiet_on
      simp only [Act.put, List.setIfInBounds_toArray, List.set_cons_succ, List.set_cons_zero]
      go_big_quiet_want
      refine quiet_pure (.bool false) (fun W hW => exec_not _ _ true rfl rfl) ?_
      go_big_quiet_on
      simp only [Act.put, List.setIfInBounds_toArray, List.set_cons_succ, List.set_cons_zero]
      go_big_quiet_step (fail)
      go_big_quiet_step (fail)
      go_big_quiet_want
      refine quiet_pure (.pointer (some ⟨b, 0, none⟩)) (fun W hW => exec_nil _ _ rfl rfl) ?_
      go_big_quiet_on
      simp only [Act.put, List.setIfInBounds_toArray, List.set_cons_succ, List.set_cons_zero]
      go_big_quiet_want
      refine quiet_pure (.pointer (some ⟨b, 0, none⟩)) (fun W hW => exec_fieldO 50 _ 0 b 0 0 rfl rfl (fun w => by kernel_rfl)) ?_
      go_big_quiet_on
      simp only [Act.put, List.setIfInBounds_toArray, List.set_cons_succ, List.set_cons_zero]
      go_big_quiet_want
      refine quiet_pure (.pointer (some ⟨b, 2, none⟩)) (fun W hW => exec_fieldO 24 _ 2 b 0 2 rfl rfl (fun w => by kernel_rfl)) ?_
      go_big_quiet_on
      simp only [Act.put, List.setIfInBounds_toArray, List.set_cons_succ, List.set_cons_zero]
      go_big_quiet_want
      refine quiet_pure (.int .u32 c.una) (fun W hW => exec_load1 22 one32 _ rfl b 2 rfl (.int .u32 c.una) ((HJ.out.later hW).cc 2 _ rfl)) ?_
      go_big_quiet_on
      simp only [Act.put, List.setIfInBounds_toArray, List.set_cons_succ, List.set_cons_zero]
      go_big_quiet_step (fail)
      go_big_quiet_want
      refine quiet_pure (.pointer (some ⟨b, 0, none⟩)) (fun W hW => exec_nil _ _ rfl rfl) ?_
      go_big_quiet_on
      simp only [Act.put, List.setIfInBounds_toArray, List.set_cons_succ, List.set_cons_zero]
      go_big_quiet_want
      refine quiet_pure (.pointer (some ⟨b, 0, none⟩)) (fun W hW => exec_fieldO 50 _ 0 b 0 0 rfl rfl (fun w => by kernel_rfl)) ?_
      go_big_quiet_on
      simp only [Act.put, List.setIfInBounds_toArray, List.set_cons_succ, List.set_cons_zero]
      go_big_quiet_want
      refine quiet_pure (.pointer (some ⟨b, 3, none⟩)) (fun W hW => exec_fieldO 24 _ 3 b 0 3 rfl rfl (fun w => by kernel_rfl)) ?_
      go_big_quiet_on
      simp only [Act.put, List.setIfInBounds_toArray, List.set_cons_succ, List.set_cons_zero]
      go_big_quiet_want
      refine quiet_pure (.int .u32 c.nxt) (fun W hW => exec_load1 22 one32 _ rfl b 3 rfl (.int .u32 c.nxt) ((HJ.out.later hW).cc 3 _ rfl)) ?_
      go_big_quiet_on
      simp only [Act.put, List.setIfInBounds_toArray, List.set_cons_succ, List.set_cons_zero]
      go_big_quiet_want
      refine quiet_pure (.bool true) (fun W hW => exec_neu _ _ _ _ _ _ rfl rfl rfl hd) ?_
      go_big_quiet_on
      simp only [Act.put, List.setIfInBounds_toArray, List.set_cons_succ, List.set_cons_zero]
      go_big_quiet_want
      refine quiet_pure (.bool true) (fun W hW => exec_pick _ _ _ false _ rfl rfl rfl) ?_
      go_big_quiet_on
      simp only [Act.put, List.setIfInBounds_toArray, List.set_cons_succ, List.set_cons_zero]
      refine wpQuiet_nil ?_
      intro wq bq
      have BQ := hide bq
      clear bq
      go_wp2
      go_ret
      have e : R = (true, c, v) := by rw [HR.out]; unfold fThrough; rw [if_neg (fun k => h k.2)]
      rw [e]
      exact ⟨rfl, HJ.out.later BQ.out, But.of_below BQ.out⟩
end
section
variable {w : World} {b : Nat} {c : Ct} {s : Sg} {gv : Value} {da : Option Addr} {dc : Nat} {v : Vd}
set_option maxHeartbeats 8000000 in
theorem hears_any (J : JgAt w b c s gv (.slice da s.dat.length dc) v) (hl : s.dat.length ≤ 1125899906842624) : SD 43 b w s gv (.slice da s.dat.length dc) (fHears c s v) := by
  unfold SD
  obtain ⟨R, hR⟩ : ∃ R, R = fHears c s v := ⟨_, rfl⟩
  have HR := hide hR
  rw [← hR]
  have HJ := hide J
  clear J hR
  go_enter Try.func43, Try.ntmps43
  have x0 : w.cell? ⟨b, 0, none⟩ = some (.int .i64 c.st) := HJ.out.cc 0 _ rfl
  obtain ⟨DV, hDV⟩ : ∃ DV : Value, DV = .slice da s.dat.length dc := ⟨_, rfl⟩
  have HDV := hide hDV
  by_cases h2 : c.st = 2
  · skip
    go_wp2
    go_ret
    have e : R = (true, c, v) := by rw [HR.out]; unfold fHears; rw [if_pos h2]
    rw [e]
    exact ⟨rfl, HJ.out, But.refl _ _⟩
  clear hDV
  go_upto_region 3 with fail
  clear x0
  by_cases h : 0 < dif s.ack c.nxt
  · have hd : decide (0 < dif s.ack c.nxt) = true := decide_eq_true h
    refine region_quiet_C (fun W => Below w.heap.size w W) (by kernel_rfl) (by kernel_rfl) (later_drew _) ?_
    go_big_quiet_step (fail)
    go_big_quiet_want
    refine quiet_pure (.pointer (some ⟨b, 0, none⟩)) (fun W hW => exec_nil _ _ rfl rfl) ?_
    go_big_quiet_on
    simp only [Act.put, List.setIfInBounds_toArray, List.set_cons_succ, List.set_cons_zero]
    go_big_quiet_want
    refine quiet_pure (.pointer (some ⟨b, 11, none⟩)) (fun W hW => exec_fieldO 50 _ 1 b 0 11 rfl rfl (fun w => by kernel_rfl)) ?_
    go_big_quiet_on
    simp only [Act.put, List.setIfInBounds_toArray, List.set_cons_succ, List.set_cons_zero]
    go_big_quiet_want
    refine quiet_pure (.pointer (some ⟨b, 14, none⟩)) (fun W hW => exec_fieldO 28 _ 3 b 11 14 rfl rfl (fun w => by kernel_rfl)) ?_
    go_big_quiet_on
    simp only [Act.put, List.setIfInBounds_toArray, List.set_cons_succ, List.set_cons_zero]
    go_big_quiet_want
    refine quiet_pure (.int .u32 s.ack) (fun W hW => exec_load1 22 one32 _ rfl b 14 rfl (.int .u32 s.ack) ((HJ.out.later hW).cs 3 _ rfl)) ?_
    go_big_quiet_on
    simp only [Act.put, List.setIfInBounds_toArray, List.set_cons_succ, List.set_cons_zero]
    go_big_quiet_step (fail)
    go_big_quiet_want
    refine quiet_pure (.pointer (some ⟨b, 0, none⟩)) (fun W hW => exec_nil _ _ rfl rfl) ?_
    go_big_quiet_on
    simp only [Act.put, List.setIfInBounds_toArray, List.set_cons_succ, List.set_cons_zero]
    go_big_quiet_want
    refine quiet_pure (.pointer (some ⟨b, 0, none⟩)) (fun W hW => exec_fieldO 50 _ 0 b 0 0 rfl rfl (fun w => by kernel_rfl)) ?_
    go_big_quiet_on
    simp only [Act.put, List.setIfInBounds_toArray, List.set_cons_succ, List.set_cons_zero]
    go_big_quiet_want
    refine quiet_pure (.pointer (some ⟨b, 3, none⟩)) (fun W hW => exec_fieldO 24 _ 3 b 0 3 rfl rfl (fun w => by kernel_rfl)) ?_
    go_big_quiet_on
    simp only [Act.put, List.setIfInBounds_toArray, List.set_cons_succ, List.set_cons_zero]
    go_big_quiet_want
    refine quiet_pure (.int .u32 c.nxt) (fun W hW => exec_load1 22 one32 _ rfl b 3 rfl (.int .u32 c.nxt) ((HJ.out.later hW).cc 3 _ rfl)) ?_
    go_big_quiet_on
    simp only [Act.put, List.setIfInBounds_toArray, List.set_cons_succ, List.set_cons_zero]
    go_big_quiet_want
    refine quiet_call 34 #[.int .u32 s.ack, .int .u32 c.nxt] (.bool true) (fun _ => by simp [Act.eval, go_sem]) (fun W hW => (isBehind_any s.ack c.nxt W).mono fun e w' h => ⟨by rw [← hd]; exact h.1, by rw [h.2]; exact hW⟩) ?_
    go_big_quiet_on
    simp only [Act.put, List.setIfInBounds_toArray, List.set_cons_succ, List.set_cons_zero]
    go_big_quiet_step (fail)
    go_big_quiet_step (fail)
    go_big_quiet_step (fail)
    go_big_quiet_step (fail)
    go_big_quiet_step (fail)
    go_big_quiet_step (fail)
    go_big_quiet_step (fail)
    go_big_quiet_step (fail)
    go_big_quiet_step (fail)
    go_big_quiet_step (fail)
    go_big_quiet_step (fail)
    go_big_quiet_step (fail)
    go_big_quiet_step (fail)
    go_big_quiet_want
    refine quiet_pure (.bool true) (fun W hW => exec_pick _ _ _ true _ rfl rfl rfl) ?_
    go_big_quiet_on
    simp only [Act.put, List.setIfInBounds_toArray, List.set_cons_succ, List.set_cons_zero]
    refine wpQuiet_nil ?_
    intro wq bq
    obtain ⟨w1, hw1⟩ : ∃ w1, w1 = wq := ⟨_, rfl⟩
    rw [← hw1] at bq ⊢
    have BQ := hide bq
    have J1 := hide (HJ.out.later bq)
    clear bq hw1
    have CN := hide (reply_any J1.out 1)
    go_wp2_with fail
    refine CN.out.mono ?_
    rintro _ w2 ⟨rfl, jz, bz⟩
    have J_w2 := hide jz
    have B_w2 : Hid (But (Only b) w w2) := (But.of_below (K := Only b) BQ.out).trans bz
    clear jz bz CN
    go_wp2
    go_ret
    have e : R = (false, c, { v with rep := 1 }) := by rw [HR.out]; unfold fHears; rw [if_neg h2, if_pos (.inl h)]
    rw [e]
    exact ⟨rfl, J_w2.out, B_w2.out⟩
  have hd : decide (0 < dif s.ack c.nxt) = false := decide_eq_false h
  by_cases h5 : 65535 < dif c.una s.ack
  · have hd2 : decide (65535 < dif c.una s.ack) = true := decide_eq_true h5
    refine region_quiet_C (fun W => Below w.heap.size w W) (by kernel_rfl) (by kernel_rfl) (later_drew _) ?_
    go_big_quiet_step (fail)
    go_big_quiet_want
    refine quiet_pure (.pointer (some ⟨b, 0, none⟩)) (fun W hW => exec_nil _ _ rfl rfl) ?_
    go_big_quiet_on
    simp only [Act.put, List.setIfInBounds_toArray, List.set_cons_succ, List.set_cons_zero]
    go_big_quiet_want
    refine quiet_pure (.pointer (some ⟨b, 11, none⟩)) (fun W hW => exec_fieldO 50 _ 1 b 0 11 rfl rfl (fun w => by kernel_rfl)) ?_
    go_big_quiet_on
    simp only [Act.put, List.setIfInBounds_toArray, List.set_cons_succ, List.set_cons_zero]
    go_big_quiet_want
    refine quiet_pure (.pointer (some ⟨b, 14, none⟩)) (fun W hW => exec_fieldO 28 _ 3 b 11 14 rfl rfl (fun w => by kernel_rfl)) ?_
    go_big_quiet_on
    simp only [Act.put, List.setIfInBounds_toArray, List.set_cons_succ, List.set_cons_zero]
    go_big_quiet_want
    refine quiet_pure (.int .u32 s.ack) (fun W hW => exec_load1 22 one32 _ rfl b 14 rfl (.int .u32 s.ack) ((HJ.out.later hW).cs 3 _ rfl)) ?_
    go_big_quiet_on
    simp only [Act.put, List.setIfInBounds_toArray, List.set_cons_succ, List.set_cons_zero]
    go_big_quiet_step (fail)
    go_big_quiet_want
    refine quiet_pure (.pointer (some ⟨b, 0, none⟩)) (fun W hW => exec_nil _ _ rfl rfl) ?_
    go_big_quiet_on
    simp only [Act.put, List.setIfInBounds_toArray, List.set_cons_succ, List.set_cons_zero]
    go_big_quiet_want
    refine quiet_pure (.pointer (some ⟨b, 0, none⟩)) (fun W hW => exec_fieldO 50 _ 0 b 0 0 rfl rfl (fun w => by kernel_rfl)) ?_
    go_big_quiet_on
    simp only [Act.put, List.setIfInBounds_toArray, List.set_cons_succ, List.set_cons_zero]
    go_big_quiet_want
    refine quiet_pure (.pointer (some ⟨b, 3, none⟩)) (fun W hW => exec_fieldO 24 _ 3 b 0 3 rfl rfl (fun w => by kernel_rfl)) ?_
    go_big_quiet_on
    simp only [Act.put, List.setIfInBounds_toArray, List.set_cons_succ, List.set_cons_zero]
    go_big_quiet_want
    refine quiet_pure (.int .u32 c.nxt) (fun W hW => exec_load1 22 one32 _ rfl b 3 rfl (.int .u32 c.nxt) ((HJ.out.later hW).cc 3 _ rfl)) ?_
    go_big_quiet_on
    simp only [Act.put, List.setIfInBounds_toArray, List.set_cons_succ, List.set_cons_zero]
    go_big_quiet_want
    refine quiet_call 34 #[.int .u32 s.ack, .int .u32 c.nxt] (.bool false) (fun _ => by simp [Act.eval, go_sem]) (fun W hW => (isBehind_any s.ack c.nxt W).mono fun e w' h => ⟨by rw [← hd]; exact h.1, by rw [h.2]; exact hW⟩) ?_
    go_big_quiet_on
    simp only [Act.put, List.setIfInBounds_toArray, List.set_cons_succ, List.set_cons_zero]
    go_big_quiet_step (fail)
    go_big_quiet_step (fail)
    go_big_quiet_want
    refine quiet_pure (.pointer (some ⟨b, 0, none⟩)) (fun W hW => exec_nil _ _ rfl rfl) ?_
    go_big_quiet_on
    simp only [Act.put, List.setIfInBounds_toArray, List.set_cons_succ, List.set_cons_zero]
    go_big_quiet_want
    refine quiet_pure (.pointer (some ⟨b, 0, none⟩)) (fun W hW => exec_fieldO 50 _ 0 b 0 0 rfl rfl (fun w => by kernel_rfl)) ?_
    go_big_quiet_on
    simp only [Act.put, List.setIfInBounds_toArray, List.set_cons_succ, List.set_cons_zero]
    go_big_quiet_want
    refine quiet_pure (.pointer (some ⟨b, 2, none⟩)) (fun W hW => exec_fieldO 24 _ 2 b 0 2 rfl rfl (fun w => by kernel_rfl)) ?_
    go_big_quiet_on
    simp only [Act.put, List.setIfInBounds_toArray, List.set_cons_succ, List.set_cons_zero]
    go_big_quiet_want
    refine quiet_pure (.int .u32 c.una) (fun W hW => exec_load1 22 one32 _ rfl b 2 rfl (.int .u32 c.una) ((HJ.out.later hW).cc 2 _ rfl)) ?_
    go_big_quiet_on
    simp only [Act.put, List.setIfInBounds_toArray, List.set_cons_succ, List.set_cons_zero]
    go_big_quiet_step (fail)
    go_big_quiet_want
    refine quiet_pure (.pointer (some ⟨b, 0, none⟩)) (fun W hW => exec_nil _ _ rfl rfl) ?_
    go_big_quiet_on
    simp only [Act.put, List.setIfInBounds_toArray, List.set_cons_succ, List.set_cons_zero]
    go_big_quiet_want
    refine quiet_pure (.pointer (some ⟨b, 11, none⟩)) (fun W hW => exec_fieldO 50 _ 1 b 0 11 rfl rfl (fun w => by kernel_rfl)) ?_
    go_big_quiet_on
    simp only [Act.put, List.setIfInBounds_toArray, List.set_cons_succ, List.set_cons_zero]
    go_big_quiet_want
    refine quiet_pure (.pointer (some ⟨b, 14, none⟩)) (fun W hW => exec_fieldO 28 _ 3 b 11 14 rfl rfl (fun w => by kernel_rfl)) ?_
    go_big_quiet_on
    simp only [Act.put, List.setIfInBounds_toArray, List.set_cons_succ, List.set_cons_zero]
    go_big_quiet_want
    refine quiet_pure (.int .u32 s.ack) (fun W hW => exec_load1 22 one32 _ rfl b 14 rfl (.int .u32 s.ack) ((HJ.out.later hW).cs 3 _ rfl)) ?_
    go_big_quiet_on
    simp only [Act.put, List.setIfInBounds_toArray, List.set_cons_succ, List.set_cons_zero]
    go_big_quiet_want
    refine quiet_call 47 #[.int .u32 c.una, .int .u32 s.ack] (.int .i64 (dif c.una s.ack)) (fun _ => by simp [Act.eval, go_sem]) (fun W hW => (Diff_any c.una s.ack W).mono fun e w' h => ⟨h.1, by rw [h.2]; exact hW⟩) ?_
    go_big_quiet_on
    simp only [Act.put, List.setIfInBounds_toArray, List.set_cons_succ, List.set_cons_zero]
    go_big_quiet_want
    refine quiet_pure (.bool true) (fun W hW => exec_gti _ _ _ _ _ _ rfl rfl rfl hd2) ?_
    go_big_quiet_on
    simp only [Act.put, List.setIfInBounds_toArray, List.set_cons_succ, List.set_cons_zero]
    go_big_quiet_want
    refine quiet_pure (.bool true) (fun W hW => exec_pick _ _ _ false _ rfl rfl rfl) ?_
    go_big_quiet_on
    simp only [Act.put, List.setIfInBounds_toArray, List.set_cons_succ, List.set_cons_zero]
    refine wpQuiet_nil ?_
    intro wq bq
    obtain ⟨w1, hw1⟩ : ∃ w1, w1 = wq := ⟨_, rfl⟩
    rw [← hw1] at bq ⊢
    have BQ := hide bq
    have J1 := hide (HJ.out.later bq)
    clear bq hw1
    have CN := hide (reply_any J1.out 1)
    go_wp2_with fail
    refine CN.out.mono ?_
    rintro _ w2 ⟨rfl, jz, bz⟩
    have J_w2 := hide jz
    have B_w2 : Hid (But (Only b) w w2) := (But.of_below (K := Only b) BQ.out).trans bz
    clear jz bz CN
    go_wp2
    go_ret
    have e : R = (false, c, { v with rep := 1 }) := by rw [HR.out]; unfold fHears; rw [if_neg h2, if_pos (.inr h5)]
    rw [e]
    exact ⟨rfl, J_w2.out, B_w2.out⟩
  have hd2 : decide (65535 < dif c.una s.ack) = false := decide_eq_false h5
  refine region_quiet_C (fun W => Below w.heap.size w W) (by kernel_rfl) (by kernel_rfl) (later_drew _) ?_
  go_big_quiet_step (fail)
  go_big_quiet_want
  refine quiet_pure (.pointer (some ⟨b, 0, none⟩)) (fun W hW => exec_nil _ _ rfl rfl) ?_
  go_big_quiet_on
  simp only [Act.put, List.setIfInBounds_toArray, List.set_cons_succ, List.set_cons_zero]
  go_big_quiet_want
  refine quiet_pure (.pointer (some ⟨b, 11, none⟩)) (fun W hW => exec_fieldO 50 _ 1 b 0 11 rfl rfl (fun w => by kernel_rfl)) ?_
  go_big_quiet_on
  simp only [Act.put, List.setIfInBounds_toArray, List.set_cons_succ, List.set_cons_zero]
  go_big_quiet_want
  refine quiet_pure (.pointer (some ⟨b, 14, none⟩)) (fun W hW => exec_fieldO 28 _ 3 b 11 14 rfl rfl (fun w => by kernel_rfl)) ?_
  go_big_quiet_on
  simp only [Act.put, List.setIfInBounds_toArray, List.set_cons_succ, List.set_cons_zero]
  go_big_quiet_want
  refine quiet_pure (.int .u32 s.ack) (fun W hW => exec_load1 22 one32 _ rfl b 14 rfl (.int .u32 s.ack) ((HJ.out.later hW).cs 3 _ rfl)) ?_
  go_big_quiet_on
  simp only [Act.put, List.setIfInBounds_toArray, List.set_cons_succ, List.set_cons_zero]
  go_big_quiet_step (fail)
  go_big_quiet_want
  refine quiet_pure (.pointer (some ⟨b, 0, none⟩)) (fun W hW => exec_nil _ _ rfl rfl) ?_
  go_big_quiet_on
  simp only [Act.put, List.setIfInBounds_toArray, List.set_cons_succ, List.set_cons_zero]
  go_big_quiet_want
  refine quiet_pure (.pointer (some ⟨b, 0, none⟩)) (fun W hW => exec_fieldO 50 _ 0 b 0 0 rfl rfl (fun w => by kernel_rfl)) ?_
  go_big_quiet_on
  simp only [Act.put, List.setIfInBounds_toArray, List.set_cons_succ, List.set_cons_zero]
  go_big_quiet_want
  refine quiet_pure (.pointer (some ⟨b, 3, none⟩)) (fun W hW => exec_fieldO 24 _ 3 b 0 3 rfl rfl (fun w => by kernel_rfl)) ?_
  go_big_quiet_on
  simp only [Act.put, List.setIfInBounds_toArray, List.set_cons_succ, List.set_cons_zero]
  go_big_quiet_want
  refine quiet_pure (.int .u32 c.nxt) (fun W hW => exec_load1 22 one32 _ rfl b 3 rfl (.int .u32 c.nxt) ((HJ.out.later hW).cc 3 _ rfl)) ?_
  go_big_quiet_on
  simp only [Act.put, List.setIfInBounds_toArray, List.set_cons_succ, List.set_cons_zero]
  go_big_quiet_want
  refine quiet_call 34 #[.int .u32 s.ack, .int .u32 c.nxt] (.bool false) (fun _ => by simp [Act.eval, go_sem]) (fun W hW => (isBehind_any s.ack c.nxt W).mono fun e w' h => ⟨by rw [← hd]; exact h.1, by rw [h.2]; exact hW⟩) ?_
  go_big_quiet_on
  simp only [Act.put, List.setIfInBounds_toArray, List.set_cons_succ, List.set_cons_zero]
  go_big_quiet_step (fail)
  go_big_quiet_step (fail)
  go_big_quiet_want
  refine quiet_pure (.pointer (some ⟨b, 0, none⟩)) (fun W hW => exec_nil _ _ rfl rfl) ?_
  go_big_quiet_on
  simp only [Act.put, List.setIfInBounds_toArray, List.set_cons_succ, List.set_cons_zero]
  go_big_quiet_want
  refine quiet_pure (.pointer (some ⟨b, 0, none⟩)) (fun W hW => exec_fieldO 50 _ 0 b 0 0 rfl rfl (fun w => by kernel_rfl)) ?_
  go_big_quiet_on
  simp only [Act.put, List.setIfInBounds_toArray, List.set_cons_succ, List.set_cons_zero]
  go_big_quiet_want
  refine quiet_pure (.pointer (some ⟨b, 2, none⟩)) (fun W hW => exec_fieldO 24 _ 2 b 0 2 rfl rfl (fun w => by kernel_rfl)) ?_
  go_big_quiet_on
  simp only [Act.put, List.setIfInBounds_toArray, List.set_cons_succ, List.set_cons_zero]
  go_big_quiet_want
  refine quiet_pure (.int .u32 c.una) (fun W hW => exec_load1 22 one32 _ rfl b 2 rfl (.int .u32 c.una) ((HJ.out.later hW).cc 2 _ rfl)) ?_
  go_big_quiet_on
  simp only [Act.put, List.setIfInBounds_toArray, List.set_cons_succ, List.set_cons_zero]
  go_big_quiet_step (fail)
  go_big_quiet_want
  refine quiet_pure (.pointer (some ⟨b, 0, none⟩)) (fun W hW => exec_nil _ _ rfl rfl) ?_
  go_big_quiet_on
  simp only [Act.put, List.setIfInBounds_toArray, List.set_cons_succ, List.set_cons_zero]
  go_big_quiet_want
  refine quiet_pure (.pointer (some ⟨b, 11, none⟩)) (fun W hW => exec_fieldO 50 _ 1 b 0 11 rfl rfl (fun w => by kernel_rfl)) ?_
  go_big_quiet_on
  simp only [Act.put, List.setIfInBounds_toArray, List.set_cons_succ, List.set_cons_zero]
  go_big_quiet_want
  refine quiet_pure (.pointer (some ⟨b, 14, none⟩)) (fun W hW => exec_fieldO 28 _ 3 b 11 14 rfl rfl (fun w => by kernel_rfl)) ?_
  go_big_quiet_on
  simp only [Act.put, List.setIfInBounds_toArray, List.set_cons_succ, List.set_cons_zero]
  go_big_quiet_want
  refine quiet_pure (.int .u32 s.ack) (fun W hW => exec_load1 22 one32 _ rfl b 14 rfl (.int .u32 s.ack) ((HJ.out.later hW).cs 3 _ rfl)) ?_
  go_big_quiet_on
  simp only [Act.put, List.setIfInBounds_toArray, List.set_cons_succ, List.set_cons_zero]
  go_big_quiet_want
  refine quiet_call 47 #[.int .u32 c.una, .int .u32 s.ack] (.int .i64 (dif c.una s.ack)) (fun _ => by simp [Act.eval, go_sem]) (fun W hW => (Diff_any c.una s.ack W).mono fun e w' h => ⟨h.1, by rw [h.2]; exact hW⟩) ?_
  go_big_quiet_on
  simp only [Act.put, List.setIfInBounds_toArray, List.set_cons_succ, List.set_cons_zero]
  go_big_quiet_want
  refine quiet_pure (.bool false) (fun W hW => exec_gti _ _ _ _ _ _ rfl rfl rfl hd2) ?_
  go_big_quiet_on
  simp only [Act.put, List.setIfInBounds_toArray, List.set_cons_succ, List.set_cons_zero]
  go_big_quiet_want
  refine quiet_pure (.bool false) (fun W hW => exec_pick _ _ _ false _ rfl rfl rfl) ?_
  go_big_quiet_on
  simp only [Act.put, List.setIfInBounds_toArray, List.set_cons_succ, List.set_cons_zero]
  refine wpQuiet_nil ?_
  intro wq bq
  obtain ⟨w1, hw1⟩ : ∃ w1, w1 = wq := ⟨_, rfl⟩
  rw [← hw1] at bq ⊢
  have BQ := hide bq
  have J1 := hide (HJ.out.later bq)
  clear bq hw1
  have ER : Hid (R = if 0 < dif s.ack c.una then
    (true, if latB { c with una := s.ack } s = true then { c with una := s.ack, wnd := s.wnd, wl1 := s.seq, wl2 := s.ack } else { c with una := s.ack }, { v with ack := true })
  else (true, if latB c s = true then { c with wnd := s.wnd, wl1 := s.seq, wl2 := s.ack } else c, { v with ag := agB c s })) := by unfold Hid; rw [HR.out]; unfold fHears; rw [if_neg h2, if_neg (fun k => k.elim h h5)]
  clear hd hd2 HJ h h5 h2
  go_upto_region 5 with fail
  by_cases h : 0 < dif s.ack c.una
  · have hd : decide (0 < dif s.ack c.una) = true := decide_eq_true h
    refine region_quiet_C (fun W => Below w1.heap.size w1 W) (by kernel_rfl) (by kernel_rfl) (later_drew _) ?_
    go_big_quiet_step (fail)
    go_big_quiet_want
    refine quiet_pure (.pointer (some ⟨b, 0, none⟩)) (fun W hW => exec_nil _ _ rfl rfl) ?_
    go_big_quiet_on
    simp only [Act.put, List.setIfInBounds_toArray, List.set_cons_succ, List.set_cons_zero]
    go_big_quiet_want
    refine quiet_pure (.pointer (some ⟨b, 11, none⟩)) (fun W hW => exec_fieldO 50 _ 1 b 0 11 rfl rfl (fun w => by kernel_rfl)) ?_
    go_big_quiet_on
    simp only [Act.put, List.setIfInBounds_toArray, List.set_cons_succ, List.set_cons_zero]
    go_big_quiet_want
    refine quiet_pure (.pointer (some ⟨b, 14, none⟩)) (fun W hW => exec_fieldO 28 _ 3 b 11 14 rfl rfl (fun w => by kernel_rfl)) ?_
    go_big_quiet_on
    simp only [Act.put, List.setIfInBounds_toArray, List.set_cons_succ, List.set_cons_zero]
    go_big_quiet_want
    refine quiet_pure (.int .u32 s.ack) (fun W hW => exec_load1 22 one32 _ rfl b 14 rfl (.int .u32 s.ack) ((J1.out.later hW).cs 3 _ rfl)) ?_
    go_big_quiet_on
    simp only [Act.put, List.setIfInBounds_toArray, List.set_cons_succ, List.set_cons_zero]
    go_big_quiet_step (fail)
    go_big_quiet_want
    refine quiet_pure (.pointer (some ⟨b, 0, none⟩)) (fun W hW => exec_nil _ _ rfl rfl) ?_
    go_big_quiet_on
    simp only [Act.put, List.setIfInBounds_toArray, List.set_cons_succ, List.set_cons_zero]
    go_big_quiet_want
    refine quiet_pure (.pointer (some ⟨b, 0, none⟩)) (fun W hW => exec_fieldO 50 _ 0 b 0 0 rfl rfl (fun w => by kernel_rfl)) ?_
    go_big_quiet_on
    simp only [Act.put, List.setIfInBounds_toArray, List.set_cons_succ, List.set_cons_zero]
    go_big_quiet_want
    refine quiet_pure (.pointer (some ⟨b, 2, none⟩)) (fun W hW => exec_fieldO 24 _ 2 b 0 2 rfl rfl (fun w => by kernel_rfl)) ?_
    go_big_quiet_on
    simp only [Act.put, List.setIfInBounds_toArray, List.set_cons_succ, List.set_cons_zero]
    go_big_quiet_want
    refine quiet_pure (.int .u32 c.una) (fun W hW => exec_load1 22 one32 _ rfl b 2 rfl (.int .u32 c.una) ((J1.out.later hW).cc 2 _ rfl)) ?_
    go_big_quiet_on
    simp only [Act.put, List.setIfInBounds_toArray, List.set_cons_succ, List.set_cons_zero]
    go_big_quiet_want
    refine quiet_call 34 #[.int .u32 s.ack, .int .u32 c.una] (.bool true) (fun _ => by simp [Act.eval, go_sem]) (fun W hW => (isBehind_any s.ack c.una W).mono fun e w' h => ⟨by rw [← hd]; exact h.1, by rw [h.2]; exact hW⟩) ?_
    go_big_quiet_on
    simp only [Act.put, List.setIfInBounds_toArray, List.set_cons_succ, List.set_cons_zero]
    refine wpQuiet_nil ?_
    intro wq bq
    obtain ⟨w2, hw2⟩ : ∃ w2, w2 = wq := ⟨_, rfl⟩
    rw [← hw2] at bq ⊢
    have B2 := hide (later BQ.out bq)
    have J2 := hide (J1.out.later bq)
    clear bq hw2
    have CN := hide (acknowledge_any J2.out)
    go_wp2_with fail
    refine CN.out.mono ?_
    rintro _ w3 ⟨rfl, jz, bz⟩
    have J_w3 := hide jz
    have B_w3 : Hid (But (Only b) w w3) := (But.of_below (K := Only b) B2.out).trans bz
    clear jz bz CN
    have LT := isLatest_any J_w3.out
    obtain ⟨l, hl2⟩ : ∃ l, l = latB { c with una := s.ack } s := ⟨_, rfl⟩
    rw [← hl2] at LT
    have HLT := hide LT
    have HL := hide hl2
    clear LT hl2
    go_wp2_with fail
    refine HLT.out.mono ?_
    rintro _ w8 ⟨rfl, bz⟩
    have J8 := hide ((J_w3.out).later bz)
    have B8 : Hid (But (Only b) w w8) := (B_w3.out).after bz
    clear bz HLT
    cases l with
    | true =>
      have CN := hide (letSend_any J8.out)
      go_wp2_with fail
      refine CN.out.mono ?_
      rintro _ w9 ⟨rfl, jz, bz⟩
      have J_w9 := hide jz
      have B_w9 : Hid (But (Only b) w w9) := B8.out.trans bz
      clear jz bz CN
      go_wp2
      go_ret
      have e : R = (true, { c with una := s.ack, wnd := s.wnd, wl1 := s.seq, wl2 := s.ack }, { v with ack := true }) := by rw [ER.out, if_pos h, ← HL.out, if_pos rfl]
      rw [e]
      exact ⟨rfl, J_w9.out, B_w9.out⟩
    | false =>
      go_wp2
      go_ret
      have e : R = (true, { c with una := s.ack }, { v with ack := true }) := by rw [ER.out, if_pos h, ← HL.out, if_neg (by simp)]
      rw [e]
      exact ⟨rfl, J8.out, B8.out⟩
  · have hd : decide (0 < dif s.ack c.una) = false := decide_eq_false h
    refine region_quiet_C (fun W => Below w1.heap.size w1 W) (by kernel_rfl) (by kernel_rfl) (later_drew _) ?_
    go_big_quiet_step (fail)
    go_big_quiet_want
    refine quiet_pure (.pointer (some ⟨b, 0, none⟩)) (fun W hW => exec_nil _ _ rfl rfl) ?_
    go_big_quiet_on
    simp only [Act.put, List.setIfInBounds_toArray, List.set_cons_succ, List.set_cons_zero]
    go_big_quiet_want
    refine quiet_pure (.pointer (some ⟨b, 11, none⟩)) (fun W hW => exec_fieldO 50 _ 1 b 0 11 rfl rfl (fun w => by kernel_rfl)) ?_
    go_big_quiet_on
    simp only [Act.put, List.setIfInBounds_toArray, List.set_cons_succ, List.set_cons_zero]
    go_big_quiet_want
    refine quiet_pure (.pointer (some ⟨b, 14, none⟩)) (fun W hW => exec_fieldO 28 _ 3 b 11 14 rfl rfl (fun w => by kernel_rfl)) ?_
    go_big_quiet_on
    simp only [Act.put, List.setIfInBounds_toArray, List.set_cons_succ, List.set_cons_zero]
    go_big_quiet_want
    refine quiet_pure (.int .u32 s.ack) (fun W hW => exec_load1 22 one32 _ rfl b 14 rfl (.int .u32 s.ack) ((J1.out.later hW).cs 3 _ rfl)) ?_
    go_big_quiet_on
    simp only [Act.put, List.setIfInBounds_toArray, List.set_cons_succ, List.set_cons_zero]
    go_big_quiet_step (fail)
    go_big_quiet_want
    refine quiet_pure (.pointer (some ⟨b, 0, none⟩)) (fun W hW => exec_nil _ _ rfl rfl) ?_
    go_big_quiet_on
    simp only [Act.put, List.setIfInBounds_toArray, List.set_cons_succ, List.set_cons_zero]
    go_big_quiet_want
    refine quiet_pure (.pointer (some ⟨b, 0, none⟩)) (fun W hW => exec_fieldO 50 _ 0 b 0 0 rfl rfl (fun w => by kernel_rfl)) ?_
    go_big_quiet_on
    simp only [Act.put, List.setIfInBounds_toArray, List.set_cons_succ, List.set_cons_zero]
    go_big_quiet_want
    refine quiet_pure (.pointer (some ⟨b, 2, none⟩)) (fun W hW => exec_fieldO 24 _ 2 b 0 2 rfl rfl (fun w => by kernel_rfl)) ?_
    go_big_quiet_on
    simp only [Act.put, List.setIfInBounds_toArray, List.set_cons_succ, List.set_cons_zero]
    go_big_quiet_want
    refine quiet_pure (.int .u32 c.una) (fun W hW => exec_load1 22 one32 _ rfl b 2 rfl (.int .u32 c.una) ((J1.out.later hW).cc 2 _ rfl)) ?_
    go_big_quiet_on
    simp only [Act.put, List.setIfInBounds_toArray, List.set_cons_succ, List.set_cons_zero]
    go_big_quiet_want
    refine quiet_call 34 #[.int .u32 s.ack, .int .u32 c.una] (.bool false) (fun _ => by simp [Act.eval, go_sem]) (fun W hW => (isBehind_any s.ack c.una W).mono fun e w' h => ⟨by rw [← hd]; exact h.1, by rw [h.2]; exact hW⟩) ?_
    go_big_quiet_on
    simp only [Act.put, List.setIfInBounds_toArray, List.set_cons_succ, List.set_cons_zero]
    refine wpQuiet_nil ?_
    intro wq bq
    obtain ⟨w2, hw2⟩ : ∃ w2, w2 = wq := ⟨_, rfl⟩
    rw [← hw2] at bq ⊢
    have B2 := hide (later BQ.out bq)
    have J2 := hide (J1.out.later bq)
    clear bq hw2
    have AG := isAgain_any J2.out hl
    obtain ⟨g, hg⟩ : ∃ g, g = agB c s := ⟨_, rfl⟩
    rw [← hg] at AG
    have HAG := hide AG
    have HG := hide hg
    clear AG hg
    go_wp2_with fail
    refine HAG.out.mono ?_
    rintro _ w3 ⟨rfl, bz⟩
    have J3 := hide (J2.out.later bz)
    have B3 := hide (later B2.out bz)
    clear bz HAG
    have x35 : w3.cell? ⟨b, 35, none⟩ = some (.bool v.ag) := J3.out.cv 14 _ rfl
    have f35 := J3.out.fz 35
    obtain ⟨w4, hw4⟩ : ∃ w4, w4 = w3.setCell ⟨b, 35, none⟩ (.bool g) := ⟨_, rfl⟩
    have J4 : Hid (JgAt w4 b c s gv (.slice da s.dat.length dc) { v with ag := g }) := by rw [hw4]; exact J3.out.setV (k := 14) (by decide) (.bool g) rfl
    have B4 : Hid (But (Only b) w w4) := by rw [hw4]; exact (But.of_below (K := Only b) B3.out).setOf (b := b) rfl 35 _
    have hw4' := hw4.symm
    clear hw4
    go_upto_region 8 with fail
    clear x35 f35 hw4'
    have LT := isLatest_any J4.out
    obtain ⟨l, hl2⟩ : ∃ l, l = latB c s := ⟨_, rfl⟩
    rw [← hl2] at LT
    have HLT := hide LT
    have HL := hide hl2
    clear LT hl2
    go_wp2_with fail
    refine HLT.out.mono ?_
    rintro _ w8 ⟨rfl, bz⟩
    have J8 := hide ((J4.out).later bz)
    have B8 : Hid (But (Only b) w w8) := (B4.out).after bz
    clear bz HLT
    cases l with
    | true =>
      have CN := hide (letSend_any J8.out)
      go_wp2_with fail
      refine CN.out.mono ?_
      rintro _ w9 ⟨rfl, jz, bz⟩
      have J_w9 := hide jz
      have B_w9 : Hid (But (Only b) w w9) := B8.out.trans bz
      clear jz bz CN
      go_wp2
      go_ret
      have e : R = (true, { c with wnd := s.wnd, wl1 := s.seq, wl2 := s.ack }, { v with ag := g }) := by rw [ER.out, if_neg (by omega), ← HG.out, ← HL.out, if_pos rfl]
      rw [e]
      exact ⟨rfl, J_w9.out, B_w9.out⟩
    | false =>
      go_wp2
      go_ret
      have e : R = (true, c, { v with ag := g }) := by rw [ER.out, if_neg (by omega), ← HG.out, ← HL.out, if_neg (by simp)]
      rw [e]
      exact ⟨rfl, J8.out, B8.out⟩
set_option maxHeartbeats 8000000 in
theorem receives_any (J : JgAt w b c s gv (.slice da s.dat.length dc) v) (hl : s.dat.length ≤ 1125899906842624) : SD 45 b w s gv (.slice da s.dat.length dc) (fRecv c s v) := by
  unfold SD
  obtain ⟨R, hR⟩ : ∃ R, R = fRecv c s v := ⟨_, rfl⟩
  have HR := hide hR
  rw [← hR]
  have HJ := hide J
  clear J hR
  go_enter Try.func45, Try.ntmps45
  have x0 : w.cell? ⟨b, 0, none⟩ = some (.int .i64 c.st) := HJ.out.cc 0 _ rfl
  by_cases h2 : c.st = 2
  · go_upto_region 6 with fail
    clear x0
    by_cases h : s.ack = c.nxt
    · have hd : (!decide (s.ack = c.nxt)) = false := by rw [decide_eq_true h]; rfl
      refine region_quiet_C (fun W => Below w.heap.size w W) (by kernel_rfl) (by kernel_rfl) (later_drew _) ?_
      go_big_quiet_step (fail)
      go_big_quiet_want
      refine quiet_pure (.pointer (some ⟨b, 0, none⟩)) (fun W hW => exec_nil _ _ rfl rfl) ?_
      go_big_quiet_on
      simp only [Act.put, List.setIfInBounds_toArray, List.set_cons_succ, List.set_cons_zero]
      go_big_quiet_want
      refine quiet_pure (.pointer (some ⟨b, 11, none⟩)) (fun W hW => exec_fieldO 50 _ 1 b 0 11 rfl rfl (fun w => by kernel_rfl)) ?_
      go_big_quiet_on
      simp only [Act.put, List.setIfInBounds_toArray, List.set_cons_succ, List.set_cons_zero]
      go_big_quiet_want
      refine quiet_pure (.pointer (some ⟨b, 14, none⟩)) (fun W hW => exec_fieldO 28 _ 3 b 11 14 rfl rfl (fun w => by kernel_rfl)) ?_
      go_big_quiet_on
      simp only [Act.put, List.setIfInBounds_toArray, List.set_cons_succ, List.set_cons_zero]
      go_big_quiet_want
      refine quiet_pure (.int .u32 s.ack) (fun W hW => exec_load1 22 one32 _ rfl b 14 rfl (.int .u32 s.ack) ((HJ.out.later hW).cs 3 _ rfl)) ?_
      go_big_quiet_on
      simp only [Act.put, List.setIfInBounds_toArray, List.set_cons_succ, List.set_cons_zero]
      go_big_quiet_step (fail)
      go_big_quiet_want
      refine quiet_pure (.pointer (some ⟨b, 0, none⟩)) (fun W hW => exec_nil _ _ rfl rfl) ?_
      go_big_quiet_on
      simp only [Act.put, List.setIfInBounds_toArray, List.set_cons_succ, List.set_cons_zero]
      go_big_quiet_want
      refine quiet_pure (.pointer (some ⟨b, 0, none⟩)) (fun W hW => exec_fieldO 50 _ 0 b 0 0 rfl rfl (fun w => by kernel_rfl)) ?_
      go_big_quiet_on
      simp only [Act.put, List.setIfInBounds_toArray, List.set_cons_succ, List.set_cons_zero]
      go_big_quiet_want
      refine quiet_pure (.pointer (some ⟨b, 3, none⟩)) (fun W hW => exec_fieldO 24 _ 3 b 0 3 rfl rfl (fun w => by kernel_rfl)) ?_
      go_big_quiet_on
      simp only [Act.put, List.setIfInBounds_toArray, List.set_cons_succ, List.set_cons_zero]
      go_big_quiet_want
      refine quiet_pure (.int .u32 c.nxt) (fun W hW => exec_load1 22 one32 _ rfl b 3 rfl (.int .u32 c.nxt) ((HJ.out.later hW).cc 3 _ rfl)) ?_
      go_big_quiet_on
      simp only [Act.put, List.setIfInBounds_toArray, List.set_cons_succ, List.set_cons_zero]
      go_big_quiet_want
      refine quiet_pure (.bool false) (fun W hW => exec_neu _ _ _ _ _ _ rfl rfl rfl hd) ?_
      go_big_quiet_on
      simp only [Act.put, List.setIfInBounds_toArray, List.set_cons_succ, List.set_cons_zero]
      refine wpQuiet_nil ?_
      intro wq bq
      obtain ⟨w1, hw1⟩ : ∃ w1, w1 = wq := ⟨_, rfl⟩
      rw [← hw1] at bq ⊢
      have BQ := hide bq
      have J1 := hide (HJ.out.later bq)
      clear bq hw1
      have x0 : w1.cell? ⟨b, 0, none⟩ = some (.int .i64 c.st) := J1.out.cc 0 _ rfl
      have f0 := J1.out.fz 0
      obtain ⟨w2, hw2⟩ : ∃ w2, w2 = w1.setCell ⟨b, 0, none⟩ (.int .i64 3) := ⟨_, rfl⟩
      have J2 : Hid (JgAt w2 b { c with st := 3 } s gv (.slice da s.dat.length dc) v) := by rw [hw2]; exact J1.out.setC (k := 0) (by decide) (.int .i64 3) rfl
      have B2 : Hid (But (Only b) w w2) := by rw [hw2]; exact (But.of_below (K := Only b) BQ.out).setOf (b := b) rfl 0 _
      have hw2' := hw2.symm
      clear hw2
      go_upto_region 9 with fail
      clear x0 f0 hw2'
      have CN := hide (acknowledge_any J2.out)
      go_wp2_with fail
      refine CN.out.mono ?_
      rintro _ w3 ⟨rfl, jz, bz⟩
      have J_w3 := hide jz
      have B_w3 : Hid (But (Only b) w w3) := B2.out.trans bz
      clear jz bz CN
      have CN := hide (letSend_any J_w3.out)
      go_wp2_with fail
      refine CN.out.mono ?_
      rintro _ w4 ⟨rfl, jz, bz⟩
      have J_w4 := hide jz
      have B_w4 : Hid (But (Only b) w w4) := B_w3.out.trans bz
      clear jz bz CN
      have CN := hide (take_any J_w4.out hl)
      go_wp2_with fail
      refine CN.out.mono ?_
      rintro _ w5 ⟨rfl, jz, bz⟩
      have J_w5 := hide jz
      have B_w5 : Hid (But (Only b) w w5) := B_w4.out.trans bz
      clear jz bz CN
      go_wp2
      go_ret
      have e : R = (false, { c with st := 3, una := s.ack, wnd := s.wnd, wl1 := s.seq, wl2 := s.ack }, { v with ack := true, sk := skp c s, tk := tkn c s, fin := finB c s }) := by rw [HR.out]; unfold fRecv; rw [if_pos h2, if_pos h]
      rw [e]
      exact ⟨rfl, J_w5.out, B_w5.out⟩
    · have hd : (!decide (s.ack = c.nxt)) = true := by rw [decide_eq_false h]; rfl
      refine region_quiet_C (fun W => Below w.heap.size w W) (by kernel_rfl) (by kernel_rfl) (later_drew _) ?_
      go_big_quiet_step (fail)
      go_big_quiet_want
      refine quiet_pure (.pointer (some ⟨b, 0, none⟩)) (fun W hW => exec_nil _ _ rfl rfl) ?_
      go_big_quiet_on
      simp only [Act.put, List.setIfInBounds_toArray, List.set_cons_succ, List.set_cons_zero]
      go_big_quiet_want
      refine quiet_pure (.pointer (some ⟨b, 11, none⟩)) (fun W hW => exec_fieldO 50 _ 1 b 0 11 rfl rfl (fun w => by kernel_rfl)) ?_
      go_big_quiet_on
      simp only [Act.put, List.setIfInBounds_toArray, List.set_cons_succ, List.set_cons_zero]
      go_big_quiet_want
      refine quiet_pure (.pointer (some ⟨b, 14, none⟩)) (fun W hW => exec_fieldO 28 _ 3 b 11 14 rfl rfl (fun w => by kernel_rfl)) ?_
      go_big_quiet_on
      simp only [Act.put, List.setIfInBounds_toArray, List.set_cons_succ, List.set_cons_zero]
      go_big_quiet_want
      refine quiet_pure (.int .u32 s.ack) (fun W hW => exec_load1 22 one32 _ rfl b 14 rfl (.int .u32 s.ack) ((HJ.out.later hW).cs 3 _ rfl)) ?_
      go_big_quiet_on
      simp only [Act.put, List.setIfInBounds_toArray, List.set_cons_succ, List.set_cons_zero]
      go_big_quiet_step (fail)
      go_big_quiet_want
      refine quiet_pure (.pointer (some ⟨b, 0, none⟩)) (fun W hW => exec_nil _ _ rfl rfl) ?_
      go_big_quiet_on
      simp only [Act.put, List.setIfInBounds_toArray, List.set_cons_succ, List.set_cons_zero]
      go_big_quiet_want
      refine quiet_pure (.pointer (some ⟨b, 0, none⟩)) (fun W hW => exec_fieldO 50 _ 0 b 0 0 rfl rfl (fun w => by kernel_rfl)) ?_
      go_big_quiet_on
      simp only [Act.put, List.setIfInBounds_toArray, List.set_cons_succ, List.set_cons_zero]
      go_big_quiet_want
      refine quiet_pure (.pointer (some ⟨b, 3, none⟩)) (fun W hW => exec_fieldO 24 _ 3 b 0 3 rfl rfl (fun w => by kernel_rfl)) ?_
      go_big_quiet_on
      simp only [Act.put, List.setIfInBounds_toArray, List.set_cons_succ, List.set_cons_zero]
      go_big_quiet_want
      refine quiet_pure (.int .u32 c.nxt) (fun W hW => exec_load1 22 one32 _ rfl b 3 rfl (.int .u32 c.nxt) ((HJ.out.later hW).cc 3 _ rfl)) ?_
      go_big_quiet_on
      simp only [Act.put, List.setIfInBounds_toArray, List.set_cons_succ, List.set_cons_zero]
      go_big_quiet_want
      refine quiet_pure (.bool true) (fun W hW => exec_neu _ _ _ _ _ _ rfl rfl rfl hd) ?_
      go_big_quiet_on
      simp only [Act.put, List.setIfInBounds_toArray, List.set_cons_succ, List.set_cons_zero]
      refine wpQuiet_nil ?_
      intro wq bq
      obtain ⟨w1, hw1⟩ : ∃ w1, w1 = wq := ⟨_, rfl⟩
      rw [← hw1] at bq ⊢
      have BQ := hide bq
      have J1 := hide (HJ.out.later bq)
      clear bq hw1
      have CN := hide (reply_any J1.out 2)
      go_wp2_with fail
      refine CN.out.mono ?_
      rintro _ w2 ⟨rfl, jz, bz⟩
      have J_w2 := hide jz
      have B_w2 : Hid (But (Only b) w w2) := (But.of_below (K := Only b) BQ.out).trans bz
      clear jz bz CN
      go_wp2
      go_ret
      have e : R = (false, c, { v with rep := 2 }) := by rw [HR.out]; unfold fRecv; rw [if_pos h2, if_neg h]
      rw [e]
      exact ⟨rfl, J_w2.out, B_w2.out⟩
  by_cases h3 : c.st = 3
  · skip
    have CN := hide (take_any HJ.out hl)
    go_wp2_with fail
    refine CN.out.mono ?_
    rintro _ w5 ⟨rfl, jz, bz⟩
    have J_w5 := hide jz
    have B_w5 : Hid (But (Only b) w w5) := (But.refl (Only b) w).trans bz
    clear jz bz CN
    go_wp2
    go_ret
    have e : R = (false, c, { v with sk := skp c s, tk := tkn c s, fin := finB c s }) := by rw [HR.out]; unfold fRecv; rw [if_neg h2, if_pos (.inl h3)]
    rw [e]
    exact ⟨rfl, J_w5.out, B_w5.out⟩
  by_cases h4 : c.st = 4
  · skip
    have CN := hide (take_any HJ.out hl)
    go_wp2_with fail
    refine CN.out.mono ?_
    rintro _ w5 ⟨rfl, jz, bz⟩
    have J_w5 := hide jz
    have B_w5 : Hid (But (Only b) w w5) := (But.refl (Only b) w).trans bz
    clear jz bz CN
    go_wp2
    go_ret
    have e : R = (false, c, { v with sk := skp c s, tk := tkn c s, fin := finB c s }) := by rw [HR.out]; unfold fRecv; rw [if_neg h2, if_pos (.inr (.inl h4))]
    rw [e]
    exact ⟨rfl, J_w5.out, B_w5.out⟩
  by_cases h5 : c.st = 5
  · skip
    have CN := hide (take_any HJ.out hl)
    go_wp2_with fail
    refine CN.out.mono ?_
    rintro _ w5 ⟨rfl, jz, bz⟩
    have J_w5 := hide jz
    have B_w5 : Hid (But (Only b) w w5) := (But.refl (Only b) w).trans bz
    clear jz bz CN
    go_wp2
    go_ret
    have e : R = (false, c, { v with sk := skp c s, tk := tkn c s, fin := finB c s }) := by rw [HR.out]; unfold fRecv; rw [if_neg h2, if_pos (.inr (.inr h5))]
    rw [e]
    exact ⟨rfl, J_w5.out, B_w5.out⟩
  go_wp2
  go_ret
  have e : R = (false, c, v) := by rw [HR.out]; unfold fRecv; rw [if_neg h2, if_neg (fun k => k.elim h3 (fun k => k.elim h4 h5))]
  rw [e]
  exact ⟨rfl, HJ.out, But.refl _ _⟩
end
end Go.Proofs.Ytgdcdgofahhfdaa
