
/-
  The document's Add.
-/
import Derived.Test.YtlfacppkgamkgaaM28
namespace Go.Proofs.Ytlfacppkgamkgaa
open Go.RowKit Go.Shelf

theorem ix_lt {n : I4} {k : Int} : ∀ {ws : List Wy} {i : Nat}, ix n k ws = some i → i < ws.length
  | [], _, h => by cases h
  | x :: ws, i, h => by
    unfold ix at h
    split at h
    · cases h; simp
    · cases hf : ix n k ws with
      | none => rw [hf] at h; cases h
      | some j =>
        rw [hf] at h
        cases h
        have := ix_lt hf
        simp
        exact this
/-- the table and its row lie below T -/
def Tl (w : World) (q T : Nat) (ws : List Wy) : Prop := q < T ∧ T ≤ w.heap.size ∧ ∃ v, w.cell? ⟨q, 0, none⟩ = some v ∧ RowF 10 (fun g => q < g ∧ g < T) w v ws.length (wyc ws)
theorem RfR.tl {w : World} {q : Nat} {ws : List Wy} (h : RfR w q ws) : Tl w q w.heap.size ws := by
  obtain ⟨v, h1, h2⟩ := h.row
  exact ⟨h.lt, Nat.le_refl _, v, h1, h2.own (fun g hg e => ⟨e, hg⟩)⟩
theorem Tl.but {K : Nat → Prop} {w w' : World} {q T : Nat} {ws : List Wy} (h : Tl w q T ws) (hb : But K w w') (hk : ∀ g, q ≤ g → g < T → ¬ K g) : Tl w' q T ws := by
  obtain ⟨h0, h1, v, h2, h3⟩ := h
  exact ⟨h0, Nat.le_trans h1 hb.size, v, (hb.cell (p := ⟨q, 0, none⟩) (Nat.lt_of_lt_of_le h0 h1) (hk q (Nat.le_refl _) h0)).trans h2, h3.but hb (fun g e => hk g (Nat.le_of_lt e.1) e.2)⟩
theorem Tl.later {w w' : World} {q T : Nat} {ws : List Wy} (h : Tl w q T ws) (hb : Below w.heap.size w w') : Tl w' q T ws := h.but (K := fun _ => False) (But.of_below hb) (fun _ _ _ => id)
set_option maxRecDepth 100000 in
set_option maxHeartbeats 8000000 in
theorem rAdd_any (x : Wy) (hx : x.Ok) {w : World} {q T : Nat} {ws : List Wy} (h : RfR w q ws) (hT : Tl w q T ws) : Calls Try.prog 9 #[.pointer (some ⟨q, 0, none⟩), x.val] w fun e w' => e = .returned (.int .i64 (adE ws x)) ∧ RfR w' q (adL ws x) ∧ But (fun g => q ≤ g ∧ g < T) w w' := by
  obtain ⟨s, hs⟩ : ∃ s, s = w.heap.size := ⟨_, rfl⟩
  obtain ⟨X, hX⟩ : ∃ X, X = x.cells := ⟨_, rfl⟩
  obtain ⟨w1, hw1⟩ : ∃ w1, w1 = w.alloc (.cells X.toArray 33) := ⟨_, rfl⟩
  have b1 : Below w.heap.size w w1 := by rw [hw1]; exact (Below.refl _ w).alloc (Nat.le_refl _) _
  have c1 : CellsAt w1 s 0 X := by rw [hw1, hs]; exact CellsAt.new w X 33
  have LX : Hid (X.length = 10) := by rw [hX]; exact (rfl : x.cells.length = 10)
  have OX : Hid (∀ u ∈ X, u.oneCell' = true) := by rw [hX]; exact wy_one x
  have l1 : s < w1.heap.size := c1.lt (by rw [LX.out]; decide)
  have EX : Hid (x.val = .agg X.toArray) := by rw [hX]; exact rfl
  have HMB := hide (may_any x hx w1)
  rw [EX.out] at HMB ⊢
  have HW := hide hx
  have HB1 := hide b1
  have C1 := hide c1
  have HX := hide hX
  have H := hide h
  have lqs : q < s := by rw [hs]; exact h.lt
  have lqT : q < T := hT.1
  have lTs : T ≤ s := by rw [hs]; exact hT.2.1
  have HT := hide hT.2.2
  have hw1' := hw1.symm
  have hs' := hs.symm
  have HS := hide hs
  clear b1 c1 h hw1 hs hX hx hT
  go_enter Try.func9, Try.ntmps9
  go_wp2_with (refine wpList_loadA rfl 33 10 aggW sizW _ rfl s 0 rfl X LX.out C1.out ?_)
  clear hw1' hs'
  refine HMB.out.mono ?_
  rintro _ w2 ⟨rfl, b2⟩
  have HB2 : Hid (Below w.heap.size w w2) := later HB1.out b2
  have C2 := hide (C1.out.later l1 b2)
  have l2 : s < w2.heap.size := Nat.lt_of_lt_of_le l1 b2.size
  have R2 := hide (H.out.later HB2.out)
  clear b2 HMB C1 HB1 l1
  cases hm : mayW x with
  | false =>
    have e1 : Hid (adE ws x = 1) := by unfold Hid adE; rw [if_pos hm]
    have e2 : Hid (adL ws x = ws) := by unfold Hid adL; rw [if_pos hm]
    go_wp2
    go_ret
    exact ⟨by rw [e1.out]; rfl, by rw [e2.out]; exact R2.out, But.of_below HB2.out⟩
  | true =>
    have P2 := Wy.parts (x := x) (by rw [← HX.out]; exact C2.out)
    obtain ⟨p1, p2, _, _⟩ := P2
    have PN := hide p1
    simp only [Nat.zero_add] at p2
    have AT := hide (at_any x.net x.bits R2.out)
    obtain ⟨V, hV⟩ : ∃ V, V = x.net.vals := ⟨_, rfl⟩
    have LV : Hid (V.length = 4) := by rw [hV]; exact (rfl : x.net.vals.length = 4)
    have EV : Hid (x.net.val = .agg V.toArray) := by rw [hV]; exact rfl
    rw [← hV] at PN
    rw [EV.out] at AT
    clear p1 hV
    go_wp2_with (refine wpList_loadA rfl 31 4 aggI sizI _ rfl s 0 rfl V LV.out PN.out ?_)
    refine AT.out.mono ?_
    rintro _ w3 ⟨rfl, b3⟩
    have HB3 : Hid (Below w.heap.size w w3) := later HB2.out b3
    have C3 := hide (C2.out.later l2 b3)
    have l3 : s < w3.heap.size := Nat.lt_of_lt_of_le l2 b3.size
    have R3 := hide (R2.out.later b3)
    obtain ⟨v, cv0, rv0⟩ := HT.out
    have cv := (HB3.out.cell (p := ⟨q, 0, none⟩) H.out.lt).trans cv0
    have rv := rv0.later HB3.out
    clear cv0 rv0
    obtain ⟨va, vc, rfl⟩ := rv.shape
    obtain ⟨m, hmm⟩ : ∃ m, m = ws.length := ⟨_, rfl⟩
    have m8 : m ≤ 8 := by rw [hmm]; exact R3.out.len
    rw [← hmm] at cv rv
    have RV := hide rv
    have CV := hide cv
    have HM := hide hmm
    clear b3 AT PN p2 C2 l2 HB2 R2 rv hmm
    cases hf : ix x.net x.bits ws with
    | some kk =>
      have e1 : Hid (adE ws x = 0) := by unfold Hid adE; rw [if_neg (by rw [hm]; decide), if_neg (by rw [hf]; simp)]
      have e2 : Hid (adL ws x = ws.set kk x) := by unfold Hid adL; rw [if_neg (by rw [hm]; decide), hf]
      have ek : ixI x.net x.bits ws = (kk : Int) := by unfold ixI; rw [hf]
      have im : kk < m := by rw [HM.out]; exact ix_lt hf
      rw [ek]
      have iz : (kk : Int) < (m : Int) := by omega
      obtain ⟨ga, rfl, g1, g2, g3, g4⟩ := RV.out.at (by omega)
      have gs : ga ≠ s := by have := g2.2; omega
      have gq : q < ga := g2.1
      clear hf ek
      go_upto_region 6 with fail
      have BW : ∀ W, Below w3.heap.size w3.drew W → Below w3.heap.size w3 W := fun W hb => later (later_drew _) hb
      have lq3 : q < w3.heap.size := R3.out.lt
      refine region_grow_store (w := w3) (fun i v W => match i with | 0 => v = .pointer (some ⟨q, 0, none⟩) | 1 => v = .pointer (some ⟨q, 0, none⟩) | 2 => v = .pointer (some ⟨q, 0, none⟩) | 3 => v = .slice (some ⟨ga, 0, none⟩) m vc | 4 => v = .int .i64 (kk : Int) | 5 => v = .agg X.toArray | 6 => v = .pointer (some ⟨ga, kk * 10, none⟩) | _ => True) (by kernel_rfl) (by kernel_rfl) (by kernel_rfl) 7 rfl _ rfl rfl (no_guard (by kernel_rfl)) (fun i v W W' h hb => match i, h with | 0, h => h | 1, h => h | 2, h => h | 3, h => h | 4, h => h | 5, h => h | 6, h => h | _ + 7, h => h) ?_ ?_
      · intro listed a W hM hn i o ho hlt hr
        have B := hM.bel
        match i, ho, hlt, hr with
        | 0, ho, _, hr =>
          have u0 : a.eval (.tmp 0) = .pointer (some ⟨q, 0, none⟩) := hM.keep (t := 0) (by kernel_rfl)
          exact Step.of rfl (.inl ⟨.pointer (some ⟨q, 0, none⟩), W, exec_move _ _ rfl u0, Below.refl _ _, rfl⟩) ho
        | 1, ho, _, hr =>
          have u19 := hM.use hr rfl (j := 0) (by kernel_rfl) rfl rfl
          have u19 : a.eval (.tmp 19) = .pointer (some ⟨q, 0, none⟩) := u19
          exact Step.of rfl (.inl ⟨.pointer (some ⟨q, 0, none⟩), W, exec_nil _ _ rfl u19, Below.refl _ _, rfl⟩) ho
        | 2, ho, _, hr =>
          have u20 := hM.use hr rfl (j := 1) (by kernel_rfl) rfl rfl
          have u20 : a.eval (.tmp 20) = .pointer (some ⟨q, 0, none⟩) := u20
          exact Step.of rfl (.inl ⟨.pointer (some ⟨q, 0, none⟩), W, exec_fieldO 29 _ 0 q 0 0 rfl u20 (fun w => by kernel_rfl), Below.refl _ _, rfl⟩) ho
        | 3, ho, _, hr =>
          have u21 := hM.use hr rfl (j := 2) (by kernel_rfl) rfl rfl
          have u21 : a.eval (.tmp 21) = .pointer (some ⟨q, 0, none⟩) := u21
          exact Step.of rfl (.inl ⟨.slice (some ⟨ga, 0, none⟩) m vc, W, exec_load1 27 oneWs _ rfl q 0 u21 (.slice (some ⟨ga, 0, none⟩) m vc) ((((BW W B).cell (p := ⟨q, 0, none⟩) lq3).trans CV.out)), Below.refl _ _, rfl⟩) ho
        | 4, ho, _, hr =>
          have u6 : a.eval (.tmp 6) = .int .i64 (kk : Int) := hM.keep (t := 6) (by kernel_rfl)
          exact Step.of rfl (.inl ⟨.int .i64 (kk : Int), W, exec_move _ _ rfl u6, Below.refl _ _, rfl⟩) ho
        | 5, ho, _, hr =>
          have u3 : a.eval (.tmp 3) = .pointer (some ⟨s, 0, none⟩) := hM.keep (t := 3) (by kernel_rfl)
          exact Step.of rfl (.inl ⟨.agg X.toArray, W, exec_loadA 33 10 aggW sizW _ rfl s 0 u3 X LX.out (C3.out.later l3 (BW W B)), Below.refl _ _, rfl⟩) ho
        | 6, ho, _, hr =>
          have u22 := hM.use hr rfl (j := 3) (by kernel_rfl) rfl rfl
          have u22 : a.eval (.tmp 22) = .slice (some ⟨ga, 0, none⟩) m vc := u22
          have u23 := hM.use hr rfl (j := 4) (by kernel_rfl) rfl rfl
          have u23 : a.eval (.tmp 23) = .int .i64 (kk : Int) := u23
          exact Step.of rfl (.inl ⟨.pointer (some ⟨ga, kk * 10, none⟩), W, exec_ixW _ _ ga m vc kk rfl u22 u23 im, Below.refl _ _, rfl⟩) ho
        | n + 7, _, hlt, _ => exact absurd hlt (by omega)
      intro listed a W hM hl
      have B := hM.bel
      have p19 : a.tmps.getD 19 undef = .pointer (some ⟨q, 0, none⟩) := hM.got 0 _ _ rfl (hl 0 (by decide)) rfl
      have p20 : a.tmps.getD 20 undef = .pointer (some ⟨q, 0, none⟩) := hM.got 1 _ _ rfl (hl 1 (by decide)) rfl
      have p21 : a.tmps.getD 21 undef = .pointer (some ⟨q, 0, none⟩) := hM.got 2 _ _ rfl (hl 2 (by decide)) rfl
      have p22 : a.tmps.getD 22 undef = .slice (some ⟨ga, 0, none⟩) m vc := hM.got 3 _ _ rfl (hl 3 (by decide)) rfl
      have p23 : a.tmps.getD 23 undef = .int .i64 (kk : Int) := hM.got 4 _ _ rfl (hl 4 (by decide)) rfl
      have p24 : a.tmps.getD 24 undef = .agg X.toArray := hM.got 5 _ _ rfl (hl 5 (by decide)) rfl
      have p25 : a.tmps.getD 25 undef = .pointer (some ⟨ga, kk * 10, none⟩) := hM.got 6 _ _ rfl (hl 6 (by decide)) rfl
      refine ⟨W.setCells ga (kk * 10) X, exec_storeA 33 10 sizW (.tmp 25) (.tmp 24) rfl ga (kk * 10) p25 X (wyc ws kk) p24 LX.out rfl ((g4 kk im).later g1 (BW W B)) (fun j => ((BW W B).frozen (p := ⟨ga, j, none⟩) g1).trans (g3 j)) OX.out, ?_⟩
      rw [hM.lit [19, 20, 21, 22, 23, 24, 25] (by kernel_rfl)]
      clear hM hl
      simp only [fill, List.foldl_cons, List.foldl_nil, Act.put, List.setIfInBounds_toArray, List.set_cons_zero, List.set_cons_succ]
      clear p19
      generalize a.tmps.getD 19 undef = x19 at *
      clear p20
      generalize a.tmps.getD 20 undef = x20 at *
      clear p21
      generalize a.tmps.getD 21 undef = x21 at *
      clear p22
      generalize a.tmps.getD 22 undef = x22 at *
      clear p23
      generalize a.tmps.getD 23 undef = x23 at *
      clear p24
      generalize a.tmps.getD 24 undef = x24 at *
      clear p25
      generalize a.tmps.getD 25 undef = x25 at *
      have B3 := BW W B
      have rW := (RV.out.later B3).set (fun j hj => wyc_len ws j) im X LX.out rfl
      have bS := But.cells ga X (kk * 10) W
      have cW : W.cell? ⟨q, 0, none⟩ = some (.slice (some ⟨ga, 0, none⟩) m vc) := (B3.cell (p := ⟨q, 0, none⟩) lq3).trans CV.out
      have RE : Hid (RfR (W.setCells ga (kk * 10) X) q (ws.set kk x)) := by
        refine ⟨⟨_, (bS.cell (p := ⟨q, 0, none⟩) (Nat.lt_of_lt_of_le lq3 B3.size) (fun e => by have e : q = ga := e; omega)).trans cW, ?_⟩, (bS.frozen (p := ⟨q, 0, none⟩) (Nat.lt_of_lt_of_le lq3 B3.size) (fun e => by have e : q = ga := e; omega)).trans (R3.out.later B3).fz, by rw [List.length_set]; exact R3.out.len, fun y hy => ?_⟩
        · rw [List.length_set, ← HM.out]
          refine (rW.own (fun g _ e => e.1)).cong (fun j hj => ?_)
          unfold wyc
          rw [List.getElem?_set]
          by_cases e : kk = j
          · subst e; rw [if_pos rfl, if_pos rfl, if_pos (by rw [← HM.out]; exact im), HX.out]; rfl
          · rw [if_neg e, if_neg (fun h => e h.symm)]
        · rcases List.mem_or_eq_of_mem_set hy with h | rfl
          · exact R3.out.ok y h
          · exact HW.out
      have BE : Hid (But (fun g => q ≤ g ∧ g < T) w (W.setCells ga (kk * 10) X)) := (But.of_below (later HB3.out B3)).trans (bS.mono (fun g e => by have e : g = ga := e; have := g2.2; show q ≤ g ∧ g < T; omega))
      obtain ⟨we, hwe⟩ : ∃ we, we = W.setCells ga (kk * 10) X := ⟨_, rfl⟩
      rw [← hwe] at RE BE ⊢
      clear hwe B BW B3 rW bS cW g3 g4
      go_wp2
      go_ret
      exact ⟨by rw [e1.out]; rfl, by rw [e2.out]; exact RE.out, BE.out⟩
    | none =>
      have ek : ixI x.net x.bits ws = -1 := by unfold ixI; rw [hf]
      rw [ek]
      by_cases h8 : m = 8
      · have e1 : Hid (adE ws x = 6) := by unfold Hid adE; rw [if_neg (by rw [hm]; decide), if_pos ⟨hf, by rw [← HM.out]; exact h8⟩]
        have e2 : Hid (adL ws x = ws) := by unfold Hid adL; rw [if_neg (by rw [hm]; decide), hf]; exact if_pos (by rw [← HM.out]; exact h8)
        have z8 : ((m : Int) == 8) = true := by rw [h8]; rfl
        clear hf ek h8
        go_wp2
        go_ret
        exact ⟨by rw [e1.out]; rfl, by rw [e2.out]; exact R3.out, But.of_below HB3.out⟩
      · have e1 : Hid (adE ws x = 0) := by unfold Hid adE; rw [if_neg (by rw [hm]; decide), if_neg (by rw [← HM.out]; exact fun h => h8 h.2)]
        have e2 : Hid (adL ws x = ws ++ [x]) := by unfold Hid adL; rw [if_neg (by rw [hm]; decide), hf]; exact if_neg (by rw [← HM.out]; exact h8)
        have z8 : ((m : Int) == 8) = false := by simp; omega
        have m7 : m < 8 := by omega
        clear hf ek h8
        go_upto_region 10 with fail
        have lq3 : q < w3.heap.size := R3.out.lt
        obtain ⟨p2, hp2⟩ : ∃ p2, p2 = w3.drew.heap.size := ⟨_, rfl⟩
        obtain ⟨wE, hwE⟩ : ∃ z, z = w3.drew.alloc (.cells X.toArray 33) := ⟨_, rfl⟩
        have bE : Below w3.heap.size w3 wE := by rw [hwE]; exact (Below.refl _ w3).drew.alloc (Nat.le_refl _) _
        have cE : CellsAt wE p2 0 X := by rw [hwE, hp2]; exact CellsAt.new w3.drew X 33
        obtain ⟨i0, hi, hz0, hz1, hz2⟩ := info_parts info_way
        obtain ⟨a', c', wF, hrun, rF, hbF⟩ := (RV.out.later bE).push 27 33 i0 _ Try.underlying27 hi hz0 hz1 (by omega) rfl (fun j hj => wyc_len ws j) (fun j hj => wy_one _) X LX.out OX.out p2 cE (by omega)
        have nq : ¬ (q < q ∧ q < T) := fun e => by omega
        have ns : ¬ (q < s ∧ s < T) := fun e => by omega
        have cvE := (bE.cell (p := ⟨q, 0, none⟩) lq3).trans CV.out
        have fvE : wE.frozen? ⟨q, 0, none⟩ = false := (R3.out.later bE).fz
        have lqE : q < wE.heap.size := Nat.lt_of_lt_of_le lq3 bE.size
        have cvF := (hbF.cell (p := ⟨q, 0, none⟩) lqE nq).trans cvE
        have fvF := (hbF.frozen (p := ⟨q, 0, none⟩) lqE nq).trans fvE
        have csE := C3.out.later l3 bE
        have csF := csE.but (Nat.lt_of_lt_of_le l3 bE.size) hbF ns
        obtain ⟨wG, hwG⟩ : ∃ z, z = wF.setCell ⟨q, 0, none⟩ (.slice a' (m + 1) c') := ⟨_, rfl⟩
        have bG : But (Only q) wF wG := by rw [hwG]; exact (But.refl (Only q) wF).cellb (b := q) rfl 0 _
        have Sd : w3.drew.cell? ⟨q, 0, none⟩ = some (.slice va m vc) ∧ CellsAt w3.drew s 0 X := ⟨CV.out, C3.out⟩
        have SE : wE.cell? ⟨q, 0, none⟩ = some (.slice va m vc) ∧ CellsAt wE s 0 X := ⟨cvE, csE⟩
        have SF : wF.cell? ⟨q, 0, none⟩ = some (.slice va m vc) ∧ CellsAt wF s 0 X := ⟨cvF, csF⟩
        refine regionJ (fun i => i != 10) (fun W => W.cell? ⟨q, 0, none⟩ = some (.slice va m vc) ∧ CellsAt W s 0 X) (by kernel_rfl) ?_
        refine takeJ (i := 0) (v := .pointer (some ⟨q, 0, none⟩)) 32 rfl rfl (by kernel_rfl) (by kernel_rfl) (by kernel_rfl) (by kernel_rfl) (fun _ _ _ h => h) (.inl ⟨by rfl, fun W hW => exec_move _ _ rfl rfl⟩) (Sd) ?_
        try simp only [Act.put, List.setIfInBounds_toArray, List.set_cons_zero, List.set_cons_succ]
        refine takeJ (i := 1) (v := .pointer (some ⟨q, 0, none⟩)) 33 rfl rfl (by kernel_rfl) (by kernel_rfl) (by kernel_rfl) (by kernel_rfl) (fun _ _ _ h => h) (.inl ⟨by rfl, fun W hW => exec_move _ _ rfl rfl⟩) (Sd) ?_
        try simp only [Act.put, List.setIfInBounds_toArray, List.set_cons_zero, List.set_cons_succ]
        refine takeJ (i := 2) (v := .pointer (some ⟨q, 0, none⟩)) 34 rfl rfl (by kernel_rfl) (by kernel_rfl) (by kernel_rfl) (by kernel_rfl) (fun _ _ _ h => h) (.inl ⟨by rfl, fun W hW => exec_nil _ _ rfl rfl⟩) (Sd) ?_
        try simp only [Act.put, List.setIfInBounds_toArray, List.set_cons_zero, List.set_cons_succ]
        refine takeJ (i := 3) (v := .pointer (some ⟨q, 0, none⟩)) 35 rfl rfl (by kernel_rfl) (by kernel_rfl) (by kernel_rfl) (by kernel_rfl) (fun _ _ _ h => h) (.inl ⟨by rfl, fun W hW => exec_fieldO 29 _ 0 q 0 0 rfl rfl (fun w => by kernel_rfl)⟩) (Sd) ?_
        try simp only [Act.put, List.setIfInBounds_toArray, List.set_cons_zero, List.set_cons_succ]
        refine takeJ (i := 4) (v := .slice va m vc) 36 rfl rfl (by kernel_rfl) (by kernel_rfl) (by kernel_rfl) (by kernel_rfl) (fun _ _ _ h => h) (.inl ⟨by rfl, fun W hW => exec_load1 27 oneWs _ rfl q 0 rfl (.slice va m vc) (hW.1)⟩) (Sd) ?_
        try simp only [Act.put, List.setIfInBounds_toArray, List.set_cons_zero, List.set_cons_succ]
        refine takeJ (i := 5) (v := .agg X.toArray) 37 rfl rfl (by kernel_rfl) (by kernel_rfl) (by kernel_rfl) (by kernel_rfl) (fun _ _ _ h => h) (.inl ⟨by rfl, fun W hW => exec_loadA 33 10 aggW sizW _ rfl s 0 rfl X LX.out hW.2⟩) (Sd) ?_
        try simp only [Act.put, List.setIfInBounds_toArray, List.set_cons_zero, List.set_cons_succ]
        refine nextJ (w' := wE) 6 38 (.slice (some ⟨p2, 0, none⟩) 1 1) (by kernel_rfl) rfl rfl (by rfl) (by rw [hwE, hp2, HX.out]; exact exec_bsW _ x rfl (by rw [← HX.out]; rfl)) (SE) ?_
        try simp only [Act.put, List.setIfInBounds_toArray, List.set_cons_zero, List.set_cons_succ]
        refine nextJ (w' := wF) 7 39 (.slice a' (m + 1) c') (by kernel_rfl) rfl rfl (by rfl) (exec_app _ _ 27 27 rfl (.slice va m vc) (.slice (some ⟨p2, 0, none⟩) 1 1) rfl rfl 27 rfl hrun) (SF) ?_
        try simp only [Act.put, List.setIfInBounds_toArray, List.set_cons_zero, List.set_cons_succ]
        refine nextJ (w' := wF) 8 40 (.pointer (some ⟨q, 0, none⟩)) (by kernel_rfl) rfl rfl (by rfl) (exec_nil _ _ rfl rfl) (SF) ?_
        try simp only [Act.put, List.setIfInBounds_toArray, List.set_cons_zero, List.set_cons_succ]
        refine nextJ (w' := wF) 9 41 (.pointer (some ⟨q, 0, none⟩)) (by kernel_rfl) rfl rfl (by rfl) (exec_fieldO 29 _ 0 q 0 0 rfl rfl (fun w => by kernel_rfl)) (SF) ?_
        try simp only [Act.put, List.setIfInBounds_toArray, List.set_cons_zero, List.set_cons_succ]
        refine storeJ (w' := wG) 10 (by kernel_rfl) rfl rfl (by rfl) (by rw [hwG]; exact exec_store1 27 s1Ws _ _ rfl q 0 rfl _ _ rfl cvF fvF rfl) ((fun e => by simp at e)) ?_
        try simp only [Act.put, List.setIfInBounds_toArray, List.set_cons_zero, List.set_cons_succ]
        refine doneJ (by kernel_rfl) ?_ _
        have RE : Hid (RfR wG q (ws ++ [x])) := by
          refine ⟨⟨.slice a' (m + 1) c', by rw [hwG]; exact World.cell?_setCell_same _ _ _ cvF, ?_⟩, by rw [hwG, World.frozen?_setCell]; exact fvF, by rw [List.length_append, ← HM.out]; simp; omega, fun y hy => ?_⟩
          · rw [List.length_append, ← HM.out]
            refine (((rF.own (O' := fun g => q < g) (fun g hg e => ?_)).but bG (fun g e e2 => by have e2 : g = q := e2; omega))).cong (fun j hj => ?_)
            · rcases e with e | e
              · exact e.1
              · have := bE.size; omega
            · unfold wyc
              by_cases ej : j < m
              · rw [if_pos ej, List.getElem?_append_left (by rw [← HM.out]; exact ej)]
              · have ej2 : j = ws.length := by rw [← HM.out]; have : ([x] : List Wy).length = 1 := rfl; omega
                rw [if_neg ej, ej2, HX.out]; simp
          · rcases List.mem_append.1 hy with h | h
            · exact R3.out.ok y h
            · rw [List.mem_singleton.1 h]; exact HW.out
        have BE : Hid (But (fun g => q ≤ g ∧ g < T) w wG) := (((But.of_below (later HB3.out bE)).trans' hbF (fun g _ e => by have := e.1; have := e.2; show q ≤ g ∧ g < T; omega))).trans (bG.mono (fun g e => by have e : g = q := e; show q ≤ g ∧ g < T; omega))
        clear hwE hwG hrun rF hbF bG Sd SE SF cvE fvE cvF fvF csE csF cE bE
        go_wp2
        go_ret
        exact ⟨by rw [e1.out]; rfl, by rw [e2.out]; exact RE.out, BE.out⟩
end Go.Proofs.Ytlfacppkgamkgaa
