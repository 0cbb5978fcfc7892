
/-
  RouteDoes.
-/
import Derived.Test.YtlfacppkgamkgaaM33
import Derived.Deep.CutBlock
namespace Go.Proofs.Ytlfacppkgamkgaa
open Go.RowKit Go.Shelf

set_option maxRecDepth 100000 in
set_option maxHeartbeats 8000000 in
theorem Does_walk (lv : Value) (l : List OpR) (w : World) (hl : IsO w.heap.size w lv l) (ll : l.length ≤ 4398046510976) :
    Calls Try.prog 3 #[lv] w fun e w' => e = .returned (.bool true) ∧ Below w.heap.size w w' := by
  obtain ⟨la, lc, rfl, hlc, hlo⟩ := hl
  obtain ⟨n, hn⟩ : ∃ n, n = l.length := ⟨_, rfl⟩
  rw [← hn] at hlc ll ⊢
  have HLC := hide hlc
  have HLO := hide hlo
  have HN := hide hn
  have lz : (n : Int) ≤ 4398046510976 := by omega
  clear hlc hlo hn
  go_enter Try.func3, Try.ntmps3
  go_wp2_with fail
  refine (awake_any w).mono ?_
  rintro _ w2 ⟨rfl, b2⟩
  have HB2 := hide b2
  have NW := hide (New_any w2)
  obtain ⟨rb, hrb⟩ : ∃ rb, rb = w2.heap.size := ⟨_, rfl⟩
  rw [← hrb] at NW
  have HRB : Hid (w.heap.size ≤ rb) := by rw [hrb]; exact b2.size
  clear b2
  go_wp2_with fail
  refine NW.out.mono ?_
  rintro _ w3 ⟨rfl, r3, b3⟩
  have HB3 : Hid (Below w.heap.size w w3) := HB2.out.trans (b3.mono HRB.out)
  obtain ⟨q, hq⟩ : ∃ q, q = w3.heap.size := ⟨_, rfl⟩
  obtain ⟨w4, hw4⟩ : ∃ w4, w4 = w3.alloc (.cells #[.slice none 0 0] 29) := ⟨_, rfl⟩
  have b4 : Below w3.heap.size w3 w4 := by rw [hw4]; exact (Below.refl _ w3).alloc (Nat.le_refl _) _
  have R4 := hide (r3.later b4)
  have qb : rb + 1 < q := by rw [hq]; exact r3.lt.1
  have c4 : CellsAt w4 q 0 [.slice none 0 0] := by rw [hw4, hq]; exact CellsAt.new w3 _ _
  have Q4 : Hid (RfR w4 q []) := ⟨⟨_, c4 0 _ rfl, RowF.nil _ _ _ _⟩, by rw [hw4, hq]; exact frozen_new w3 _ _ _, Nat.zero_le _, fun x hx => by cases hx⟩
  have HB4 : Hid (Below w.heap.size w w4) := later HB3.out b4
  have hw4' := hw4.symm
  have hq' := hq.symm
  clear b3 r3 NW HB2 HB3 hrb hq hw4 b4 c4
  go_upto_region 4 with fail
  clear hw4' hq'
  go_wp2
  go_loopw [6] (fun vi wr => ∃ (i : Nat) (ws : List Wy), vi = .int .i64 (i : Int) ∧ i ≤ n ∧ Hid (Rt wr (rb + 1) rb ws (i : Int)) ∧ Hid (RfR wr q ws) ∧ Hid (Below w.heap.size w wr)) (fun vi _ => n - (intOf vi).toNat)
  case atStart => exact ⟨0, [], rfl, Nat.zero_le _, R4.out, Q4.out, HB4.out⟩
  case round =>
    obtain ⟨i, ws, rfl, hi, RI, QI, HBI⟩ := hrel
    by_cases hlt : i < n
    · obtain ⟨lg, off, rfl, hg, hcs⟩ := HLC.out (by omega)
      obtain ⟨o, ho⟩ : ∃ o, l[i]? = some o := ⟨_, List.getElem?_eq_getElem (by rw [← HN.out]; exact hlt)⟩
      have co : ∀ W, Below w.heap.size w W → W.cell? ⟨lg, off + i * 11, none⟩ = some (.int .i64 o.kind) ∧ CellsAt W lg (off + i * 11 + 1) o.w.cells := fun W hb => by
        have h := (hcs i o ho).later hg hb
        refine ⟨h 0 _ rfl, ?_⟩
        have e : o.cells = [.int .i64 o.kind] ++ o.w.cells := rfl
        rw [e] at h
        exact (CellsAt.append.1 h).2
      obtain ⟨x, hx⟩ : ∃ x, x = o.w := ⟨_, rfl⟩
      have xo : Hid x.Ok := by rw [hx]; exact (HLO.out o (List.mem_of_getElem? ho)).w
      obtain ⟨kd, hkd⟩ : ∃ kd, kd = o.kind := ⟨_, rfl⟩
      obtain ⟨X, hX⟩ : ∃ X, X = x.cells := ⟨_, rfl⟩
      rw [← hx, ← hkd, ← hX] at co
      have CO := hide co
      have EX : Hid (x.val = .agg X.toArray) := by rw [hX]; exact rfl
      have LX : Hid (X.length = 10) := by rw [hX]; exact (rfl : x.cells.length = 10)
      have OX : Hid (∀ u ∈ X, u.oneCell' = true) := by rw [hX]; exact wy_one x
      have HX := hide hX
      have iz : (i : Int) < (n : Int) := by omega
      have C0 := hide (co wr HBI.out).2
      obtain ⟨u5, w5, hu5, hw5, cu5, fu5, c5, b5, l5⟩ := newV wr 33 zWy.cells X (by rw [LX.out]; rfl)
      obtain ⟨u, hu⟩ : ∃ u, u = wr.heap.size := ⟨_, rfl⟩
      rw [← hu] at hw5 cu5 fu5 c5 l5
      have CU := hide cu5
      have FU := hide fu5
      have HB5 : Hid (Below w.heap.size w w5) := later HBI.out b5
      have D5 : Hid (Du w rb q u x ws ws (i : Int) w5) := by
        refine ⟨RI.out.later b5, QI.out.later b5, (by rw [← hX]; exact c5), HB5.out, HRB.out, qb, ?_, ?_⟩
        · rw [hu]; exact RI.out.lt.1
        · have := QI.out.lt
          omega
      have T5 : Hid (Tl w5 q u ws) := by rw [hu]; exact QI.out.tl.later b5
      have k5 := (co w5 HB5.out).1
      have hu5' := hu5.symm
      simp only [zWy, Wy.cells, zI, I4.vals, List.cons_append, List.nil_append] at hu5'
      have hw5' := hw5.symm
      have huu := hu.symm
      clear hu5 hw5 cu5 fu5 c5 b5 hu hX hx hkd ho hcs co HB5 RI QI
      go_upto_region 10 with (first | refine wpList_loadA rfl 33 10 aggW sizW _ rfl lg (off + i * 11 + 1) rfl X LX.out C0.out ?_ | (refine wpList_storeA rfl 33 10 sizW _ _ rfl u 0 rfl X zWy.cells rfl LX.out rfl CU.out FU.out OX.out ?_; intro _; rw [hw5']))
      clear hu5' hw5' huu CU FU C0
      go_upto_block 2 with fail
      go_cut [8] from 36 to 64 (fun c wc => c = .bool true ∧ ∃ ws', Hid (Du w rb q u x ws' ws' ((i : Int) + 1) wc))
      case first =>
        by_cases k0 : kd = 0
        · subst k0
          obtain ⟨e5, he5⟩ : ∃ e5, e5 = adE ws x := ⟨_, rfl⟩
          have HE5 := hide he5
          clear he5
          go_upto_region 13 with fail
          have Dd := D5.out.later (later_drew w5)
          have Td := T5.out.later (later_drew w5)
          refine wp_region_held (S := fun W => CellsAt W u 0 x.cells) (by kernel_rfl) ?_
          refine takeD (i := 0) (v := .pointer (some ⟨rb + 1, 0, none⟩)) 43 rfl rfl (by kernel_rfl) (by kernel_rfl) (by kernel_rfl) (fun _ _ _ h => h) (.inl ⟨by rfl, fun W hW => exec_move _ _ rfl rfl⟩) (Dd.cu) ?_
          try simp only [Act.put, List.setIfInBounds_toArray, List.set_cons_zero, List.set_cons_succ]
          refine takeD (i := 1) (v := .agg (x.cells).toArray) 44 rfl rfl (by kernel_rfl) (by kernel_rfl) (by kernel_rfl) (fun _ _ _ h => h) (.inl ⟨by rfl, fun W hW => exec_loadA 33 10 aggW sizW _ rfl u 0 rfl (x.cells) rfl (hW)⟩) (Dd.cu) ?_
          try simp only [Act.put, List.setIfInBounds_toArray, List.set_cons_zero, List.set_cons_succ]
          refine takeD (i := 3) (v := .pointer (some ⟨q, 0, none⟩)) 46 rfl rfl (by kernel_rfl) (by kernel_rfl) (by kernel_rfl) (fun _ _ _ h => h) (.inl ⟨by rfl, fun W hW => exec_move _ _ rfl rfl⟩) (Dd.cu) ?_
          try simp only [Act.put, List.setIfInBounds_toArray, List.set_cons_zero, List.set_cons_succ]
          refine takeD (i := 4) (v := .agg (x.cells).toArray) 47 rfl rfl (by kernel_rfl) (by kernel_rfl) (by kernel_rfl) (fun _ _ _ h => h) (.inl ⟨by rfl, fun W hW => exec_loadA 33 10 aggW sizW _ rfl u 0 rfl (x.cells) rfl (hW)⟩) (Dd.cu) ?_
          try simp only [Act.put, List.setIfInBounds_toArray, List.set_cons_zero, List.set_cons_succ]
          refine callD 2 45 (by kernel_rfl) rfl rfl (by rfl) 8 #[.pointer (some ⟨rb + 1, 0, none⟩), .agg x.cells.toArray] (exec_callF _ _ _ _ rfl (map2 rfl rfl) (enters_of Try.func8 (by kernel_rfl) rfl)) _ (Dd.addP xo.out (by omega)) ?_
          rintro _ w6 ⟨rfl, D6, T6⟩
          refine ⟨D6.cu, ?_⟩
          simp only [Act.put, List.setIfInBounds_toArray, List.set_cons_zero, List.set_cons_succ]
          refine callD 5 48 (by kernel_rfl) rfl rfl (by rfl) 9 #[.pointer (some ⟨q, 0, none⟩), .agg x.cells.toArray] (exec_callF _ _ _ _ rfl (map2 rfl rfl) (enters_of Try.func9 (by kernel_rfl) rfl)) _ (D6.addR xo.out (T6 Td)) ?_
          rintro _ w7 ⟨rfl, D7⟩
          refine ⟨D7.cu, ?_⟩
          rw [← HE5.out]
          simp only [Act.put, List.setIfInBounds_toArray, List.set_cons_zero, List.set_cons_succ]
          refine takeD (i := 6) (v := .bool true) 49 rfl rfl (by kernel_rfl) (by kernel_rfl) (by kernel_rfl) (fun _ _ _ h => h) (.inl ⟨by rfl, fun W hW => exec_eqe _ _ _ _ _ _ rfl rfl rfl (by simp)⟩) (D7.cu) ?_
          try simp only [Act.put, List.setIfInBounds_toArray, List.set_cons_zero, List.set_cons_succ]
          refine takeD (i := 7) (v := .bool true) 8 rfl rfl (by kernel_rfl) (by kernel_rfl) (by kernel_rfl) (fun _ _ _ h => h) (.inl ⟨by rfl, fun W hW => exec_assign _ _ rfl rfl⟩) (D7.cu) ?_
          try simp only [Act.put, List.setIfInBounds_toArray, List.set_cons_zero, List.set_cons_succ]
          refine wpAnyH_done (by kernel_rfl) ?_ _
          have D8 := hide D7
          clear D6 T6 D7 Dd Td
          go_wp2
          go_meet
          case rel => exact ⟨rfl, _, D8.out⟩
        by_cases k1 : kd = 1
        · subst k1
          obtain ⟨e5, he5⟩ : ∃ e5, e5 = drE ws x.net x.bits := ⟨_, rfl⟩
          have HE5 := hide he5
          clear he5 k0
          go_upto_region 15 with fail
          have Dd := D5.out.later (later_drew w5)
          refine wp_region_held (S := fun W => CellsAt W u 0 x.cells) (by kernel_rfl) ?_
          refine takeD (i := 0) (v := .pointer (some ⟨rb + 1, 0, none⟩)) 52 rfl rfl (by kernel_rfl) (by kernel_rfl) (by kernel_rfl) (fun _ _ _ h => h) (.inl ⟨by rfl, fun W hW => exec_move _ _ rfl rfl⟩) (Dd.cu) ?_
          try simp only [Act.put, List.setIfInBounds_toArray, List.set_cons_zero, List.set_cons_succ]
          refine takeD (i := 1) (v := .pointer (some ⟨u, 0, none⟩)) 53 rfl rfl (by kernel_rfl) (by kernel_rfl) (by kernel_rfl) (fun _ _ _ h => h) (.inl ⟨by rfl, fun W hW => exec_fieldO 33 _ 0 u 0 0 rfl rfl (fun w => by kernel_rfl)⟩) (Dd.cu) ?_
          try simp only [Act.put, List.setIfInBounds_toArray, List.set_cons_zero, List.set_cons_succ]
          refine takeD (i := 2) (v := .agg (x.net.vals).toArray) 54 rfl rfl (by kernel_rfl) (by kernel_rfl) (by kernel_rfl) (fun _ _ _ h => h) (.inl ⟨by rfl, fun W hW => exec_loadA 31 4 aggI sizI _ rfl u 0 rfl (x.net.vals) rfl ((Wy.parts hW).1)⟩) (Dd.cu) ?_
          try simp only [Act.put, List.setIfInBounds_toArray, List.set_cons_zero, List.set_cons_succ]
          refine takeD (i := 3) (v := .pointer (some ⟨u, 4, none⟩)) 55 rfl rfl (by kernel_rfl) (by kernel_rfl) (by kernel_rfl) (fun _ _ _ h => h) (.inl ⟨by rfl, fun W hW => exec_fieldO 33 _ 1 u 0 4 rfl rfl (fun w => by kernel_rfl)⟩) (Dd.cu) ?_
          try simp only [Act.put, List.setIfInBounds_toArray, List.set_cons_zero, List.set_cons_succ]
          refine takeD (i := 4) (v := .int .i64 x.bits) 56 rfl rfl (by kernel_rfl) (by kernel_rfl) (by kernel_rfl) (fun _ _ _ h => h) (.inl ⟨by rfl, fun W hW => exec_load1 3 one1 _ rfl u 4 rfl (.int .i64 x.bits) ((Wy.parts hW).2.1)⟩) (Dd.cu) ?_
          try simp only [Act.put, List.setIfInBounds_toArray, List.set_cons_zero, List.set_cons_succ]
          refine takeD (i := 6) (v := .pointer (some ⟨q, 0, none⟩)) 58 rfl rfl (by kernel_rfl) (by kernel_rfl) (by kernel_rfl) (fun _ _ _ h => h) (.inl ⟨by rfl, fun W hW => exec_move _ _ rfl rfl⟩) (Dd.cu) ?_
          try simp only [Act.put, List.setIfInBounds_toArray, List.set_cons_zero, List.set_cons_succ]
          refine takeD (i := 7) (v := .pointer (some ⟨u, 0, none⟩)) 59 rfl rfl (by kernel_rfl) (by kernel_rfl) (by kernel_rfl) (fun _ _ _ h => h) (.inl ⟨by rfl, fun W hW => exec_fieldO 33 _ 0 u 0 0 rfl rfl (fun w => by kernel_rfl)⟩) (Dd.cu) ?_
          try simp only [Act.put, List.setIfInBounds_toArray, List.set_cons_zero, List.set_cons_succ]
          refine takeD (i := 8) (v := .agg (x.net.vals).toArray) 60 rfl rfl (by kernel_rfl) (by kernel_rfl) (by kernel_rfl) (fun _ _ _ h => h) (.inl ⟨by rfl, fun W hW => exec_loadA 31 4 aggI sizI _ rfl u 0 rfl (x.net.vals) rfl ((Wy.parts hW).1)⟩) (Dd.cu) ?_
          try simp only [Act.put, List.setIfInBounds_toArray, List.set_cons_zero, List.set_cons_succ]
          refine takeD (i := 9) (v := .pointer (some ⟨u, 4, none⟩)) 61 rfl rfl (by kernel_rfl) (by kernel_rfl) (by kernel_rfl) (fun _ _ _ h => h) (.inl ⟨by rfl, fun W hW => exec_fieldO 33 _ 1 u 0 4 rfl rfl (fun w => by kernel_rfl)⟩) (Dd.cu) ?_
          try simp only [Act.put, List.setIfInBounds_toArray, List.set_cons_zero, List.set_cons_succ]
          refine takeD (i := 10) (v := .int .i64 x.bits) 62 rfl rfl (by kernel_rfl) (by kernel_rfl) (by kernel_rfl) (fun _ _ _ h => h) (.inl ⟨by rfl, fun W hW => exec_load1 3 one1 _ rfl u 4 rfl (.int .i64 x.bits) ((Wy.parts hW).2.1)⟩) (Dd.cu) ?_
          try simp only [Act.put, List.setIfInBounds_toArray, List.set_cons_zero, List.set_cons_succ]
          refine callD 5 57 (by kernel_rfl) rfl rfl (by rfl) 10 #[.pointer (some ⟨rb + 1, 0, none⟩), .agg x.net.vals.toArray, .int .i64 x.bits] (exec_callF _ _ _ _ rfl (map3 rfl rfl rfl) (enters_of Try.func10 (by kernel_rfl) rfl)) _ (Dd.dropP xo.out) ?_
          rintro _ w6 ⟨rfl, D6⟩
          refine ⟨D6.cu, ?_⟩
          simp only [Act.put, List.setIfInBounds_toArray, List.set_cons_zero, List.set_cons_succ]
          refine callD 11 63 (by kernel_rfl) rfl rfl (by rfl) 11 #[.pointer (some ⟨q, 0, none⟩), .agg x.net.vals.toArray, .int .i64 x.bits] (exec_callF _ _ _ _ rfl (map3 rfl rfl rfl) (enters_of Try.func11 (by kernel_rfl) rfl)) _ D6.dropR ?_
          rintro _ w7 ⟨rfl, D7⟩
          refine ⟨D7.cu, ?_⟩
          rw [← HE5.out]
          simp only [Act.put, List.setIfInBounds_toArray, List.set_cons_zero, List.set_cons_succ]
          refine takeD (i := 12) (v := .bool true) 64 rfl rfl (by kernel_rfl) (by kernel_rfl) (by kernel_rfl) (fun _ _ _ h => h) (.inl ⟨by rfl, fun W hW => exec_eqe _ _ _ _ _ _ rfl rfl rfl (by simp)⟩) (D7.cu) ?_
          try simp only [Act.put, List.setIfInBounds_toArray, List.set_cons_zero, List.set_cons_succ]
          refine takeD (i := 13) (v := .bool true) 8 rfl rfl (by kernel_rfl) (by kernel_rfl) (by kernel_rfl) (fun _ _ _ h => h) (.inl ⟨by rfl, fun W hW => exec_assign _ _ rfl rfl⟩) (D7.cu) ?_
          try simp only [Act.put, List.setIfInBounds_toArray, List.set_cons_zero, List.set_cons_succ]
          refine wpAnyH_done (by kernel_rfl) ?_ _
          have D8 : Hid (Du w rb q u x _ _ ((i : Int) + 1) w7) := { D7 with rt := D7.rt.more (by omega) }
          clear D6 D7 Dd
          go_wp2
          go_meet
          case rel => exact ⟨rfl, _, D8.out⟩
        · have z0 : (kd == 0) = false := by simpa using k0
          have z1 : (kd == 1) = false := by simpa using k1
          have D8 : Hid (Du w rb q u x ws ws ((i : Int) + 1) w5) := { D5.out with rt := D5.out.rt.more (by omega) }
          clear D5 T5
          go_wp2
          go_meet
          case rel => exact ⟨rfl, _, D8.out⟩
      case rest =>
        obtain ⟨rfl, ws', DC⟩ := hcut
        obtain ⟨V, hV⟩ : ∃ V, V = x.net.vals := ⟨_, rfl⟩
        have LV : Hid (V.length = 4) := by rw [hV]; exact (rfl : x.net.vals.length = 4)
        have EV : Hid (x.net.val = .agg V.toArray) := by rw [hV]; exact rfl
        have CV : Hid (∀ W, Below wc.heap.size wc W → CellsAt W u 0 V) := fun W hb => by rw [hV]; exact (Wy.parts (DC.out.later hb).cu).1
        obtain ⟨A, hA⟩ : ∃ A, A = fdA ws' x.net := ⟨_, rfl⟩
        obtain ⟨E, hE⟩ : ∃ E, E = fdE ws' x.net := ⟨_, rfl⟩
        obtain ⟨AV, hAV⟩ : ∃ AV, AV = A.vals := ⟨_, rfl⟩
        have LA : Hid (AV.length = 4) := by rw [hAV]; exact (rfl : A.vals.length = 4)
        have OA : Hid (∀ u ∈ AV, u.oneCell' = true) := by rw [hAV]; exact ip_one A
        have EA : Hid (A.val = .agg AV.toArray) := by rw [hAV]; exact rfl
        have HAV := hide hAV
        have FD := Find_any x.net xo.out.net DC.out.rt
        rw [EV.out, ← hA, ← hE, EA.out] at FD
        have HFD := hide FD
        have FR : Hid (∀ W, Below wc.heap.size wc W → Calls Try.prog 13 #[.pointer (some ⟨q, 0, none⟩), .agg V.toArray] W fun e w' => e = .returned (.tuple #[.agg AV.toArray, .int .i64 E]) ∧ Below W.heap.size W w') := fun W hb => by
          have h := rFind_any x.net xo.out.net (DC.out.later hb).rf DC.out.rt.ky
          rw [EV.out, ← hA, ← hE, EA.out] at h
          exact h
        have C0 := CV.out wc (Below.refl _ _)
        have HC0 := hide C0
        clear FD hA hE hAV hV C0 D5 T5 k5
        go_wp2_with (refine wpList_loadA rfl 31 4 aggI sizI _ rfl u 0 rfl V LV.out HC0.out ?_)
        refine HFD.out.mono ?_
        rintro _ w6 ⟨rfl, b6⟩
        obtain ⟨u7, w7, hu7, hw7, cu7, fu7, c7, b7, l7⟩ := newV w6 31 zI.vals AV (by rw [LA.out]; rfl)
        obtain ⟨sg, hsg⟩ : ∃ sg, sg = w6.heap.size := ⟨_, rfl⟩
        rw [← hsg] at hw7 cu7 fu7 c7 l7
        have B7 := hide (later b6 b7)
        have CU := hide cu7
        have FU := hide fu7
        have C7 := hide c7
        have C7u := hide (CV.out w7 B7.out)
        have F7 := hide (FR.out w7 B7.out)
        have hu7' := hu7.symm
        simp only [zI, I4.vals] at hu7'
        have hw7' := hw7.symm
        have hsg' := hsg.symm
        clear hu7 hw7 hsg cu7 fu7 c7 b6 b7 HFD HC0
        go_upto_region 17 with (refine wpList_storeA rfl 31 4 sizI _ _ rfl sg 0 rfl AV zI.vals rfl LA.out rfl CU.out FU.out OA.out ?_; intro _; rw [hw7'])
        clear hu7' hw7' hsg' CU FU
        go_wp2_with (refine wpList_loadA rfl 31 4 aggI sizI _ rfl u 0 rfl V LV.out C7u.out ?_)
        refine F7.out.mono ?_
        rintro _ w8 ⟨rfl, b8⟩
        obtain ⟨u9, w9, hu9, hw9, cu9, fu9, c9, b9, l9⟩ := newV w8 31 zI.vals AV (by rw [LA.out]; rfl)
        obtain ⟨sh, hsh⟩ : ∃ sh, sh = w8.heap.size := ⟨_, rfl⟩
        rw [← hsh] at hw9 cu9 fu9 c9 l9
        have b79 := later b8 b9
        have D9 := hide (DC.out.later (later B7.out b79))
        have CU := hide cu9
        have FU := hide fu9
        have C9 := hide c9
        have C9g := hide (C7.out.later l7 b79)
        have l9g : sg < w9.heap.size := Nat.lt_of_lt_of_le l7 b79.size
        have AL := hide (All_any D9.out.rt)
        have hu9' := hu9.symm
        simp only [zI, I4.vals] at hu9'
        have hw9' := hw9.symm
        have hsh' := hsh.symm
        clear hu9 hw9 hsh cu9 fu9 c9 b8 b9 b79 F7 C7u C7 FR CV DC B7
        go_upto_region 18 with (refine wpList_storeA rfl 31 4 sizI _ _ rfl sh 0 rfl AV zI.vals rfl LA.out rfl CU.out FU.out OA.out ?_; intro _; rw [hw9'])
        clear hu9' hw9' hsh' CU FU
        go_wp2_with fail
        refine AL.out.mono ?_
        rintro _ w10 ⟨v, rfl, rv, b10⟩
        obtain ⟨va, vc, rfl⟩ := rv.shape
        obtain ⟨qv, cq, rq⟩ := D9.out.rf.row
        obtain ⟨qa, qc, rfl⟩ := rq.shape
        obtain ⟨m, hm⟩ : ∃ m, m = ws'.length := ⟨_, rfl⟩
        have hq9 := D9.out.rf.lt
        rw [← hm] at rv rq cq ⊢
        have RV := hide rv
        have RQ := hide (rq.own (O' := fun g => g < w9.heap.size) (fun g hg _ => hg))
        have CQ := hide cq
        have m8 : (m : Int) ≤ 8 := by have := D9.out.rf.len; omega
        obtain ⟨a0, a1, a2, a3⟩ := A
        have c10 := C9.out.later l9 b10
        have c10g := C9g.out.later l9g b10
        rw [HAV.out] at c10 c10g
        have g0 : w10.cell? ⟨sg, 0, none⟩ = some (.int .u8 a0) := c10g 0 _ rfl
        have g1 : w10.cell? ⟨sg, 1, none⟩ = some (.int .u8 a1) := c10g 1 _ rfl
        have g2 : w10.cell? ⟨sg, 2, none⟩ = some (.int .u8 a2) := c10g 2 _ rfl
        have g3 : w10.cell? ⟨sg, 3, none⟩ = some (.int .u8 a3) := c10g 3 _ rfl
        have h0 : w10.cell? ⟨sh, 0, none⟩ = some (.int .u8 a0) := c10 0 _ rfl
        have h1 : w10.cell? ⟨sh, 1, none⟩ = some (.int .u8 a1) := c10 1 _ rfl
        have h2 : w10.cell? ⟨sh, 2, none⟩ = some (.int .u8 a2) := c10 2 _ rfl
        have h3 : w10.cell? ⟨sh, 3, none⟩ = some (.int .u8 a3) := c10 3 _ rfl
        have q10 : w10.cell? ⟨q, 0, none⟩ = some (.slice qa m qc) := (b10.cell (p := ⟨q, 0, none⟩) hq9).trans cq
        have EI := eq_ip
        have es : eqI ⟨a0, a1, a2, a3⟩ ⟨a0, a1, a2, a3⟩ = true := eqI_self _
        have HB10 := hide b10
        have HM := hide hm
        clear rv rq cq c10 c10g b10 C9 C9g l9 l9g AL hm
        go_upto_region 21 with fail
        clear g0 g1 g2 g3 h0 h1 h2 h3 EI es q10
        go_wp2
        go_loopw [14] (fun vk wx => ∃ (k : Nat) (c : Nat → List Value), vk = .int .i64 (k : Int) ∧ k ≤ m ∧ Hid (RowF 10 (fun h => w9.heap.size ≤ h) wx (.slice va m vc) m c) ∧ Hid (∀ j, j < m → (c j).length = 10) ∧ Hid (∀ j, k ≤ j → c j = wyc ws' j) ∧ Hid (But (fun g => w9.heap.size ≤ g) w9 wx)) (fun vk _ => m - (intOf vk).toNat)
        case atStart => exact ⟨0, _, rfl, Nat.zero_le _, RV.out, (fun j _ => wyc_len ws' j), (fun j _ => rfl), (But.of_below HB10.out).mono (K := fun _ => False) (fun g e => False.elim e)⟩
        case round =>
          obtain ⟨k, c, rfl, hk, RK, LK, EK, BK⟩ := hrel
          obtain ⟨wp, rfl⟩ : ∃ wp, wp = wr := ⟨_, rfl⟩
          by_cases hkm : k < m
          · obtain ⟨ga, ea, hg2, hg1, hg3, hg4⟩ := RK.out.at (by omega)
            obtain ⟨gq, eq_, hq1, hq2, hq3, hq4⟩ := (RQ.out.but BK.out (fun g hg e => by omega)).at (by omega)
            subst ea eq_
            have cqp : wp.cell? ⟨q, 0, none⟩ = some (.slice (some ⟨gq, 0, none⟩) m qc) := (BK.out.cell (p := ⟨q, 0, none⟩) hq9 (fun e => by have e : w9.heap.size ≤ q := e; omega)).trans CQ.out
            obtain ⟨y, hy⟩ : ∃ y, y = (ws'[k]?).getD zWy := ⟨_, rfl⟩
            have ck : CellsAt wp ga (k * 10) y.cells := by
              have h := hg4 k hkm
              rw [EK.out k (Nat.le_refl _)] at h
              rw [hy]; exact h
            have cy : CellsAt wp gq (k * 10) y.cells := by
              have h := hq4 k hkm
              rw [hy]; exact h
            have lqp : q < wp.heap.size := Nat.lt_of_lt_of_le hq9 BK.out.size
            have kz : (k : Int) < (m : Int) := by omega
            have CK := hide ck
            have CY := hide cy
            have CQP := hide cqp
            have F3 := hide hg3
            clear hg3 hg4 hq3 hq4 ck cy cqp hy
            go_upto_region 24 with fail
            refine region_quiet_C (fun W => Below wp.heap.size wp W) (by kernel_rfl) (by kernel_rfl) (later_drew _) ?_
            go_big_quiet_step (fail)
            go_big_quiet_step (fail)
            go_big_quiet_want
            refine quiet_pure (.pointer (some ⟨ga, k * 10, none⟩)) (fun W hW => exec_ixW _ _ ga m vc k rfl rfl rfl hkm) ?_
            go_big_quiet_on
            simp only [Act.put, List.setIfInBounds_toArray, List.set_cons_succ, List.set_cons_zero]
            go_big_quiet_want
            refine quiet_pure (.agg (y.cells).toArray) (fun W hW => exec_loadA 33 10 aggW sizW _ rfl ga (k * 10) rfl (y.cells) rfl (CK.out.later hg2 hW)) ?_
            go_big_quiet_on
            simp only [Act.put, List.setIfInBounds_toArray, List.set_cons_succ, List.set_cons_zero]
            go_big_quiet_step (fail)
            go_big_quiet_want
            refine quiet_pure (.pointer (some ⟨q, 0, none⟩)) (fun W hW => exec_nil _ _ rfl rfl) ?_
            go_big_quiet_on
            simp only [Act.put, List.setIfInBounds_toArray, List.set_cons_succ, List.set_cons_zero]
            go_big_quiet_want
            refine quiet_pure (.pointer (some ⟨q, 0, none⟩)) (fun W hW => exec_fieldO 29 _ 0 q 0 0 rfl rfl (fun w => by kernel_rfl)) ?_
            go_big_quiet_on
            simp only [Act.put, List.setIfInBounds_toArray, List.set_cons_succ, List.set_cons_zero]
            go_big_quiet_want
            refine quiet_pure (.slice (some ⟨gq, 0, none⟩) m qc) (fun W hW => exec_load1 27 oneWs _ rfl q 0 rfl (.slice (some ⟨gq, 0, none⟩) m qc) ((hW.cell (p := ⟨q, 0, none⟩) lqp).trans CQP.out)) ?_
            go_big_quiet_on
            simp only [Act.put, List.setIfInBounds_toArray, List.set_cons_succ, List.set_cons_zero]
            go_big_quiet_step (fail)
            go_big_quiet_want
            refine quiet_pure (.pointer (some ⟨gq, k * 10, none⟩)) (fun W hW => exec_ixW _ _ gq m qc k rfl rfl rfl hkm) ?_
            go_big_quiet_on
            simp only [Act.put, List.setIfInBounds_toArray, List.set_cons_succ, List.set_cons_zero]
            go_big_quiet_want
            refine quiet_pure (.agg (y.cells).toArray) (fun W hW => exec_loadA 33 10 aggW sizW _ rfl gq (k * 10) rfl (y.cells) rfl (CY.out.later hq1 hW)) ?_
            go_big_quiet_on
            simp only [Act.put, List.setIfInBounds_toArray, List.set_cons_succ, List.set_cons_zero]
            go_big_quiet_want
            refine quiet_pure (.bool false) (fun W hW => exec_neW _ _ _ y rfl rfl rfl) ?_
            go_big_quiet_on
            simp only [Act.put, List.setIfInBounds_toArray, List.set_cons_succ, List.set_cons_zero]
            refine wpQuiet_nil ?_
            intro wq bq
            have rq := RK.out.later bq
            have CKq := hide (CK.out.later hg2 bq)
            have F3q : Hid (∀ j, wq.frozen? ⟨ga, j, none⟩ = false) := fun j => (bq.frozen (p := ⟨ga, j, none⟩) hg2).trans (F3.out j)
            obtain ⟨Z, hZ⟩ : ∃ Z, Z = Wy.cells ⟨zI, 99, zI, false⟩ := ⟨_, rfl⟩
            have LZ : Hid (Z.length = 10) := by rw [hZ]; exact rfl
            have OZ : Hid (∀ u ∈ Z, u.oneCell' = true) := by rw [hZ]; exact wy_one _
            have EZ : Hid (Value.agg #[.int .u8 0, .int .u8 0, .int .u8 0, .int .u8 0, .int .i64 99, .int .u8 0, .int .u8 0, .int .u8 0, .int .u8 0, .bool false] = .agg Z.toArray) := by rw [hZ]; exact rfl
            have RS := hide (rq.set LK.out hkm Z LZ.out rfl)
            have BS : Hid (But (fun g => w9.heap.size ≤ g) w9 (wq.setCells ga (k * 10) Z)) := (BK.out.trans (But.of_below bq)).trans ((But.cells ga Z (k * 10) wq).mono (fun g e => by have e : g = ga := e; show w9.heap.size ≤ g; omega))
            have YL : Hid (y.cells.length = 10) := rfl
            obtain ⟨Y, hY⟩ : ∃ Y, Y = y.cells := ⟨_, rfl⟩
            rw [← hY] at CKq YL ⊢
            clear rq bq hZ CK CY CQP F3 hY
            obtain ⟨wS, hwS⟩ : ∃ wS, wS = wq.setCells ga (k * 10) Z := ⟨_, rfl⟩
            rw [← hwS] at RS BS
            have hwS' := hwS.symm
            clear hwS
            go_upto_region 23 with (refine wpList_storeA rfl 33 10 sizW _ _ rfl ga (k * 10) rfl Z Y EZ.out LZ.out YL.out CKq.out F3q.out OZ.out ?_; intro _; rw [hwS'])
            clear hwS'
            go_wp2
            go_roundw
            case rel => exact ⟨k + 1, _, by go_num, by omega, RS.out, (fun j hj => by by_cases e : j = k; simp only [e, if_true]; exact LZ.out; simp only [if_neg e]; exact LK.out j hj), (fun j hj => by rw [if_neg (by omega)]; exact EK.out j (by omega)), BS.out⟩
            case measure => simp [intOf]; omega
          · have DE : Hid (Rt wp (rb + 1) rb ws' ((i : Int) + 1) ∧ RfR wp q ws' ∧ Below w.heap.size w wp) := by
              have hr := D9.out.rt.lt
              refine ⟨D9.out.rt.but BK.out (fun e => by have e : w9.heap.size ≤ rb + 1 := e; omega) (fun e => by have e : w9.heap.size ≤ rb := e; omega), D9.out.rf.but BK.out (fun g _ hg e => by have e : w9.heap.size ≤ g := e; omega), D9.out.bel.trans (BK.out.below D9.out.bel.size (fun g hg e => by have e : w9.heap.size ≤ g := e; have := D9.out.bel.size; omega))⟩
            clear D9 RK LK EK BK RV RQ CQ
            go_wp2
            go_roundw
            case rel => exact ⟨i + 1, ws', by go_num, by omega, (by unfold Hid; rw [show ((i + 1 : Nat) : Int) = (i : Int) + 1 by omega]; exact DE.out.1), DE.out.2.1, DE.out.2.2⟩
            case measure => simp [intOf]; omega
    · go_wp2
      go_ret
      exact ⟨rfl, HBI.out⟩
end Go.Proofs.Ytlfacppkgamkgaa
