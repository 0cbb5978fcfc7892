
/-
  TcpResets: the walk.
-/
import Derived.Test.YtifoiodehejenaaDRow
namespace Go.Proofs.Ytifoiodehejenaa
open Go.RowKit Go.Shelf

theorem rsS_ok {s : Sg} (ok : s.Ok) : (rsS s).Ok := by
  have z0 : i64In 0 := by unfold i64In; decide
  have z4 : i64In 4 := by unfold i64In; decide
  have z20 : i64In 20 := by unfold i64In; decide
  unfold rsS
  split
  · exact ⟨z0, z0, by decide, by decide, z0, z0, z0, fun x hx => by simp [zSg] at hx, fun x hx => by simp [zSg] at hx⟩
  · split
    · exact ⟨ok.dst, ok.src, ok.ack, ⟨Int.le_refl 0, by show (0 : Int) < 4294967296; decide⟩, z4, z0, z0, (fun x hx => by simp at hx), fun x hx => by simp at hx⟩
    · exact ⟨ok.dst, ok.src, ⟨Int.le_refl 0, by show (0 : Int) < 4294967296; decide⟩, ⟨by show 0 ≤ _ % _; omega, by show _ % _ < _; omega⟩, z20, z0, z0, (fun x hx => by simp at hx), fun x hx => by simp at hx⟩
theorem rsS_got (s : Sg) : (rsS s).got = [] ∧ (rsS s).dat = [] := by
  unfold rsS
  split
  · exact ⟨rfl, rfl⟩
  · split <;> exact ⟨rfl, rfl⟩
theorem rsS_ends {s : Sg} (h : hasB s.flg 4 = false) : (rsS s).src = s.dst ∧ (rsS s).dst = s.src ∧ rsB (rsS s) = false := by
  unfold rsS rsB
  rw [if_neg (by rw [h]; decide)]
  split
  · exact ⟨rfl, rfl, by show (!hasB 4 4) = false; decide +kernel⟩
  · exact ⟨rfl, rfl, by show (!hasB 20 4) = false; decide +kernel⟩
set_option maxRecDepth 100000 in
set_option maxHeartbeats 8000000 in
theorem resets_walk (s : Sg) (gv dv : Value) (w : World) (hs : SgIn w s gv dv) :
    Calls Try.prog 7 #[.agg (s.cells gv dv).toArray] w fun e w' => e = .returned (.bool true) ∧ Below w.heap.size w w' := by
  obtain ⟨da, dc, rfl, _⟩ := hs.dat
  have hl := hs.datl
  have ok := hs.ok
  obtain ⟨X, hX⟩ : ∃ X, X = s.cells gv (.slice da s.dat.length dc) := ⟨_, rfl⟩
  obtain ⟨r, hr⟩ : ∃ r, r = rsS s := ⟨_, rfl⟩
  obtain ⟨E, hE⟩ : ∃ E, E = r.cells (.slice none 0 0) (.slice none 0 0) := ⟨_, rfl⟩
  obtain ⟨E2, hE2⟩ : ∃ E, E = (rsS r).cells (.slice none 0 0) (.slice none 0 0) := ⟨_, rfl⟩
  obtain ⟨h4, hh4⟩ : ∃ h, h = hasB s.flg 4 := ⟨_, rfl⟩
  have okr : r.Ok := by rw [hr]; exact rsS_ok ok
  have RG := rsS_got s
  rw [← hr] at RG
  have RB : rsB s = !h4 := by rw [hh4]; rfl
  have C1 : Hid (∀ W, Calls Try.prog 23 #[.agg X.toArray] W fun e w' => e = .returned (.tuple #[.agg E.toArray, .bool (!h4)]) ∧ Below W.heap.size W w') := fun W => by rw [← RB, hE, hX, hr]; exact Reset_any s ok gv da dc W (by omega)
  have C2 : Hid (∀ W, Calls Try.prog 24 #[.agg X.toArray] W fun e w' => e = .returned (.tuple #[.agg E.toArray, .bool (!h4)]) ∧ Below W.heap.size W w') := fun W => by rw [← RB, hE, hX, hr]; exact rReset_any s ok gv da dc W (by omega)
  have C3 : Hid (∀ W, Calls Try.prog 22 #[.agg E.toArray, .agg E.toArray] W fun e w' => e = .returned (.bool true) ∧ Below W.heap.size W w') := fun W => by
    rw [hE]
    exact SameT_true (P := fun _ => True) (Q := fun _ => True) r _ _ _ _ W (by rw [RG.1]; exact CG.nil _ _) (by rw [RG.1]; exact CG.nil _ _) (by rw [RG.2]; exact IsB.nil _ _) (by rw [RG.2]; exact IsB.nil _ _) (by rw [RG.1]; decide)
  have C4 : Hid (∀ W, Calls Try.prog 25 #[.agg X.toArray, .int .i64 4] W fun e w' => e = .returned (.bool h4) ∧ Below W.heap.size W w') := fun W => by rw [hX, hh4]; exact rHas_any s gv _ 4 (by simp) W
  have C5 : Hid (h4 = false → ∀ W, Calls Try.prog 23 #[.agg E.toArray] W fun e w' => e = .returned (.tuple #[.agg E2.toArray, .bool false]) ∧ Below W.heap.size W w') := fun h W => by
    have e := (rsS_ends (s := s) (by rw [← hh4]; exact h)).2.2
    rw [← hr] at e
    have k := Reset_any r okr (.slice none 0 0) none 0 W (by rw [RG.2]; decide)
    rw [show r.dat.length = 0 by rw [RG.2]; rfl, e, ← hE, ← hE2] at k
    exact k
  have EN : Hid (h4 = false → E[0]? = some (.int .i64 s.dst) ∧ E[1]? = some (.int .i64 s.src)) := fun h => by
    have e := rsS_ends (s := s) (by rw [← hh4]; exact h)
    rw [← hr] at e
    rw [hE, ← e.1, ← e.2.1]
    exact ⟨rfl, rfl⟩
  have E9 : Hid (E[9]? = some (.slice none 0 0)) := by rw [hE]; exact rfl
  have LX : Hid (X.length = 10) := by rw [hX]; exact rfl
  have LE : Hid (E.length = 10) := by rw [hE]; exact rfl
  have OE : Hid (∀ u ∈ E, u.oneCell' = true) := by rw [hE]; exact sg_one _ _ _ rfl rfl
  have LE2 : Hid (E2.length = 10) := by rw [hE2]; exact rfl
  have OE2 : Hid (∀ u ∈ E2, u.oneCell' = true) := by rw [hE2]; exact sg_one _ _ _ rfl rfl
  have AW := hide (fun W => tAwake_any W)
  obtain ⟨w1, bx, hs1, hw1, c1, f1, B1, l1⟩ := boxS w s gv (.slice da s.dat.length dc)
  have x0 : X[0]? = some (.int .i64 s.src) := by rw [hX]; rfl
  have x1 : X[1]? = some (.int .i64 s.dst) := by rw [hX]; rfl
  have HX01 := hide (And.intro x0 x1)
  rw [← hX] at c1 ⊢
  have CX := hide c1
  have EX : X.toArray = #[.int .i64 s.src, .int .i64 s.dst, .int .u32 s.seq, .int .u32 s.ack, .int .i64 s.flg, .int .i64 s.wnd, .int .i64 s.mss, .bool s.sak, gv, .slice da s.dat.length dc] := by rw [hX]; rfl
  rw [← EX] at hw1
  have hs' := hs1.symm
  have hw' := hw1.symm
  have HB1 := hide B1
  clear hs1 hw1 c1 f1 B1 hX EX hl hs x0 x1 hr hE hE2 hh4 okr RG RB
  go_enter Try.func7, Try.ntmps7
  go_upto_region 1 with fail
  clear hs' hw'
  go_wp2_with fail
  refine (AW.out w1).mono ?_
  rintro _ w2 ⟨rfl, b2⟩
  have B2 := hide (later HB1.out b2)
  have U2 := hide (((CX.out.up l1)).next b2)
  have CX := hide U2.out.now
  clear b2 HB1 AW
  go_wp2_with (refine wpList_loadA rfl 26 10 aggSg sizSg _ rfl bx 0 rfl X LX.out CX.out ?_)
  refine (C1.out w2).mono ?_
  rintro _ w3 ⟨rfl, b3⟩
  obtain ⟨u4, w4, hu4, hw4, cu4, fu4, c4, b4, l4, _⟩ := newS w3 E LE.out
  obtain ⟨s4, hs4⟩ : ∃ s4, s4 = w3.heap.size := ⟨_, rfl⟩
  rw [← hs4] at hw4 cu4 fu4 c4 l4
  have B4 := hide (later (later B2.out b3) b4)
  have U4 := hide (((U2.out.next b3).next b4).and (c4.up l4))
  have CU4 := hide cu4
  have FU4 := hide fu4
  have CX := hide U4.out.now.1
  have hu4' := hu4.symm
  simp only [zSC, zSg, Sg.cells] at hu4'
  have hw4' := hw4.symm
  have hs4' := hs4.symm
  clear hu4 hw4 hs4 cu4 fu4 c4 b3 b4 l4 U2 C1 B2
  go_upto_region 3 with (refine wpList_storeA rfl 26 10 sizSg _ _ rfl s4 0 rfl E zSC rfl LE.out rfl CU4.out FU4.out OE.out ?_; intro _; rw [hw4'])
  clear hu4' hw4' hs4' CU4 FU4
  go_wp2_with (refine wpList_loadA rfl 26 10 aggSg sizSg _ rfl bx 0 rfl X LX.out CX.out ?_)
  refine (C2.out w4).mono ?_
  rintro _ w5 ⟨rfl, b5⟩
  obtain ⟨u6, w6, hu6, hw6, cu6, fu6, c6, b6, l6, _⟩ := newS w5 E LE.out
  obtain ⟨s6, hs6⟩ : ∃ s6, s6 = w5.heap.size := ⟨_, rfl⟩
  rw [← hs6] at hw6 cu6 fu6 c6 l6
  have B6 := hide (later (later B4.out b5) b6)
  have U6 := hide (((U4.out.next b5).next b6).and (c6.up l6))
  have CU6 := hide cu6
  have FU6 := hide fu6
  have C6 := hide U6.out.now
  have hu6' := hu6.symm
  simp only [zSC, zSg, Sg.cells] at hu6'
  have hw6' := hw6.symm
  have hs6' := hs6.symm
  clear hu6 hw6 hs6 cu6 fu6 c6 b5 b6 l6 U4 C2 B4 CX
  go_upto_region 4 with (refine wpList_storeA rfl 26 10 sizSg _ _ rfl s6 0 rfl E zSC rfl LE.out rfl CU6.out FU6.out OE.out ?_; intro _; rw [hw6'])
  clear hu6' hw6' hs6' CU6 FU6
  have K4 := hide C6.out.1.2
  have K6 := hide C6.out.2
  clear C6
  go_wp2_with (first | refine wpList_loadA rfl 26 10 aggSg sizSg _ rfl s4 0 rfl E LE.out K4.out ?_ | refine wpList_loadA rfl 26 10 aggSg sizSg _ rfl s6 0 rfl E LE.out K6.out ?_)
  refine (C3.out w6).mono ?_
  rintro _ w7 ⟨rfl, b7⟩
  have B7 := hide (later B6.out b7)
  have U7 := hide (U6.out.next b7)
  have CX := hide U7.out.now.1.1
  clear b7 U6 B6 C3 K4 K6
  have q1 : ((!h4) != (!h4)) = false := by cases h4 <;> rfl
  go_wp2_with (refine wpList_loadA rfl 26 10 aggSg sizSg _ rfl bx 0 rfl X LX.out CX.out ?_)
  refine (C4.out w7).mono ?_
  rintro _ w8 ⟨rfl, b8⟩
  have B8 := hide (later B7.out b8)
  have U8 := hide (U7.out.next b8)
  clear b8 U7 B7 C4 CX
  cases h4 with
  | true =>
    go_wp2
    go_ret
    exact ⟨rfl, B8.out⟩
  | false =>
    have K4 := hide U8.out.now.1.2
    go_wp2_with (refine wpList_loadA rfl 26 10 aggSg sizSg _ rfl s4 0 rfl E LE.out K4.out ?_)
    refine (C5.out trivial w8).mono ?_
    rintro _ w9 ⟨rfl, b9⟩
    obtain ⟨u10, w10, hu10, hw10, cu10, fu10, c10, b10, l10, _⟩ := newS w9 E2 LE2.out
    obtain ⟨s10, hs10⟩ : ∃ s10, s10 = w9.heap.size := ⟨_, rfl⟩
    rw [← hs10] at hw10 cu10 fu10 c10 l10
    have B10 := hide (later (later B8.out b9) b10)
    have U10 := hide ((U8.out.next b9).next b10)
    have CU10 := hide cu10
    have FU10 := hide fu10
    have k0 : w10.cell? ⟨s4, 0, none⟩ = some (.int .i64 s.dst) := U10.out.now.1.2 0 _ (EN.out trivial).1
    have k1 : w10.cell? ⟨s4, 1, none⟩ = some (.int .i64 s.src) := U10.out.now.1.2 1 _ (EN.out trivial).2
    have k9 : w10.cell? ⟨s4, 9, none⟩ = some (.slice none 0 0) := U10.out.now.1.2 9 _ E9.out
    have j0 : w10.cell? ⟨bx, 0, none⟩ = some (.int .i64 s.src) := U10.out.now.1.1 0 _ HX01.out.1
    have j1 : w10.cell? ⟨bx, 1, none⟩ = some (.int .i64 s.dst) := U10.out.now.1.1 1 _ HX01.out.2
    have hu10' := hu10.symm
    simp only [zSC, zSg, Sg.cells] at hu10'
    have hw10' := hw10.symm
    have hs10' := hs10.symm
    clear hu10 hw10 hs10 cu10 fu10 c10 b9 b10 l10 U8 B8 C5 K4
    go_upto_region 11 with (refine wpList_storeA rfl 26 10 sizSg _ _ rfl s10 0 rfl E2 zSC rfl LE2.out rfl CU10.out FU10.out OE2.out ?_; intro _; rw [hw10'])
    clear hu10' hw10' hs10' CU10 FU10
    go_wp2
    go_ret
    exact ⟨rfl, B10.out⟩
end Go.Proofs.Ytifoiodehejenaa
