
/-
  delivered: a Deliver into a fresh buffer.
-/
import Derived.Test.YtghojbgjmpjhgaaB2
namespace Go.Proofs.Ytghojbgjmpjhgaa
open Go.RowKit

set_option maxRecDepth 100000 in
set_option maxHeartbeats 8000000 in
theorem delivered_x {P : Pl} {ρ : Nat → Nat} {w : World} {ck : Int} {L : Nat → List (Value × Frm)} {D : Nat → Dev} {T F : Nat → Nat} {S : Nat → List (List Int)} {TT : Nat → List Int} {tk : Nat → Nat} {BS : List (List Int)} {PT LF : List Int} {m n : Nat} {pa ba la : Option Addr} {pc bc lc : Nat} (h : Mem P ρ w ck L D T F m (.slice pa n pc) (.slice ba n bc) (.slice la n lc) BS PT LF) (hg : Brg ck (ab L) D F S TT tk BS PT LF m) (hm : m ≤ 2513169434843) (hn : BS.length = n) (_ : n ≤ 60000) (od : Int) (hd : isDir od = false) (ok ot : Int) (va : Option Addr) (vc k : Nat) :
    Calls Try.prog 17 #[.pointer (some ⟨P.x, 0, none⟩), .agg #[.int .i64 7, .int .i64 od, .int .i64 ok, .int .i64 ot, .slice va k vc], .slice pa n pc, .slice ba n bc, .slice la n lc] w (DelEnd P ρ w ck T S TT tk BS PT m (.slice pa n pc) (.slice ba n bc) (.slice la n lc)) := by
  have bx : Below w.heap.size w (w.alloc (.cells #[.int .i64 7, .int .i64 od, .int .i64 ok, .int .i64 ot, .slice va k vc] 29)) := (Below.refl _ _).alloc (Nat.le_refl _) _
  have BX := hide bx
  have H1 := hide (h.later bx)
  have HG := hide hg
  have F5 := Five.new w 7 od ok ot (.slice va k vc) 29
  have NS : Hid (ρ w.heap.size = 0) := h.fresh0
  have BND := hide (h.h.bounds hm)
  have HN := hide hn
  obtain ⟨s, hs⟩ : ∃ s, s = w.heap.size := ⟨_, rfl⟩
  rw [← hs] at F5 NS
  have ZM : Hid (m ≤ 2513169434843) := hm
  clear h bx hg hm hn
  go_enter Try.func17, Try.ntmps17
  have hs' := hs
  clear hs
  go_upto_region 1 with fail
  rw [← hs']
  clear hs'
  generalize w.alloc (.cells #[.int .i64 7, .int .i64 od, .int .i64 ok, .int .i64 ot, .slice va k vc] 29) = w1 at *
  have F5H := hide F5
  obtain ⟨_, c1, _, _, _⟩ := F5
  have q2 : But (Mid ρ) w1 w1.drew := (But.refl _ _).drew
  have keepS : Hid (∀ W : World, But (Mid ρ) w1 W → (W.cell? ⟨P.x, 2, none⟩ = some (.pointer (some ⟨P.b, 0, none⟩)) ∧ W.cell? ⟨s, 1, none⟩ = some (.int .i64 od) ∧ W.cell? ⟨s, 2, none⟩ = some (.int .i64 ok))) := fun W hb => by
    have kc := H1.out.h.c.but hb (fun e => by unfold Mid at e; rw [H1.out.h.rx] at e; omega)
    have k5 := F5H.out.but hb (fun e => by unfold Mid at e; rw [NS.out] at e; omega)
    exact ⟨kc.cw, k5.c1, k5.c2⟩
  have e1 : thE (fun i => (ab L i).length) od ok = 1 := thE_one hd
  obtain ⟨d1, d2, d3⟩ := del_no (l := ab L) (D := D) (d := od) (k := ok) (by rw [e1]; omega)
  have XD := pDeliver H1.out.drew.h.n od ok
  rw [d1, d2, d3, e1] at XD
  have HX := hide XD
  have hd0 : ¬ (0 ≤ od ∧ od < 2) := by unfold isDir at hd; simpa using hd
  have y0 : (od != 0) = true := by simp; omega
  have y1 : (od != 1) = true := by simp; omega
  clear d1 d2 d3 e1 XD hd hd0
  go_upto_region 2 with fail
  clear c1
  go_region_held (fun W => W.cell? ⟨P.x, 2, none⟩ = some (.pointer (some ⟨P.b, 0, none⟩)) ∧ W.cell? ⟨s, 1, none⟩ = some (.int .i64 od) ∧ W.cell? ⟨s, 2, none⟩ = some (.int .i64 ok)) (exact keepS.out _ (by assumption))
    (first
      | (go_at_call 38; refine HX.out.mono ?_; rintro e w3 ⟨rfl, L', hD, hA⟩; obtain ⟨ρ3, m3, e3, b3⟩ := H1.out.drew.did hD (by rw [hA]; exact H1.out.h.i.more); have M3 := hide m3; have HA := hide hA; have q3 : But (Mid ρ) w1 w3 := q2.trans b3; clear hD hA m3 e3 b3))
  have B3 := hide q3
  clear q2 q3 keepS
  go_wp2
  go_ret
  exact ⟨rfl, _, L', _, _, _, M3.out, by rw [HA.out]; exact HG.out.more, (But.of_below BX.out).trans (mid_mine B3.out)⟩

set_option maxRecDepth 100000 in
set_option maxHeartbeats 8000000 in
theorem delivered_0 {P : Pl} {ρ : Nat → Nat} {w : World} {ck : Int} {L : Nat → List (Value × Frm)} {D : Nat → Dev} {T F : Nat → Nat} {S : Nat → List (List Int)} {TT : Nat → List Int} {tk : Nat → Nat} {BS : List (List Int)} {PT LF : List Int} {m n : Nat} {pa ba la : Option Addr} {pc bc lc : Nat} (h : Mem P ρ w ck L D T F m (.slice pa n pc) (.slice ba n bc) (.slice la n lc) BS PT LF) (hg : Brg ck (ab L) D F S TT tk BS PT LF m) (hm : m ≤ 2513169434843) (hn : BS.length = n) (hn6 : n ≤ 60000) (ok ot : Int) (va : Option Addr) (vc k : Nat) :
    Calls Try.prog 17 #[.pointer (some ⟨P.x, 0, none⟩), .agg #[.int .i64 7, .int .i64 0, .int .i64 ok, .int .i64 ot, .slice va k vc], .slice pa n pc, .slice ba n bc, .slice la n lc] w (DelEnd P ρ w ck T S TT tk BS PT m (.slice pa n pc) (.slice ba n bc) (.slice la n lc)) := by
  have bx : Below w.heap.size w (w.alloc (.cells #[.int .i64 7, .int .i64 0, .int .i64 ok, .int .i64 ot, .slice va k vc] 29)) := (Below.refl _ _).alloc (Nat.le_refl _) _
  have BX := hide bx
  have H1 := hide (h.later bx)
  have HG := hide hg
  have F5 := Five.new w 7 0 ok ot (.slice va k vc) 29
  have NS : Hid (ρ w.heap.size = 0) := h.fresh0
  have BND := hide (h.h.bounds hm)
  have HN := hide hn
  obtain ⟨s, hs⟩ : ∃ s, s = w.heap.size := ⟨_, rfl⟩
  rw [← hs] at F5 NS
  have ZM : Hid (m ≤ 2513169434843) := hm
  clear h bx hg hm hn
  go_enter Try.func17, Try.ntmps17
  have hs' := hs
  clear hs
  go_upto_region 1 with fail
  rw [← hs']
  clear hs'
  generalize w.alloc (.cells #[.int .i64 7, .int .i64 0, .int .i64 ok, .int .i64 ot, .slice va k vc] 29) = w1 at *
  have F5H := hide F5
  obtain ⟨_, c1, _, _, _⟩ := F5
  have ZN : Hid (n ≤ 60000) := hn6
  clear hn6
  obtain ⟨f, hf⟩ : ∃ f, f = F 1 := ⟨_, rfl⟩
  have hfb : f < 16 := by rw [hf]; exact (H1.out.h.c.tb 1 (by omega)).2
  have HF := hide hf
  clear hf
  go_upto_region 3 with fail
  have cd := H1.out.h.c.cd 1 (by omega)
  go_quiet (fail)
  have bn := drewN_belowY w1 nq
  have H2 := hide (H1.out.later bn)
  have F52 := hide (F5H.out.but (But.of_below (K := fun _ => False) bn) id)
  have BX2 := hide (BX.out.trans (bn.mono BX.out.size))
  clear bn c1 cd H1 F5H BX
  generalize w1.drewN nq = w2 at *
  go_upto_region 4 with fail
  have c1 := F52.out.c1
  have cf : w2.cell? ⟨P.x, 9, none⟩ = some (.int .i64 (f : Int)) := by rw [HF.out]; exact H2.out.h.c.cf 1 (by omega)
  go_quiet (fail)
  have bn := drewN_belowY w2 nq
  have H3 := hide (H2.out.later bn)
  have F53 := hide (F52.out.but (But.of_below (K := fun _ => False) bn) id)
  have BX3 := hide (BX2.out.trans (bn.mono BX2.out.size))
  clear bn c1 cf H2 F52 BX2
  generalize w2.drewN nq = w3 at *
  have ZF : Hid ((f : Int) < 16) := by have := hfb; unfold Hid; omega
  have ET : ((f : Int) + 1) % 16 = (((f + 1) % 16 : Nat) : Int) := by omega
  have HET := hide ET
  have OK1 := hide ((H3.out.h.n.ok 1 (by omega)).sr (f : Int) 274)
  have DI1 := hide ((H3.out.h.i.dv 1 (by omega)).sr (f : Int) 274)
  have OK2 := hide (OK1.out.wr 3 (((f + 1) % 16 : Nat) : Int))
  have DI2 := hide (DI1.out.wr H3.out.h.i.ck0.1 3 (((f + 1) % 16 : Nat) : Int))
  have X5 := hide (SetRx_any (H3.out.h.n.dev 1 (by omega)) (H3.out.h.n.ok 1 (by omega)) (f : Int) 274)
  have CB := hide (HG.out.car 1 (by omega))
  rw [← HF.out] at CB
  have KBK : Hid (Carry ((((D 1).srD (f : Int) 274).wrD 3 (((f + 1) % 16 : Nat) : Int)).wrD 3 (f : Int)) (S 1) (TT 1) (tk 1) f) := CB.out.back
  obtain ⟨D1, hD1⟩ : ∃ D1, D1 = (D 1).srD (f : Int) 274 := ⟨_, rfl⟩
  have HD1 := hide hD1
  rw [← hD1] at OK1 DI1 OK2 DI2 X5 KBK
  obtain ⟨D2, hD2⟩ : ∃ D2, D2 = D1.wrD 3 (((f + 1) % 16 : Nat) : Int) := ⟨_, rfl⟩
  have HD2 := hide hD2
  rw [← hD2] at OK2 DI2 KBK
  clear hD1 hD2 ET
  generalize wE : (D 1).srE (f : Int) 274 = we at *
  clear wE
  go_wp2_with fail
  refine X5.out.mono ?_
  rintro e w4 ⟨rfl, hd4, hb4⟩
  obtain ⟨m4, b4⟩ := H3.out.dev 1 (by omega) hd4 OK1.out hb4 DI1.out
  have M4 := hide m4
  have F54 := hide (F53.out.but b4 (fun e => by unfold Mid at e; rw [NS.out] at e; omega))
  have B4 := hide ((But.of_below BX3.out).trans (mid_mine b4))
  have X6 : Hid (Calls Try.prog 13 #[.pointer (some ⟨P.dv 1, 0, none⟩), .int .i64 3, .int .i64 (((f : Int) + 1) % 16)] w4 fun e w' => e = .returned (.int .i64 (wrE 3 (((f : Int) + 1) % 16))) ∧ DevAt LN (Mine ρ) w' (P.dv 1) D2 ∧ But (Only (P.dv 1)) w4 w') := by
    have hd := m4.h.n.dev 1 (by omega)
    rw [upd_same] at hd
    have := Write_any hd OK1.out 3 (((f : Int) + 1) % 16)
    rw [show D1.wrD 3 (((f : Int) + 1) % 16) = D2 from by rw [HET.out]; exact HD2.out.symm] at this
    exact this
  clear hd4 hb4 m4 b4 X5 H3 F53 BX3
  generalize wrE 3 (((f : Int) + 1) % 16) = we2 at *
  have zf := ZF.out
  go_wp2_with fail
  refine X6.out.mono ?_
  rintro e w5 ⟨rfl, hd5, hb5⟩
  obtain ⟨m5, b5⟩ := M4.out.dev 1 (by omega) hd5 OK2.out hb5 DI2.out
  rw [upd_upd] at m5
  have M5 := hide m5
  have F55 := hide (F54.out.but b5 (fun e => by unfold Mid at e; rw [NS.out] at e; omega))
  have B5 := hide (B4.out.trans (mid_mine b5))
  clear hd5 hb5 m5 b5 X6 M4 F54 B4
  have q2 : But (Mid ρ) w5 w5.drew := (But.refl _ _).drew
  have keepS : Hid (∀ W : World, But (Mid ρ) w5 W → (W.cell? ⟨P.x, 2, none⟩ = some (.pointer (some ⟨P.b, 0, none⟩)) ∧ W.cell? ⟨s, 1, none⟩ = some (.int .i64 0) ∧ W.cell? ⟨s, 2, none⟩ = some (.int .i64 ok))) := fun W hb => by
    have kc := M5.out.h.c.but hb (fun e => by unfold Mid at e; rw [M5.out.h.rx] at e; omega)
    have k5 := F55.out.but hb (fun e => by unfold Mid at e; rw [NS.out] at e; omega)
    exact ⟨kc.cw, k5.c1, k5.c2⟩
  have XD := pDeliver M5.out.drew.h.n 0 ok
  by_cases hk : 0 ≤ ok ∧ ok < ((ab L 0).length : Int)
  · obtain ⟨j, rfl⟩ : ∃ j : Nat, ok = (j : Int) := ⟨ok.toNat, by omega⟩
    have hj : j < (ab L 0).length := by omega
    obtain ⟨fr, hfr⟩ : ∃ fr, (ab L 0)[j]? = some fr := ⟨_, List.getElem?_eq_getElem hj⟩
    have hfl : fr.bs.length ≤ 274 := by
      obtain ⟨p, hp, e⟩ := List.mem_map.1 (List.mem_of_getElem? hfr)
      rw [← e]; exact M5.out.h.n.fl 0 (by omega) p hp
    obtain ⟨x0, x1, x2, x3, x4, x5, x6, x7⟩ := CB.out.comeX fr.bs fr.bad hfl
    rw [← HD1.out, ← HD2.out] at x2 x3 x4 x5 x6 x7
    obtain ⟨d1, d2, d3⟩ := del_yes (l := ab L) (D := upd D 1 D2) (i := 0) (by omega) hfr
    rw [show 1 - 0 = 1 from rfl, upd_same] at d1 d2
    rw [upd_upd] at d2
    rw [x2] at d1
    have XD2 : Calls Try.prog 38 #[.pointer (some ⟨P.b, 0, none⟩), .int .i64 0, .int .i64 (j : Int)] w5.drew fun e w' => e = .returned (.int .i64 0) ∧ ∃ L', Did ρ w5.drew w' P.b P.dv ck L' (upd D 1 (D2.gvD fr.bs fr.bad)) ∧ ab L' = upd (ab L) 0 ((ab L 0).eraseIdx j) := by
      rw [show dlEA (ab L) (upd D 1 D2) 0 (j : Int) = 0 from d1, show dlDA (ab L) (upd D 1 D2) 0 (j : Int) = _ from d2, show drA (ab L) 0 (j : Int) = _ from d3] at XD
      exact XD
    have HX := hide XD2
    have IV : Hid (Inv ck (upd (ab L) 0 ((ab L 0).eraseIdx j)) (upd D 1 (D2.gvD fr.bs fr.bad)) (m + 1)) := by
      have := M5.out.h.i.deliver 0 (j : Int)
      rw [show dlDA (ab L) (upd D 1 D2) 0 (j : Int) = _ from d2, show drA (ab L) 0 (j : Int) = _ from d3] at this
      exact this
    obtain ⟨D3, hD3⟩ : ∃ D3, D3 = D2.gvD fr.bs fr.bad := ⟨_, rfl⟩
    rw [← hD3] at x3 x4 x5 x6 x7 HX IV
    have HFR := hide hfr
    have X3 := hide x3
    have X4 := hide x4
    have X5 := hide x5
    have X6 := hide x6
    clear XD XD2 x0 x1 x2 x3 x4 x5 x6 x7 d1 d2 d3 hD3 hk hfr hfl
    go_upto_region 7 with fail
    go_region_held (fun W => W.cell? ⟨P.x, 2, none⟩ = some (.pointer (some ⟨P.b, 0, none⟩)) ∧ W.cell? ⟨s, 1, none⟩ = some (.int .i64 0) ∧ W.cell? ⟨s, 2, none⟩ = some (.int .i64 (j : Int))) (exact keepS.out _ (by assumption))
      (first
        | (go_at_call 38; refine HX.out.mono ?_; rintro e w6 ⟨rfl, L', hD, hA⟩; obtain ⟨ρ6, m6, e6, b6⟩ := M5.out.drew.did hD (by rw [hA]; exact IV.out); have M6 := hide m6; have HA := hide hA; have E6 := hide e6; have q3 : But (Mid ρ) w5 w6 := q2.trans b6; clear hD hA m6 e6 b6))
    have F56 := hide (F55.out.but q3 (fun e => by unfold Mid at e; rw [NS.out] at e; omega))
    have B6 := hide (B5.out.trans (mid_mine q3))
    have NS6 : Hid (ρ6 s = 0) := by
      have h1 := E6.out s (by have := F55.out.lt; exact this)
      rw [h1]; exact NS.out
    have BR6 : Hid (∀ W, But (Mine ρ6) w6 W → But (Mine ρ) w W) := fun W hb => B6.out.trans' hb (fun g hg e => by
      have hq : g < w5.drew.heap.size := Nat.lt_of_lt_of_le hg B5.out.size
      unfold Mine at e ⊢
      rw [← E6.out g hq]; exact e)
    have c1 := F56.out.c1
    have fx := M6.out.h.c.fz 9
    have cf := M6.out.h.c.cf 1 (by omega)
    have cf : w6.cell? ⟨P.x, 9, none⟩ = some (.int .i64 (F 1 : Int)) := cf
    have hx := M6.out.h.c.lt
    clear q2 q3 keepS HX M5 F55 B5
    have M7 := hide (M6.out.setF 1 (by omega) ((f + 1) % 16) (by omega)).drew
    have B7 := hide ((M6.out.h.setB 9 (.int .i64 (((f + 1) % 16 : Nat) : Int))).drew)
    have F57 : Hid (Five (w6.setCell ⟨P.x, 9, none⟩ (.int .i64 (((f + 1) % 16 : Nat) : Int))).drew s 7 0 (j : Int) ot (.slice va k vc)) := F56.out.but B7.out (fun e => e NS6.out)
    go_upto_region 11 with fail
    go_region
    rw [HET.out]
    clear c1 fx cf hx
    have M7 : Hid (Mem P ρ6 (w6.setCell ⟨P.x, 9, none⟩ (.int .i64 (((f + 1) % 16 : Nat) : Int))).drew ck L' (upd D 1 D3) T (upd F 1 ((f + 1) % 16)) (m + 1) (.slice pa n pc) (.slice ba n bc) (.slice la n lc) BS PT LF) := M7.out
    generalize (w6.setCell ⟨P.x, 9, none⟩ (.int .i64 (((f + 1) % 16 : Nat) : Int))).drew = w7 at *
    have hdA := M7.out.h.n.dev 1 (by omega)
    have okA := M7.out.h.n.ok 1 (by omega)
    rw [upd_same] at hdA okA
    have XR := Rx_any hdA okA (f : Int)
    rw [X3.out, X4.out, X5.out] at XR
    have HXR := hide XR
    have BG := hide (HG.out.actsF 1 ((f + 1) % 16) (fun _ => X6.out))
    clear hdA okA XR
    go_wp2_with fail
    refine HXR.out.mono ?_
    rintro e w8 ⟨xa, xc, rfl, hG, hb8⟩
    have M8 := hide (M7.out.later hb8)
    have B8 := hide (BR6.out _ (B7.out.trans (But.of_below hb8)))
    have BQ := hide (B7.out.trans (But.of_below hb8))
    have F58 := hide (F57.out.but (But.of_below (K := fun _ => False) hb8) id)
    cases hbd : fr.bad with
    | true =>
      clear hG hb8 HXR
      go_wp2
      go_ret
      have BB : Brg ck (ab L') (upd D 1 D3) (upd F 1 ((f + 1) % 16)) S TT tk BS PT LF (m + 1) := by
        rw [HA.out]
        have := BG.out.drop 0 (j : Int)
        rw [show drA (ab L) 0 (j : Int) = _ from (del_yes (D := D) (i := 0) (by omega) HFR.out).2.2] at this
        exact this
      exact ⟨rfl, _, L', _, _, _, M8.out, BB, B8.out⟩
    | false =>
      obtain ⟨z0, z1, z2, z3, r, z4⟩ := HG.out.known (by omega) HFR.out hbd
      have BT := hide (BG.out.took (by omega) HFR.out hbd)
      have HY := hide (HG.out.yng 0 (by omega) fr (List.mem_of_getElem? HFR.out))
      obtain ⟨q, hq⟩ : ∃ q, q = numN fr.bs := ⟨_, rfl⟩
      rw [← hq] at z0 z1 z2 z3 z4 BT
      obtain ⟨lf, hlf⟩ : ∃ lf, lf = LF[q]?.getD 0 := ⟨_, rfl⟩
      rw [← hlf] at z3 BT
      have hLl := HG.out.lenL
      have hPl := HG.out.lenP
      have hnn := HN.out
      have hlf2 : LF[q]? = some lf := by rw [hlf, List.getElem?_eq_getElem (by omega)]; rfl
      have hub : lf ≤ (m : Int) + 1 := by rw [hlf, List.getElem?_eq_getElem (by omega)]; exact HG.out.lfb _ (List.getElem_mem _)
      obtain ⟨A, hA'⟩ : ∃ A, A = q / 256 := ⟨_, rfl⟩
      obtain ⟨C, hC'⟩ : ∃ C, C = q % 256 := ⟨_, rfl⟩
      rw [← hA', ← hC'] at z4
      have EQ : 256 * (A : Int) + (C : Int) = (q : Int) := by omega
      have zA : (A : Int) ≤ 255 := by have := ZN.out; omega
      have zC : (C : Int) ≤ 255 := by omega
      have h3 : 3 ≤ fr.bs.length := by rw [z4]; simp
      have xq : (q : Int) < (n : Int) := by omega
      have xq0 : (0 : Int) ≤ (q : Int) := by omega
      have xn : (n : Int) ≤ 60000 := by have := ZN.out; omega
      obtain ⟨gx, rfl, hgx, ycell, _⟩ := hG.where (by omega)
      have y0 : w8.cell? ⟨gx, 0, none⟩ = some (.int .u8 (A : Int)) := by rw [ycell 0 (by omega), z4]; rfl
      have y1 : w8.cell? ⟨gx, 1, none⟩ = some (.int .u8 (C : Int)) := by rw [ycell 1 (by omega), z4]; rfl
      have y2 : w8.cell? ⟨gx, 2, none⟩ = some (.int .u8 0) := by rw [ycell 2 (by omega), z4]; rfl
      have hLn : 0 < n := by omega
      obtain ⟨gl, rfl⟩ := row_some (by have := M8.out.r.l; rw [hLl, hnn] at this; exact this) hLn
      obtain ⟨gp, rfl⟩ := row_some (by have := M8.out.r.p; rw [hPl, hnn] at this; exact this) hLn
      obtain ⟨vs, hvr, hvf⟩ := M8.out.r.b
      rw [hnn] at hvr
      obtain ⟨gb, rfl⟩ := row_some hvr hLn
      have l0 : w8.cell? ⟨gl, q, none⟩ = some (.int .i64 lf) := int_cellAt (by have := M8.out.r.l; rw [hLl, hnn] at this; exact this) (by omega) hlf2
      have p0 : w8.cell? ⟨gp, q, none⟩ = some (.int .i64 fr.tick) := int_cellAt (by have := M8.out.r.p; rw [hPl, hnn] at this; exact this) (by omega) z2
      have hvl : vs.length = n := by have := hvr.1; omega
      obtain ⟨u, hu⟩ : ∃ u, vs[q]? = some u := ⟨_, List.getElem?_eq_getElem (by omega)⟩
      have b0 : w8.cell? ⟨gb, q, none⟩ = some u := by rw [World.ownsRow.cellAt hvr q (by omega)]; exact hu
      have uf := hvf q (by omega)
      rw [hu, z1] at uf
      simp only [Option.getD_some] at uf
      obtain ⟨ua, uc, rfl, _, _⟩ := uf.shape
      have fzl : w8.frozen? ⟨gl, q, none⟩ = false := World.ownsRow.frozenAt (by have := M8.out.r.l; rw [hLl, hnn] at this; exact this) q
      have GF := hide (hG.isF (A := fun _ => False) (fun _ _ => id))
      have UF := hide uf
      have cw := M8.out.h.c.cw
      have hck := BND.out.1
      have htk : ck - 8 < fr.tick := by have := HY.out; unfold old at this; simp only [decide_eq_false_iff_not] at this; omega
      have XN : Hid (∀ n, Calls Try.prog 14 #[.pointer (some ⟨P.b, 0, none⟩)] (w8.drewN n) fun e w' => e = .returned (.int .i64 ck) ∧ w' = w8.drewN n) := fun n => Now_any (M8.out.later (drewN_belowY w8 n)).h.n
      have hz : ¬ lf = 0 := by omega
      have zm : (m : Int) ≤ 2513169434843 := by have := ZM.out; omega
      have EQH := hide EQ
      have LQ : Hid (lf = LF[q]?.getD 0) := hlf
      have HLL : Hid (LF.length = n) := by rw [hLl]; exact hnn
      obtain ⟨ln, hln⟩ : ∃ ln, ln = fr.bs.length := ⟨_, rfl⟩
      have zl : (3 : Int) ≤ (ln : Int) := by omega
      have c1 := F58.out.c1
      obtain ⟨tick, htick⟩ : ∃ t, t = fr.tick := ⟨_, rfl⟩
      rw [← htick] at p0 htk
      have cvx : ∀ n, (convert 27 9 (.slice (some ⟨gx, 0, none⟩) fr.bs.length xc)).run Try.prog (w8.drewN n) = .ok (.string (strB fr.bs)) (w8.drewN n) := fun n => conv_str (GF.out.later (drewN_belowY w8 n))
      have cvy : ∀ n, (convert 27 9 (.slice ua fr.bs.length uc)).run Try.prog (w8.drewN n) = .ok (.string (strB fr.bs)) (w8.drewN n) := fun n => conv_str (UF.out.later (drewN_belowY w8 n))
      generalize hsx : strB fr.bs = sx at cvx cvy
      rw [← hln] at b0 cvx cvy ⊢
      have KEEP : Hid (∀ W, Below w8.heap.size w8 W → (W.cell? ⟨gl, q, none⟩ = some (.int .i64 lf) ∧ W.cell? ⟨gp, q, none⟩ = some (.int .i64 tick) ∧ W.cell? ⟨gb, q, none⟩ = some (.slice ua ln uc) ∧ W.cell? ⟨gx, 2, none⟩ = some (.int .u8 0) ∧ W.cell? ⟨P.x, 2, none⟩ = some (.pointer (some ⟨P.b, 0, none⟩)) ∧ W.cell? ⟨s, 1, none⟩ = some (.int .i64 0)) ∧ W.frozen? ⟨gl, q, none⟩ = false) := fun W hb =>
        ⟨⟨(hb.cell (p := ⟨gl, q, none⟩) (World.block_lt_of_cell? w8 _ l0)).trans l0, (hb.cell (p := ⟨gp, q, none⟩) (World.block_lt_of_cell? w8 _ p0)).trans p0, (hb.cell (p := ⟨gb, q, none⟩) (World.block_lt_of_cell? w8 _ b0)).trans b0, (hb.cell (p := ⟨gx, 2, none⟩) (World.block_lt_of_cell? w8 _ y2)).trans y2, (hb.cell (p := ⟨P.x, 2, none⟩) (World.block_lt_of_cell? w8 _ cw)).trans cw, (hb.cell (p := ⟨s, 1, none⟩) (World.block_lt_of_cell? w8 _ c1)).trans c1⟩, ((But.of_below (K := fun _ => False) hb).frozen (p := ⟨gl, q, none⟩) (World.block_lt_of_cell? w8 _ l0) id).trans fzl⟩
      have CVX : Hid (∀ W, Below w8.heap.size w8 W → (convert 27 9 (.slice (some ⟨gx, 0, none⟩) ln xc)).run Try.prog W = .ok (.string sx) W ∧ (convert 27 9 (.slice ua ln uc)).run Try.prog W = .ok (.string sx) W) := fun W hb => by rw [hln, ← hsx]; exact ⟨conv_str (GF.out.later hb), conv_str (UF.out.later hb)⟩
      clear cvx cvy
      clear ycell hG hb8 HXR hvr hvf hu uf hlf hlf2 hvl z0 z1 z2 z4 h3 hq hA' hC' hgx hLl hPl hnn htick HY EQ hsx hln
      go_upto_region 17 with fail
      go_quiet (fail)
      rw [EQH.out]
      have b9 := drewN_belowY w8 nq
      have M9 := hide (M8.out.later b9)
      have K9 : Hid (∀ W, Below (w8.drewN nq).heap.size (w8.drewN nq) W → Below w8.heap.size w8 W) := fun W hb => b9.trans (hb.mono b9.size)
      have BQ9 := hide (BQ.out.trans (But.of_below b9))
      obtain ⟨⟨l9, p9, b9', y9, w9', s9⟩, fz9⟩ := KEEP.out _ b9
      have XN9 : Hid (∀ n, Calls Try.prog 14 #[.pointer (some ⟨P.b, 0, none⟩)] ((w8.drewN nq).drewN n) fun e w' => e = .returned (.int .i64 ck) ∧ w' = (w8.drewN nq).drewN n) := fun n => Now_any (M9.out.later (drewN_belowY _ n)).h.n
      have cvx : ∀ n, (convert 27 9 (.slice (some ⟨gx, 0, none⟩) ln xc)).run Try.prog ((w8.drewN nq).drewN n) = .ok (.string sx) ((w8.drewN nq).drewN n) := fun n => (CVX.out _ (K9.out _ (drewN_belowY _ n))).1
      have cvy : ∀ n, (convert 27 9 (.slice ua ln uc)).run Try.prog ((w8.drewN nq).drewN n) = .ok (.string sx) ((w8.drewN nq).drewN n) := fun n => (CVX.out _ (K9.out _ (drewN_belowY _ n))).2
      clear y0 y1 y2 l0 p0 b0 fzl cw c1 b9 XN M8 B8 BQ GF UF
      generalize w8.drewN nq = w9 at *
      have g1 : decide ((n : Int) ≤ (q : Int)) = false := by simp only [decide_eq_false_iff_not]; omega
      have g2 : decide (n ≤ q) = false := by simp only [decide_eq_false_iff_not]; omega
      have g3 : decide (tick ≤ ck - 8) = false := by simp only [decide_eq_false_iff_not]; omega
      have g4 : (lf == 0) = false := by simp; omega
      have g5 : decide (lf = 0) = false := by simp only [decide_eq_false_iff_not]; omega
      go_upto_region 18 with fail
      refine wp_region_quiet_lit (by kernel_rfl) (by kernel_rfl) ?_
      iterate 32 go_big_quiet_step (fail)
      go_big_quiet_want
      go_big_quiet_op
      refine ⟨_, fun n => Calls.quiet_of_same (XN9.out n), ?_⟩
      go_big_quiet_on
      iterate 10 go_big_quiet_step (fail)
      refine wpQuiet_nil ?_
      intro _ hw'
      obtain ⟨nr, hw''⟩ := hw'
      subst hw''
      have b10 := drewN_belowY w9 nr
      have M10 := hide (M9.out.later b10)
      have BQ10 := hide (BQ9.out.trans (But.of_below b10))
      obtain ⟨⟨l10, _⟩, fz10⟩ := KEEP.out _ (K9.out _ b10)
      clear g1 g2 g3 g4 g5 l9 p9 b9' y9 w9' s9 fz9 XN9 cvx cvy b10 M9 BQ9
      generalize w9.drewN nr = w10 at *
      obtain ⟨ρ', m11, _, b11⟩ := M10.out.setL HLL.out q (lf - 1)
      have M11 := hide m11
      have B11 := hide (BR6.out _ (BQ10.out.trans b11))
      clear m11 b11
      go_wp2
      go_ret
      exact ⟨rfl, _, L', _, _, _, M11.out, by rw [HA.out]; exact BT.out, B11.out⟩
  · have e7 : thE (fun i => (ab L i).length) 0 ok = 7 := thE_no (i := 0) (by omega) hk
    obtain ⟨d1, d2, d3⟩ := del_no (l := ab L) (D := upd D 1 D2) (d := 0) (k := ok) (by rw [e7]; omega)
    rw [d1, d2, d3, e7] at XD
    have HX := hide XD
    clear XD d1 d2 d3 e7 hk
    go_upto_region 7 with fail
    go_region_held (fun W => W.cell? ⟨P.x, 2, none⟩ = some (.pointer (some ⟨P.b, 0, none⟩)) ∧ W.cell? ⟨s, 1, none⟩ = some (.int .i64 0) ∧ W.cell? ⟨s, 2, none⟩ = some (.int .i64 ok)) (exact keepS.out _ (by assumption))
      (first
        | (go_at_call 38; refine HX.out.mono ?_; rintro e w6 ⟨rfl, L', hD, hA⟩; obtain ⟨ρ6, m6, e6, b6⟩ := M5.out.drew.did hD (by rw [hA]; exact M5.out.h.i.more); have M6 := hide m6; have HA := hide hA; have E6 := hide e6; have q3 : But (Mid ρ) w5 w6 := q2.trans b6; clear hD hA m6 e6 b6))
    have B6 := hide (B5.out.trans (mid_mine q3))
    have BR6 : Hid (∀ W, But (Mine ρ6) w6 W → But (Mine ρ) w W) := fun W hb => B6.out.trans' hb (fun g hg e => by
      have hq : g < w5.drew.heap.size := Nat.lt_of_lt_of_le hg B5.out.size
      unfold Mine at e ⊢
      rw [← E6.out g hq]; exact e)
    have OK3 := hide (OK2.out.wr 3 (f : Int))
    have DI3 := hide (DI2.out.wr M6.out.h.i.ck0.1 3 (f : Int))
    have hdA := M6.out.h.n.dev 1 (by omega)
    rw [upd_same] at hdA
    have X9 := hide (Write_any hdA OK2.out 3 (f : Int))
    clear q2 q3 keepS HX M5 F55 B5 hdA
    go_wp2_with fail
    refine X9.out.mono ?_
    rintro e w7 ⟨rfl, hd7, hb7⟩
    obtain ⟨m7, b7⟩ := M6.out.dev 1 (by omega) hd7 OK3.out hb7 DI3.out
    rw [upd_upd] at m7
    have M7 := hide m7
    have B7 := hide (BR6.out _ (mid_mine b7))
    have BB : Hid (Brg ck (ab L') (upd D 1 (D2.wrD 3 (f : Int))) F S TT tk BS PT LF (m + 1)) := by
      rw [HA.out]
      have := (HG.out.actsF 1 f (fun _ => KBK.out)).more
      rw [show upd F 1 f = F from by rw [HF.out]; exact upd_self F 1] at this
      exact this
    clear hd7 hb7 m7 b7 X9 OK3 DI3
    go_wp2
    go_ret
    exact ⟨rfl, _, L', _, _, _, M7.out, BB.out, B7.out⟩

set_option maxRecDepth 100000 in
set_option maxHeartbeats 8000000 in
theorem delivered_1 {P : Pl} {ρ : Nat → Nat} {w : World} {ck : Int} {L : Nat → List (Value × Frm)} {D : Nat → Dev} {T F : Nat → Nat} {S : Nat → List (List Int)} {TT : Nat → List Int} {tk : Nat → Nat} {BS : List (List Int)} {PT LF : List Int} {m n : Nat} {pa ba la : Option Addr} {pc bc lc : Nat} (h : Mem P ρ w ck L D T F m (.slice pa n pc) (.slice ba n bc) (.slice la n lc) BS PT LF) (hg : Brg ck (ab L) D F S TT tk BS PT LF m) (hm : m ≤ 2513169434843) (hn : BS.length = n) (hn6 : n ≤ 60000) (ok ot : Int) (va : Option Addr) (vc k : Nat) :
    Calls Try.prog 17 #[.pointer (some ⟨P.x, 0, none⟩), .agg #[.int .i64 7, .int .i64 1, .int .i64 ok, .int .i64 ot, .slice va k vc], .slice pa n pc, .slice ba n bc, .slice la n lc] w (DelEnd P ρ w ck T S TT tk BS PT m (.slice pa n pc) (.slice ba n bc) (.slice la n lc)) := by
  have bx : Below w.heap.size w (w.alloc (.cells #[.int .i64 7, .int .i64 1, .int .i64 ok, .int .i64 ot, .slice va k vc] 29)) := (Below.refl _ _).alloc (Nat.le_refl _) _
  have BX := hide bx
  have H1 := hide (h.later bx)
  have HG := hide hg
  have F5 := Five.new w 7 1 ok ot (.slice va k vc) 29
  have NS : Hid (ρ w.heap.size = 0) := h.fresh0
  have BND := hide (h.h.bounds hm)
  have HN := hide hn
  obtain ⟨s, hs⟩ : ∃ s, s = w.heap.size := ⟨_, rfl⟩
  rw [← hs] at F5 NS
  have ZM : Hid (m ≤ 2513169434843) := hm
  clear h bx hg hm hn
  go_enter Try.func17, Try.ntmps17
  have hs' := hs
  clear hs
  go_upto_region 1 with fail
  rw [← hs']
  clear hs'
  generalize w.alloc (.cells #[.int .i64 7, .int .i64 1, .int .i64 ok, .int .i64 ot, .slice va k vc] 29) = w1 at *
  have F5H := hide F5
  obtain ⟨_, c1, _, _, _⟩ := F5
  have ZN : Hid (n ≤ 60000) := hn6
  clear hn6
  obtain ⟨f, hf⟩ : ∃ f, f = F 0 := ⟨_, rfl⟩
  have hfb : f < 16 := by rw [hf]; exact (H1.out.h.c.tb 0 (by omega)).2
  have HF := hide hf
  clear hf
  go_upto_region 3 with fail
  have cd := H1.out.h.c.cd 0 (by omega)
  go_quiet (fail)
  have bn := drewN_belowY w1 nq
  have H2 := hide (H1.out.later bn)
  have F52 := hide (F5H.out.but (But.of_below (K := fun _ => False) bn) id)
  have BX2 := hide (BX.out.trans (bn.mono BX.out.size))
  clear bn c1 cd H1 F5H BX
  generalize w1.drewN nq = w2 at *
  go_upto_region 4 with fail
  have c1 := F52.out.c1
  have cf : w2.cell? ⟨P.x, 8, none⟩ = some (.int .i64 (f : Int)) := by rw [HF.out]; exact H2.out.h.c.cf 0 (by omega)
  go_quiet (fail)
  have bn := drewN_belowY w2 nq
  have H3 := hide (H2.out.later bn)
  have F53 := hide (F52.out.but (But.of_below (K := fun _ => False) bn) id)
  have BX3 := hide (BX2.out.trans (bn.mono BX2.out.size))
  clear bn c1 cf H2 F52 BX2
  generalize w2.drewN nq = w3 at *
  have ZF : Hid ((f : Int) < 16) := by have := hfb; unfold Hid; omega
  have ET : ((f : Int) + 1) % 16 = (((f + 1) % 16 : Nat) : Int) := by omega
  have HET := hide ET
  have OK1 := hide ((H3.out.h.n.ok 0 (by omega)).sr (f : Int) 274)
  have DI1 := hide ((H3.out.h.i.dv 0 (by omega)).sr (f : Int) 274)
  have OK2 := hide (OK1.out.wr 3 (((f + 1) % 16 : Nat) : Int))
  have DI2 := hide (DI1.out.wr H3.out.h.i.ck0.1 3 (((f + 1) % 16 : Nat) : Int))
  have X5 := hide (SetRx_any (H3.out.h.n.dev 0 (by omega)) (H3.out.h.n.ok 0 (by omega)) (f : Int) 274)
  have CB := hide (HG.out.car 0 (by omega))
  rw [← HF.out] at CB
  have KBK : Hid (Carry ((((D 0).srD (f : Int) 274).wrD 3 (((f + 1) % 16 : Nat) : Int)).wrD 3 (f : Int)) (S 0) (TT 0) (tk 0) f) := CB.out.back
  obtain ⟨D1, hD1⟩ : ∃ D1, D1 = (D 0).srD (f : Int) 274 := ⟨_, rfl⟩
  have HD1 := hide hD1
  rw [← hD1] at OK1 DI1 OK2 DI2 X5 KBK
  obtain ⟨D2, hD2⟩ : ∃ D2, D2 = D1.wrD 3 (((f + 1) % 16 : Nat) : Int) := ⟨_, rfl⟩
  have HD2 := hide hD2
  rw [← hD2] at OK2 DI2 KBK
  clear hD1 hD2 ET
  generalize wE : (D 0).srE (f : Int) 274 = we at *
  clear wE
  go_wp2_with fail
  refine X5.out.mono ?_
  rintro e w4 ⟨rfl, hd4, hb4⟩
  obtain ⟨m4, b4⟩ := H3.out.dev 0 (by omega) hd4 OK1.out hb4 DI1.out
  have M4 := hide m4
  have F54 := hide (F53.out.but b4 (fun e => by unfold Mid at e; rw [NS.out] at e; omega))
  have B4 := hide ((But.of_below BX3.out).trans (mid_mine b4))
  have X6 : Hid (Calls Try.prog 13 #[.pointer (some ⟨P.dv 0, 0, none⟩), .int .i64 3, .int .i64 (((f : Int) + 1) % 16)] w4 fun e w' => e = .returned (.int .i64 (wrE 3 (((f : Int) + 1) % 16))) ∧ DevAt LN (Mine ρ) w' (P.dv 0) D2 ∧ But (Only (P.dv 0)) w4 w') := by
    have hd := m4.h.n.dev 0 (by omega)
    rw [upd_same] at hd
    have := Write_any hd OK1.out 3 (((f : Int) + 1) % 16)
    rw [show D1.wrD 3 (((f : Int) + 1) % 16) = D2 from by rw [HET.out]; exact HD2.out.symm] at this
    exact this
  clear hd4 hb4 m4 b4 X5 H3 F53 BX3
  generalize wrE 3 (((f : Int) + 1) % 16) = we2 at *
  have zf := ZF.out
  go_wp2_with fail
  refine X6.out.mono ?_
  rintro e w5 ⟨rfl, hd5, hb5⟩
  obtain ⟨m5, b5⟩ := M4.out.dev 0 (by omega) hd5 OK2.out hb5 DI2.out
  rw [upd_upd] at m5
  have M5 := hide m5
  have F55 := hide (F54.out.but b5 (fun e => by unfold Mid at e; rw [NS.out] at e; omega))
  have B5 := hide (B4.out.trans (mid_mine b5))
  clear hd5 hb5 m5 b5 X6 M4 F54 B4
  have q2 : But (Mid ρ) w5 w5.drew := (But.refl _ _).drew
  have keepS : Hid (∀ W : World, But (Mid ρ) w5 W → (W.cell? ⟨P.x, 2, none⟩ = some (.pointer (some ⟨P.b, 0, none⟩)) ∧ W.cell? ⟨s, 1, none⟩ = some (.int .i64 1) ∧ W.cell? ⟨s, 2, none⟩ = some (.int .i64 ok))) := fun W hb => by
    have kc := M5.out.h.c.but hb (fun e => by unfold Mid at e; rw [M5.out.h.rx] at e; omega)
    have k5 := F55.out.but hb (fun e => by unfold Mid at e; rw [NS.out] at e; omega)
    exact ⟨kc.cw, k5.c1, k5.c2⟩
  have XD := pDeliver M5.out.drew.h.n 1 ok
  by_cases hk : 0 ≤ ok ∧ ok < ((ab L 1).length : Int)
  · obtain ⟨j, rfl⟩ : ∃ j : Nat, ok = (j : Int) := ⟨ok.toNat, by omega⟩
    have hj : j < (ab L 1).length := by omega
    obtain ⟨fr, hfr⟩ : ∃ fr, (ab L 1)[j]? = some fr := ⟨_, List.getElem?_eq_getElem hj⟩
    have hfl : fr.bs.length ≤ 274 := by
      obtain ⟨p, hp, e⟩ := List.mem_map.1 (List.mem_of_getElem? hfr)
      rw [← e]; exact M5.out.h.n.fl 1 (by omega) p hp
    obtain ⟨x0, x1, x2, x3, x4, x5, x6, x7⟩ := CB.out.comeX fr.bs fr.bad hfl
    rw [← HD1.out, ← HD2.out] at x2 x3 x4 x5 x6 x7
    obtain ⟨d1, d2, d3⟩ := del_yes (l := ab L) (D := upd D 0 D2) (i := 1) (by omega) hfr
    rw [show 1 - 1 = 0 from rfl, upd_same] at d1 d2
    rw [upd_upd] at d2
    rw [x2] at d1
    have XD2 : Calls Try.prog 38 #[.pointer (some ⟨P.b, 0, none⟩), .int .i64 1, .int .i64 (j : Int)] w5.drew fun e w' => e = .returned (.int .i64 0) ∧ ∃ L', Did ρ w5.drew w' P.b P.dv ck L' (upd D 0 (D2.gvD fr.bs fr.bad)) ∧ ab L' = upd (ab L) 1 ((ab L 1).eraseIdx j) := by
      rw [show dlEA (ab L) (upd D 0 D2) 1 (j : Int) = 0 from d1, show dlDA (ab L) (upd D 0 D2) 1 (j : Int) = _ from d2, show drA (ab L) 1 (j : Int) = _ from d3] at XD
      exact XD
    have HX := hide XD2
    have IV : Hid (Inv ck (upd (ab L) 1 ((ab L 1).eraseIdx j)) (upd D 0 (D2.gvD fr.bs fr.bad)) (m + 1)) := by
      have := M5.out.h.i.deliver 1 (j : Int)
      rw [show dlDA (ab L) (upd D 0 D2) 1 (j : Int) = _ from d2, show drA (ab L) 1 (j : Int) = _ from d3] at this
      exact this
    obtain ⟨D3, hD3⟩ : ∃ D3, D3 = D2.gvD fr.bs fr.bad := ⟨_, rfl⟩
    rw [← hD3] at x3 x4 x5 x6 x7 HX IV
    have HFR := hide hfr
    have X3 := hide x3
    have X4 := hide x4
    have X5 := hide x5
    have X6 := hide x6
    clear XD XD2 x0 x1 x2 x3 x4 x5 x6 x7 d1 d2 d3 hD3 hk hfr hfl
    go_upto_region 7 with fail
    go_region_held (fun W => W.cell? ⟨P.x, 2, none⟩ = some (.pointer (some ⟨P.b, 0, none⟩)) ∧ W.cell? ⟨s, 1, none⟩ = some (.int .i64 1) ∧ W.cell? ⟨s, 2, none⟩ = some (.int .i64 (j : Int))) (exact keepS.out _ (by assumption))
      (first
        | (go_at_call 38; refine HX.out.mono ?_; rintro e w6 ⟨rfl, L', hD, hA⟩; obtain ⟨ρ6, m6, e6, b6⟩ := M5.out.drew.did hD (by rw [hA]; exact IV.out); have M6 := hide m6; have HA := hide hA; have E6 := hide e6; have q3 : But (Mid ρ) w5 w6 := q2.trans b6; clear hD hA m6 e6 b6))
    have F56 := hide (F55.out.but q3 (fun e => by unfold Mid at e; rw [NS.out] at e; omega))
    have B6 := hide (B5.out.trans (mid_mine q3))
    have NS6 : Hid (ρ6 s = 0) := by
      have h1 := E6.out s (by have := F55.out.lt; exact this)
      rw [h1]; exact NS.out
    have BR6 : Hid (∀ W, But (Mine ρ6) w6 W → But (Mine ρ) w W) := fun W hb => B6.out.trans' hb (fun g hg e => by
      have hq : g < w5.drew.heap.size := Nat.lt_of_lt_of_le hg B5.out.size
      unfold Mine at e ⊢
      rw [← E6.out g hq]; exact e)
    have c1 := F56.out.c1
    have fx := M6.out.h.c.fz 8
    have cf := M6.out.h.c.cf 0 (by omega)
    have cf : w6.cell? ⟨P.x, 8, none⟩ = some (.int .i64 (F 0 : Int)) := cf
    have hx := M6.out.h.c.lt
    clear q2 q3 keepS HX M5 F55 B5
    have M7 := hide (M6.out.setF 0 (by omega) ((f + 1) % 16) (by omega)).drew
    have B7 := hide ((M6.out.h.setB 8 (.int .i64 (((f + 1) % 16 : Nat) : Int))).drew)
    have F57 : Hid (Five (w6.setCell ⟨P.x, 8, none⟩ (.int .i64 (((f + 1) % 16 : Nat) : Int))).drew s 7 1 (j : Int) ot (.slice va k vc)) := F56.out.but B7.out (fun e => e NS6.out)
    go_upto_region 11 with fail
    go_region
    rw [HET.out]
    clear c1 fx cf hx
    have M7 : Hid (Mem P ρ6 (w6.setCell ⟨P.x, 8, none⟩ (.int .i64 (((f + 1) % 16 : Nat) : Int))).drew ck L' (upd D 0 D3) T (upd F 0 ((f + 1) % 16)) (m + 1) (.slice pa n pc) (.slice ba n bc) (.slice la n lc) BS PT LF) := M7.out
    generalize (w6.setCell ⟨P.x, 8, none⟩ (.int .i64 (((f + 1) % 16 : Nat) : Int))).drew = w7 at *
    have hdA := M7.out.h.n.dev 0 (by omega)
    have okA := M7.out.h.n.ok 0 (by omega)
    rw [upd_same] at hdA okA
    have XR := Rx_any hdA okA (f : Int)
    rw [X3.out, X4.out, X5.out] at XR
    have HXR := hide XR
    have BG := hide (HG.out.actsF 0 ((f + 1) % 16) (fun _ => X6.out))
    clear hdA okA XR
    go_wp2_with fail
    refine HXR.out.mono ?_
    rintro e w8 ⟨xa, xc, rfl, hG, hb8⟩
    have M8 := hide (M7.out.later hb8)
    have B8 := hide (BR6.out _ (B7.out.trans (But.of_below hb8)))
    have BQ := hide (B7.out.trans (But.of_below hb8))
    have F58 := hide (F57.out.but (But.of_below (K := fun _ => False) hb8) id)
    cases hbd : fr.bad with
    | true =>
      clear hG hb8 HXR
      go_wp2
      go_ret
      have BB : Brg ck (ab L') (upd D 0 D3) (upd F 0 ((f + 1) % 16)) S TT tk BS PT LF (m + 1) := by
        rw [HA.out]
        have := BG.out.drop 1 (j : Int)
        rw [show drA (ab L) 1 (j : Int) = _ from (del_yes (D := D) (i := 1) (by omega) HFR.out).2.2] at this
        exact this
      exact ⟨rfl, _, L', _, _, _, M8.out, BB, B8.out⟩
    | false =>
      obtain ⟨z0, z1, z2, z3, r, z4⟩ := HG.out.known (by omega) HFR.out hbd
      have BT := hide (BG.out.took (by omega) HFR.out hbd)
      have HY := hide (HG.out.yng 1 (by omega) fr (List.mem_of_getElem? HFR.out))
      obtain ⟨q, hq⟩ : ∃ q, q = numN fr.bs := ⟨_, rfl⟩
      rw [← hq] at z0 z1 z2 z3 z4 BT
      obtain ⟨lf, hlf⟩ : ∃ lf, lf = LF[q]?.getD 0 := ⟨_, rfl⟩
      rw [← hlf] at z3 BT
      have hLl := HG.out.lenL
      have hPl := HG.out.lenP
      have hnn := HN.out
      have hlf2 : LF[q]? = some lf := by rw [hlf, List.getElem?_eq_getElem (by omega)]; rfl
      have hub : lf ≤ (m : Int) + 1 := by rw [hlf, List.getElem?_eq_getElem (by omega)]; exact HG.out.lfb _ (List.getElem_mem _)
      obtain ⟨A, hA'⟩ : ∃ A, A = q / 256 := ⟨_, rfl⟩
      obtain ⟨C, hC'⟩ : ∃ C, C = q % 256 := ⟨_, rfl⟩
      rw [← hA', ← hC'] at z4
      have EQ : 256 * (A : Int) + (C : Int) = (q : Int) := by omega
      have zA : (A : Int) ≤ 255 := by have := ZN.out; omega
      have zC : (C : Int) ≤ 255 := by omega
      have h3 : 3 ≤ fr.bs.length := by rw [z4]; simp
      have xq : (q : Int) < (n : Int) := by omega
      have xq0 : (0 : Int) ≤ (q : Int) := by omega
      have xn : (n : Int) ≤ 60000 := by have := ZN.out; omega
      obtain ⟨gx, rfl, hgx, ycell, _⟩ := hG.where (by omega)
      have y0 : w8.cell? ⟨gx, 0, none⟩ = some (.int .u8 (A : Int)) := by rw [ycell 0 (by omega), z4]; rfl
      have y1 : w8.cell? ⟨gx, 1, none⟩ = some (.int .u8 (C : Int)) := by rw [ycell 1 (by omega), z4]; rfl
      have y2 : w8.cell? ⟨gx, 2, none⟩ = some (.int .u8 1) := by rw [ycell 2 (by omega), z4]; rfl
      have hLn : 0 < n := by omega
      obtain ⟨gl, rfl⟩ := row_some (by have := M8.out.r.l; rw [hLl, hnn] at this; exact this) hLn
      obtain ⟨gp, rfl⟩ := row_some (by have := M8.out.r.p; rw [hPl, hnn] at this; exact this) hLn
      obtain ⟨vs, hvr, hvf⟩ := M8.out.r.b
      rw [hnn] at hvr
      obtain ⟨gb, rfl⟩ := row_some hvr hLn
      have l0 : w8.cell? ⟨gl, q, none⟩ = some (.int .i64 lf) := int_cellAt (by have := M8.out.r.l; rw [hLl, hnn] at this; exact this) (by omega) hlf2
      have p0 : w8.cell? ⟨gp, q, none⟩ = some (.int .i64 fr.tick) := int_cellAt (by have := M8.out.r.p; rw [hPl, hnn] at this; exact this) (by omega) z2
      have hvl : vs.length = n := by have := hvr.1; omega
      obtain ⟨u, hu⟩ : ∃ u, vs[q]? = some u := ⟨_, List.getElem?_eq_getElem (by omega)⟩
      have b0 : w8.cell? ⟨gb, q, none⟩ = some u := by rw [World.ownsRow.cellAt hvr q (by omega)]; exact hu
      have uf := hvf q (by omega)
      rw [hu, z1] at uf
      simp only [Option.getD_some] at uf
      obtain ⟨ua, uc, rfl, _, _⟩ := uf.shape
      have fzl : w8.frozen? ⟨gl, q, none⟩ = false := World.ownsRow.frozenAt (by have := M8.out.r.l; rw [hLl, hnn] at this; exact this) q
      have GF := hide (hG.isF (A := fun _ => False) (fun _ _ => id))
      have UF := hide uf
      have cw := M8.out.h.c.cw
      have hck := BND.out.1
      have htk : ck - 8 < fr.tick := by have := HY.out; unfold old at this; simp only [decide_eq_false_iff_not] at this; omega
      have XN : Hid (∀ n, Calls Try.prog 14 #[.pointer (some ⟨P.b, 0, none⟩)] (w8.drewN n) fun e w' => e = .returned (.int .i64 ck) ∧ w' = w8.drewN n) := fun n => Now_any (M8.out.later (drewN_belowY w8 n)).h.n
      have hz : ¬ lf = 0 := by omega
      have zm : (m : Int) ≤ 2513169434843 := by have := ZM.out; omega
      have EQH := hide EQ
      have LQ : Hid (lf = LF[q]?.getD 0) := hlf
      have HLL : Hid (LF.length = n) := by rw [hLl]; exact hnn
      obtain ⟨ln, hln⟩ : ∃ ln, ln = fr.bs.length := ⟨_, rfl⟩
      have zl : (3 : Int) ≤ (ln : Int) := by omega
      have c1 := F58.out.c1
      obtain ⟨tick, htick⟩ : ∃ t, t = fr.tick := ⟨_, rfl⟩
      rw [← htick] at p0 htk
      have cvx : ∀ n, (convert 27 9 (.slice (some ⟨gx, 0, none⟩) fr.bs.length xc)).run Try.prog (w8.drewN n) = .ok (.string (strB fr.bs)) (w8.drewN n) := fun n => conv_str (GF.out.later (drewN_belowY w8 n))
      have cvy : ∀ n, (convert 27 9 (.slice ua fr.bs.length uc)).run Try.prog (w8.drewN n) = .ok (.string (strB fr.bs)) (w8.drewN n) := fun n => conv_str (UF.out.later (drewN_belowY w8 n))
      generalize hsx : strB fr.bs = sx at cvx cvy
      rw [← hln] at b0 cvx cvy ⊢
      have KEEP : Hid (∀ W, Below w8.heap.size w8 W → (W.cell? ⟨gl, q, none⟩ = some (.int .i64 lf) ∧ W.cell? ⟨gp, q, none⟩ = some (.int .i64 tick) ∧ W.cell? ⟨gb, q, none⟩ = some (.slice ua ln uc) ∧ W.cell? ⟨gx, 2, none⟩ = some (.int .u8 1) ∧ W.cell? ⟨P.x, 2, none⟩ = some (.pointer (some ⟨P.b, 0, none⟩)) ∧ W.cell? ⟨s, 1, none⟩ = some (.int .i64 1)) ∧ W.frozen? ⟨gl, q, none⟩ = false) := fun W hb =>
        ⟨⟨(hb.cell (p := ⟨gl, q, none⟩) (World.block_lt_of_cell? w8 _ l0)).trans l0, (hb.cell (p := ⟨gp, q, none⟩) (World.block_lt_of_cell? w8 _ p0)).trans p0, (hb.cell (p := ⟨gb, q, none⟩) (World.block_lt_of_cell? w8 _ b0)).trans b0, (hb.cell (p := ⟨gx, 2, none⟩) (World.block_lt_of_cell? w8 _ y2)).trans y2, (hb.cell (p := ⟨P.x, 2, none⟩) (World.block_lt_of_cell? w8 _ cw)).trans cw, (hb.cell (p := ⟨s, 1, none⟩) (World.block_lt_of_cell? w8 _ c1)).trans c1⟩, ((But.of_below (K := fun _ => False) hb).frozen (p := ⟨gl, q, none⟩) (World.block_lt_of_cell? w8 _ l0) id).trans fzl⟩
      have CVX : Hid (∀ W, Below w8.heap.size w8 W → (convert 27 9 (.slice (some ⟨gx, 0, none⟩) ln xc)).run Try.prog W = .ok (.string sx) W ∧ (convert 27 9 (.slice ua ln uc)).run Try.prog W = .ok (.string sx) W) := fun W hb => by rw [hln, ← hsx]; exact ⟨conv_str (GF.out.later hb), conv_str (UF.out.later hb)⟩
      clear cvx cvy
      clear ycell hG hb8 HXR hvr hvf hu uf hlf hlf2 hvl z0 z1 z2 z4 h3 hq hA' hC' hgx hLl hPl hnn htick HY EQ hsx hln
      go_upto_region 17 with fail
      go_quiet (fail)
      rw [EQH.out]
      have b9 := drewN_belowY w8 nq
      have M9 := hide (M8.out.later b9)
      have K9 : Hid (∀ W, Below (w8.drewN nq).heap.size (w8.drewN nq) W → Below w8.heap.size w8 W) := fun W hb => b9.trans (hb.mono b9.size)
      have BQ9 := hide (BQ.out.trans (But.of_below b9))
      obtain ⟨⟨l9, p9, b9', y9, w9', s9⟩, fz9⟩ := KEEP.out _ b9
      have XN9 : Hid (∀ n, Calls Try.prog 14 #[.pointer (some ⟨P.b, 0, none⟩)] ((w8.drewN nq).drewN n) fun e w' => e = .returned (.int .i64 ck) ∧ w' = (w8.drewN nq).drewN n) := fun n => Now_any (M9.out.later (drewN_belowY _ n)).h.n
      have cvx : ∀ n, (convert 27 9 (.slice (some ⟨gx, 0, none⟩) ln xc)).run Try.prog ((w8.drewN nq).drewN n) = .ok (.string sx) ((w8.drewN nq).drewN n) := fun n => (CVX.out _ (K9.out _ (drewN_belowY _ n))).1
      have cvy : ∀ n, (convert 27 9 (.slice ua ln uc)).run Try.prog ((w8.drewN nq).drewN n) = .ok (.string sx) ((w8.drewN nq).drewN n) := fun n => (CVX.out _ (K9.out _ (drewN_belowY _ n))).2
      clear y0 y1 y2 l0 p0 b0 fzl cw c1 b9 XN M8 B8 BQ GF UF
      generalize w8.drewN nq = w9 at *
      have g1 : decide ((n : Int) ≤ (q : Int)) = false := by simp only [decide_eq_false_iff_not]; omega
      have g2 : decide (n ≤ q) = false := by simp only [decide_eq_false_iff_not]; omega
      have g3 : decide (tick ≤ ck - 8) = false := by simp only [decide_eq_false_iff_not]; omega
      have g4 : (lf == 0) = false := by simp; omega
      have g5 : decide (lf = 0) = false := by simp only [decide_eq_false_iff_not]; omega
      go_upto_region 18 with fail
      refine wp_region_quiet_lit (by kernel_rfl) (by kernel_rfl) ?_
      iterate 32 go_big_quiet_step (fail)
      go_big_quiet_want
      go_big_quiet_op
      refine ⟨_, fun n => Calls.quiet_of_same (XN9.out n), ?_⟩
      go_big_quiet_on
      iterate 10 go_big_quiet_step (fail)
      refine wpQuiet_nil ?_
      intro _ hw'
      obtain ⟨nr, hw''⟩ := hw'
      subst hw''
      have b10 := drewN_belowY w9 nr
      have M10 := hide (M9.out.later b10)
      have BQ10 := hide (BQ9.out.trans (But.of_below b10))
      obtain ⟨⟨l10, _⟩, fz10⟩ := KEEP.out _ (K9.out _ b10)
      clear g1 g2 g3 g4 g5 l9 p9 b9' y9 w9' s9 fz9 XN9 cvx cvy b10 M9 BQ9
      generalize w9.drewN nr = w10 at *
      obtain ⟨ρ', m11, _, b11⟩ := M10.out.setL HLL.out q (lf - 1)
      have M11 := hide m11
      have B11 := hide (BR6.out _ (BQ10.out.trans b11))
      clear m11 b11
      go_wp2
      go_ret
      exact ⟨rfl, _, L', _, _, _, M11.out, by rw [HA.out]; exact BT.out, B11.out⟩
  · have e7 : thE (fun i => (ab L i).length) 1 ok = 7 := thE_no (i := 1) (by omega) hk
    obtain ⟨d1, d2, d3⟩ := del_no (l := ab L) (D := upd D 0 D2) (d := 1) (k := ok) (by rw [e7]; omega)
    rw [d1, d2, d3, e7] at XD
    have HX := hide XD
    clear XD d1 d2 d3 e7 hk
    go_upto_region 7 with fail
    go_region_held (fun W => W.cell? ⟨P.x, 2, none⟩ = some (.pointer (some ⟨P.b, 0, none⟩)) ∧ W.cell? ⟨s, 1, none⟩ = some (.int .i64 1) ∧ W.cell? ⟨s, 2, none⟩ = some (.int .i64 ok)) (exact keepS.out _ (by assumption))
      (first
        | (go_at_call 38; refine HX.out.mono ?_; rintro e w6 ⟨rfl, L', hD, hA⟩; obtain ⟨ρ6, m6, e6, b6⟩ := M5.out.drew.did hD (by rw [hA]; exact M5.out.h.i.more); have M6 := hide m6; have HA := hide hA; have E6 := hide e6; have q3 : But (Mid ρ) w5 w6 := q2.trans b6; clear hD hA m6 e6 b6))
    have B6 := hide (B5.out.trans (mid_mine q3))
    have BR6 : Hid (∀ W, But (Mine ρ6) w6 W → But (Mine ρ) w W) := fun W hb => B6.out.trans' hb (fun g hg e => by
      have hq : g < w5.drew.heap.size := Nat.lt_of_lt_of_le hg B5.out.size
      unfold Mine at e ⊢
      rw [← E6.out g hq]; exact e)
    have OK3 := hide (OK2.out.wr 3 (f : Int))
    have DI3 := hide (DI2.out.wr M6.out.h.i.ck0.1 3 (f : Int))
    have hdA := M6.out.h.n.dev 0 (by omega)
    rw [upd_same] at hdA
    have X9 := hide (Write_any hdA OK2.out 3 (f : Int))
    clear q2 q3 keepS HX M5 F55 B5 hdA
    go_wp2_with fail
    refine X9.out.mono ?_
    rintro e w7 ⟨rfl, hd7, hb7⟩
    obtain ⟨m7, b7⟩ := M6.out.dev 0 (by omega) hd7 OK3.out hb7 DI3.out
    rw [upd_upd] at m7
    have M7 := hide m7
    have B7 := hide (BR6.out _ (mid_mine b7))
    have BB : Hid (Brg ck (ab L') (upd D 0 (D2.wrD 3 (f : Int))) F S TT tk BS PT LF (m + 1)) := by
      rw [HA.out]
      have := (HG.out.actsF 0 f (fun _ => KBK.out)).more
      rw [show upd F 0 f = F from by rw [HF.out]; exact upd_self F 0] at this
      exact this
    clear hd7 hb7 m7 b7 X9 OK3 DI3
    go_wp2
    go_ret
    exact ⟨rfl, _, L', _, _, _, M7.out, BB.out, B7.out⟩

theorem delivered_any {P : Pl} {ρ : Nat → Nat} {w : World} {ck : Int} {L : Nat → List (Value × Frm)} {D : Nat → Dev} {T F : Nat → Nat} {S : Nat → List (List Int)} {TT : Nat → List Int} {tk : Nat → Nat} {BS : List (List Int)} {PT LF : List Int} {m n : Nat} {pa ba la : Option Addr} {pc bc lc : Nat} (h : Mem P ρ w ck L D T F m (.slice pa n pc) (.slice ba n bc) (.slice la n lc) BS PT LF) (hg : Brg ck (ab L) D F S TT tk BS PT LF m) (hm : m ≤ 2513169434843) (hn : BS.length = n) (hn6 : n ≤ 60000) (od ok ot : Int) (va : Option Addr) (vc k : Nat) :
    Calls Try.prog 17 #[.pointer (some ⟨P.x, 0, none⟩), .agg #[.int .i64 7, .int .i64 od, .int .i64 ok, .int .i64 ot, .slice va k vc], .slice pa n pc, .slice ba n bc, .slice la n lc] w (DelEnd P ρ w ck T S TT tk BS PT m (.slice pa n pc) (.slice ba n bc) (.slice la n lc)) := by
  cases hd : isDir od with
  | false => exact delivered_x h hg hm hn hn6 od hd ok ot va vc k
  | true =>
    obtain ⟨i, rfl, hi⟩ := isDir_nat hd
    have : i = 0 ∨ i = 1 := by omega
    rcases this with rfl | rfl
    · exact delivered_0 h hg hm hn hn6 ok ot va vc k
    · exact delivered_1 h hg hm hn hn6 ok ot va vc k
end Go.Proofs.Ytghojbgjmpjhgaa
