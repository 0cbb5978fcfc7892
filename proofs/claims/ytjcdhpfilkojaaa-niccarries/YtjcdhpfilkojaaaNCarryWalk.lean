/-
  NicCarries: its walk.
-/
import Derived.Test.YtjcdhpfilkojaaaNCarrySt
namespace Go.Proofs.Ytjcdhpfilkojaaa
open Go.RowKit

set_option maxRecDepth 100000 in
set_option maxHeartbeats 4000000 in
theorem Carries_walk (v : Value) (l : List OpV) (W : World) (hI : IsO W.heap.size W v l) (hl : l.length ≤ 2513169434843) :
    Calls Try.prog 4 #[v] W fun e W' => e = .returned (.bool true) ∧ Below W.heap.size W W' := by
  have HI := hide hI
  obtain ⟨a, cap, rfl, _, _⟩ := hI
  go_enter Try.func4, Try.ntmps4
  go_wp2_with fail
  refine (awake_any W).mono ?_
  rintro e w1 ⟨rfl, hb1⟩
  go_wp2_with fail
  refine (New_any w1).mono ?_
  rintro e w2 ⟨rfl, hN, hb2, hs2⟩
  obtain ⟨g, hg⟩ : ∃ g, g = w1.heap.size := ⟨_, rfl⟩
  have d2 := hN (Rw g none none none) (.inl hg.symm)
  have hgW : W.heap.size ≤ g := by rw [hg]; exact hb1.size
  have b2 := hb1.trans (hb2.mono hb1.size)
  rw [← hg] at d2 ⊢
  have D2 := hide d2
  have B2 := hide b2
  have HGW := hide hgW
  clear hN hb2 hs2 hg d2 b2 hb1 hgW
  go_wp2_with fail
  refine (Write_any D2.out Dev.Ok.new 0 1).mono ?_
  rintro e w3 ⟨rfl, d3, b3⟩
  have ST : Hid (St W.heap.size W g (Dev.new.wrD 0 1) [] [] none 0 none 0 none 0 0 w3) :=
    ⟨d3, ⟨[], World.ownsRow_nil _ _ _ _, fun j hj => by simp at hj⟩, World.ownsRow_nil _ _ _ _, ⟨[], World.ownsRow_nil _ _ _ _⟩, (fun k e => by cases e), (fun k e => by cases e), (fun k e => by cases e), B2.out.trans (b3.below B2.out.size (fun x hx e => by have := HGW.out; have : x = g := e; omega)), HGW.out⟩
  clear d3 b3 D2 B2
  go_wp2
  go_loopw [5, 6, 7, 8, 9, 10, 11, 12] (fun v5 v6 v7 v8 v9 v10 v11 v12 wr => ∃ (i taken free m ck : Nat) (D : Dev) (S : List (List Int)) (T : List Int) (p : Option Addr) (cp : Nat) (q : Option Addr) (cq : Nat) (r : Option Addr) (cr : Nat),
      v5 = .slice p S.length cp ∧ v6 = .slice q T.length cq ∧ v7 = .int .i64 (taken : Int) ∧ v8 = .int .i64 ((S.length % 16 : Nat) : Int) ∧ v9 = .int .i64 (free : Int) ∧ v10 = .int .i64 (ck : Int) ∧ v11 = .slice r m cr ∧ v12 = .int .i64 (i : Int) ∧ i ≤ l.length ∧
      Hid (S.length ≤ i ∧ m ≤ i ∧ ck ≤ i) ∧ Hid (Carry D S T taken free) ∧ Hid (D.clock = (ck : Int)) ∧ Hid (St W.heap.size W g D S T p cp q cq r cr m wr)) (fun _ _ _ _ _ _ _ v12 _ => l.length - (intOf v12).toNat)
  case atStart => exact ⟨0, 0, 0, 0, 0, _, [], [], none, 0, none, 0, none, 0, rfl, rfl, rfl, rfl, rfl, rfl, rfl, rfl, Nat.zero_le _, ⟨by simp, by simp, by simp⟩, Carry.new, (by show _ = _; rfl), ST.out⟩
  case round =>
    obtain ⟨i, taken, free, m, ck, D, S, T, p, cp, q, cq, r, cr, rfl, rfl, rfl, rfl, rfl, rfl, rfl, rfl, hi, hle, hC, hck, hS⟩ := hrel
    by_cases hlt : i < l.length
    · obtain ⟨a', cap', e', hc, hf⟩ := HI.out.below hS.out.bel
      simp only [Value.slice.injEq] at e'
      obtain ⟨rfl, _, rfl⟩ := e'
      obtain ⟨gl, off, rfl, hgl, hcs⟩ := hc (by omega)
      obtain ⟨o, ho⟩ : ∃ o, l[i]? = some o := ⟨l[i], List.getElem?_eq_getElem hlt⟩
      obtain ⟨q0, _, _, q3, _⟩ := hcs i o ho
      obtain ⟨hbv, _⟩ := hf o (List.mem_of_getElem? ho)
      clear hcs hf hc ho hgl
      obtain ⟨kd, on, ov, obv, bs, oy⟩ := o
      simp only at q0 q3 hbv
      obtain ⟨va, vc, rfl, _, _⟩ := hbv.shape
      have HV := hide hbv
      clear hbv
      obtain ⟨n, hn⟩ : ∃ n, n = bs.length := ⟨_, rfl⟩
      obtain ⟨k4, hk4⟩ : ∃ k4, k4 = Int.tmod kd 4 := ⟨_, rfl⟩
      by_cases hb1 : n < 1
      · have x1 : (n : Int) < 1 := by omega
        rw [← hn] at q3
        clear hn
        go_wp2
        go_roundw
        case rel => exact ⟨i + 1, taken, free, m, ck, D, S, T, p, cp, q, cq, r, cr, rfl, rfl, rfl, by go_num, rfl, rfl, rfl, by go_num, by omega, ⟨by have := hle.out.1; omega, by have := hle.out.2.1; omega, by have := hle.out.2.2; omega⟩, hC.out, hck.out, hS.out⟩
        case measure => simp [intOf]; omega
      · by_cases hb2 : 274 < n
        · have x1 : ¬ (n : Int) < 1 := by omega
          have x2 : (274 : Int) < n := by omega
          rw [← hn] at q3
          clear hn
          go_wp2
          go_roundw
          case rel => exact ⟨i + 1, taken, free, m, ck, D, S, T, p, cp, q, cq, r, cr, rfl, rfl, rfl, by go_num, rfl, rfl, rfl, by go_num, by omega, ⟨by have := hle.out.1; omega, by have := hle.out.2.1; omega, by have := hle.out.2.2; omega⟩, hC.out, hck.out, hS.out⟩
          case measure => simp [intOf]; omega
        · have x1 : ¬ (n : Int) < 1 := by omega
          have x2 : ¬ (274 : Int) < n := by omega
          rw [hn] at x1 x2 hb1 hb2
          have C1 : Hid (1 ≤ bs.length ∧ bs.length ≤ 274) := ⟨by omega, by omega⟩
          have htl : ((S.length % 16 : Nat) : Int) = (S.length : Int) % 16 := by omega
          have htl2 : (((S.length + 1) % 16 : Nat) : Int) = ((S.length : Int) + 1) % 16 := by omega
          have hfl2 : (((free + 1) % 16 : Nat) : Int) = ((free : Int) + 1) % 16 := by omega
          have HTL := hide htl
          have HTL2 := hide htl2
          have HFL2 := hide hfl2
          have HLB : Hid (S.length ≤ 2513169434843 ∧ m ≤ 2513169434843) := ⟨by have := hle.out.1; omega, by have := hle.out.2.1; omega⟩
          have hlt' := hS.out.dev.lt
          have hb5 : (S.length : Int) ≤ 2513169434843 := by have := HLB.out.1; omega
          have hb6 : (taken : Int) ≤ S.length := by have := hC.out.tk.1; omega
          have hb7 : free < 16 := hC.out.rx.2.2
          clear htl htl2 hfl2 hn hb1 hb2
          go_upto_region 27 with fail
          rw [← hk4]
          clear hk4 q0 q3 x1 x2
          by_cases z0 : k4 = 0
          · have y0 : (k4 == 0) = true := beq_yes z0
            clear z0
            by_cases hfull : S.length = taken + 15
            · have yf : (((S.length : Int) - (taken : Int)) == 15) = true := beq_yes (by omega)
              clear hfull
              go_wp2
              go_roundw
              case rel => exact ⟨i + 1, taken, free, m, ck, D, S, T, p, cp, q, cq, r, cr, rfl, rfl, rfl, by go_num, rfl, rfl, rfl, by go_num, by omega, ⟨by have := hle.out.1; omega, by have := hle.out.2.1; omega, by have := hle.out.2.2; omega⟩, hC.out, hck.out, hS.out⟩
              case measure => simp [intOf]; omega
            · have yf : (((S.length : Int) - (taken : Int)) == 15) = false := beq_no (by omega)
              obtain ⟨s0, s1, hC2, hck2⟩ := hC.out.send hfull bs C1.out.1 C1.out.2
              have X1 := SetTx_any hS.out.dev hC.out.ok hS.out.lt ((S.length % 16 : Nat) : Int) _ bs HV.out (by have := C1.out.2; omega)
              rw [s0, HTL.out] at X1
              rw [HTL.out, HTL2.out] at hC2 hck2
              rw [HTL2.out] at s1
              have HX1 := hide X1
              have HC2 := hide hC2
              have HCK2 := hide hck2
              have S1 := hide s1
              clear X1 hC2 hck2 s0 s1 hfull
              go_wp2_with fail
              refine (HX1.out).mono ?_
              rintro e w4 ⟨rfl, d4, b4⟩
              have S4 := hide (hS.out.acts d4 b4)
              have V4 := hide (HV.out.but b4 (fun x e => by have : x = g := e; have := HGW.out; simp; omega))
              clear d4 b4 HX1
              have X2 := Write_any S4.out.dev (hC.out.ok.st _ _) 5 (((S.length : Int) + 1) % 16)
              rw [S1.out] at X2
              have HX2 := hide X2
              clear X2
              go_wp2_with fail
              refine (HX2.out).mono ?_
              rintro e w5 ⟨rfl, d5, b5⟩
              have S5 := hide ((S4.out.acts d5 b5).al (.cells #[.slice va bs.length vc] 29))
              have V5 := hide ((V4.out.but b5 (fun x e => by have : x = g := e; have := HGW.out; simp; omega)).later ((Below.refl _ _).alloc (Nat.le_refl _) (.cells #[.slice va bs.length vc] 29)))
              have cb : (w5.alloc (.cells #[.slice va bs.length vc] 29)).cell? ⟨w5.heap.size, 0, none⟩ = some (.slice va bs.length vc) := by rw [cell_of_row _ w5.heap.size 0 _ 29 (0, 0) (heap_alloc_new w5 _)]; rfl
              have CB := hide cb
              obtain ⟨vs, hrow, hfs⟩ := S5.out.sent
              have HROW := hide hrow
              have HFS := hide hfs
              have hsz5 := S5.out.dev.lt
              clear d5 b5 HX2 S4 V4 hrow hfs cb
              go_wp2_with (at_builtin; refine wpList_one rfl _ _ 48 29 rfl rfl (.slice none 0 0) 24 Try.underlying48 info_sl rfl (g + 1) p S.length cp vs w5.heap.size (.slice va bs.length vc) rfl rfl HROW.out CB.out rfl (by omega) (by have := HLB.out.1; unfold maxLen; omega) (by have := HLB.out.1; omega) ?_)
              intro p' cp' w6 ho6 hb6 hf6
              have S6 := hide ((S5.out.push_sent HFS.out (by simpa using HROW.out.1) V5.out ho6 hb6 (by simpa using hf6)).al (.cells #[.int .i64 (ck : Int)] 3))
              have ct : (w6.alloc (.cells #[.int .i64 (ck : Int)] 3)).cell? ⟨w6.heap.size, 0, none⟩ = some (.int .i64 (ck : Int)) := by rw [cell_of_row _ w6.heap.size 0 _ 3 (0, 0) (heap_alloc_new w6 _)]; rfl
              have CT := hide ct
              have hsz6 := S6.out.dev.lt
              have HTLEN := hide hC.out.len
              clear ho6 hb6 hf6 S5 V5 CB HROW HFS ct hsz5
              go_wp2_with (at_builtin; refine wpList_one rfl _ _ 49 3 rfl rfl (.int .i64 0) 8 Try.underlying49 info_int rfl (g + 1) q T.length cq (T.map (Value.int .i64)) w6.heap.size (.int .i64 (ck : Int)) rfl rfl S6.out.ticks CT.out rfl (by omega) (by have := HLB.out.1; have := HTLEN.out; unfold maxLen; omega) (by have := HLB.out.1; have := HTLEN.out; omega) ?_)
              intro q' cq' w7 ho7 hb7 hf7
              have S7 := hide (S6.out.push_tick ho7 hb7 (by simpa using hf7))
              clear ho7 hb7 hf7 S6 CT hsz6
              go_wp2
              go_roundw
              case rel => exact ⟨i + 1, taken, free, m, ck, _, S ++ [bs], T ++ [D.clock], p', cp', q', cq', r, cr, by simp, by simp, rfl, val_int (by simp), rfl, rfl, rfl, by go_num, by omega, ⟨by have := hle.out.1; simp; omega, by have := hle.out.2.1; omega, by have := hle.out.2.2; omega⟩, HC2.out, HCK2.out.trans hck.out, by rw [hck.out]; exact S7.out⟩
              case measure => simp [intOf]; omega
          · have y0 : (k4 == 0) = false := beq_no z0
            by_cases z2 : k4 = 2
            · have y1 : (k4 == 1) = false := beq_no (by omega)
              have y2 : (k4 == 2) = true := beq_yes z2
              clear z0 z2
              have hckb : (ck : Int) + 1 ≤ 2513169434844 := by have := hle.out.2.2; omega
              go_wp2_with fail
              refine (Tick_any hS.out.dev).mono ?_
              rintro e w4 ⟨rfl, d4, b4⟩
              have S4 := hide (hS.out.acts d4 b4)
              have K4 : Hid (D.tick.clock = ((ck + 1 : Nat) : Int)) := by
                show wrap64 (D.clock + 1) = _
                rw [hck.out]; unfold wrap64; omega
              clear d4 b4
              go_wp2
              go_roundw
              case rel => exact ⟨i + 1, taken, free, m, ck + 1, D.tick, S, T, p, cp, q, cq, r, cr, rfl, rfl, rfl, by go_num, rfl, by go_num, rfl, by go_num, by omega, ⟨by have := hle.out.1; omega, by have := hle.out.2.1; omega, by have := hle.out.2.2; omega⟩, hC.out.tick, K4.out, S4.out⟩
              case measure => simp [intOf]; omega
            · have y2 : (k4 == 2) = false := beq_no z2
              by_cases z1 : k4 = 1
              · have y1 : (k4 == 1) = true := beq_yes z1
                clear z0 z1 z2
                by_cases ht : taken < S.length
                · obtain ⟨t0, tF, tT, hC2, hck2⟩ := hC.out.take ht
                  have X1 := Take_any hS.out.dev hC.out.ok
                  rw [t0, tF, tT] at X1
                  have HX1 := hide X1
                  have HC2 := hide hC2
                  have HCK2 := hide (hck2.trans hck.out)
                  have htl := hide hC.out.len
                  have ht1 : (taken : Int) < S.length := by omega
                  clear X1 hC2 hck2 t0 tF tT
                  obtain ⟨F, hF⟩ : ∃ F, F = S[taken]?.getD [] := ⟨_, rfl⟩
                  obtain ⟨tt, htt⟩ : ∃ tt, tt = T[taken]?.getD 0 := ⟨_, rfl⟩
                  rw [← hF, ← htt] at HX1
                  go_wp2_with fail
                  refine (HX1.out).mono ?_
                  rintro e w4 ⟨xa, xc, rfl, gx, d4, b4⟩
                  have S4 := (hS.out.acts d4 b4).al (.cells #[.slice xa F.length xc, .bool false, .int .i64 tt] 52)
                  have key : ∀ i x, (#[Value.slice xa F.length xc, .bool false, .int .i64 tt] : Array Value)[i]? = some x → (w4.alloc (.cells #[.slice xa F.length xc, .bool false, .int .i64 tt] 52)).cell? ⟨w4.heap.size, i, none⟩ = some x := fun i x hx => by
                    rw [cell_of_row _ w4.heap.size i _ 52 (0, 0) (heap_alloc_new w4 _)]; exact hx
                  have xc0 := key 0 _ rfl
                  have xc2 := key 2 _ rfl
                  obtain ⟨vs, hrow, hfs⟩ := S4.sent
                  have hq := S4.ticks
                  have hTl : T.length = S.length := htl.out
                  obtain ⟨sa, sc, hvs, _, _⟩ := (hfs taken ht).shape
                  rw [← hF] at hvs
                  have hfs' := hfs taken ht
                  rw [hvs, ← hF] at hfs'
                  obtain ⟨gp, rfl⟩ : ∃ gp, p = some ⟨gp, 0, none⟩ := by
                    obtain ⟨_, ⟨_, h0⟩ | ⟨g', _, _, e1, _⟩⟩ := hrow
                    · omega
                    · simp only [Value.slice.injEq] at e1; exact ⟨g', e1.1⟩
                  obtain ⟨gq, rfl⟩ : ∃ gq, q = some ⟨gq, 0, none⟩ := by
                    obtain ⟨_, ⟨_, h0⟩ | ⟨g', _, _, e1, _⟩⟩ := hq
                    · omega
                    · simp only [Value.slice.injEq] at e1; exact ⟨g', e1.1⟩
                  have cs := World.ownsRow.cellAt hrow taken (by have := hrow.1; omega)
                  have ct := World.ownsRow.cellAt hq taken (by simp; omega)
                  have hvl : taken < vs.length := by have := hrow.1; omega
                  rw [show vs[taken]? = some (.slice sa F.length sc) from by rw [List.getElem?_eq_getElem hvl]; rw [List.getElem?_eq_getElem hvl] at hvs; simpa using hvs] at cs
                  rw [show (T.map (Value.int .i64))[taken]? = some (.int .i64 tt) from by rw [htt]; simp [show taken < T.length by omega]] at ct
                  have cvx : ∀ n, (convert 29 9 (.slice xa F.length xc)).run Try.prog ((w4.alloc (.cells #[.slice xa F.length xc, .bool false, .int .i64 tt] 52)).drewN n) = .ok (.string (strB F)) ((w4.alloc (.cells #[.slice xa F.length xc, .bool false, .int .i64 tt] 52)).drewN n) := fun n => conv_str (A := fun _ => False) (((gx.isF (fun _ _ => id)).but (K := fun _ => False) ((But.refl _ w4).alloc _) (fun _ e => e.elim)).but (K := fun _ => False) ((But.refl _ _).drewN n) (fun _ e => e.elim))
                  have cvy : ∀ n, (convert 29 9 (.slice sa F.length sc)).run Try.prog ((w4.alloc (.cells #[.slice xa F.length xc, .bool false, .int .i64 tt] 52)).drewN n) = .ok (.string (strB F)) ((w4.alloc (.cells #[.slice xa F.length xc, .bool false, .int .i64 tt] 52)).drewN n) := fun n => conv_str (hfs'.but (K := fun _ => False) ((But.refl _ _).drewN n) (fun _ e => e.elim))
                  generalize strB F = sF at cvx cvy
                  have S4' := hide S4
                  have ht2 : (taken : Int) < T.length := by omega
                  have hTl2 := hide hTl
                  clear hF htt gx d4 b4 HX1 hrow hfs hq hvs hfs' hvl key S4 hTl
                  go_upto_region 41 with fail
                  go_quiet (fail)
                  clear cvx cvy cs ct xc0 xc2
                  go_wp2
                  go_roundw
                  case rel => exact ⟨i + 1, taken + 1, free, m, ck, _, S, T, some ⟨gp, 0, none⟩, cp, some ⟨gq, 0, none⟩, cq, r, cr, rfl, rfl, by go_num, by go_num, rfl, rfl, rfl, by go_num, by omega, ⟨by have := hle.out.1; omega, by have := hle.out.2.1; omega, by have := hle.out.2.2; omega⟩, HC2.out, HCK2.out, S4'.out.more ⟨rfl, rfl, rfl, Nat.le_refl _, fun _ _ => rfl⟩⟩
                  case measure => simp [intOf]; omega
                · obtain ⟨t0, tF, tT, tD⟩ := hC.out.none ht
                  have X1 := Take_any hS.out.dev hC.out.ok
                  rw [t0, tF, tT, tD] at X1
                  have HX1 := hide X1
                  have ht1 : ¬ (taken : Int) < S.length := by omega
                  clear X1 t0 tF tT tD
                  go_wp2_with fail
                  refine (HX1.out).mono ?_
                  rintro e w4 ⟨xa, xc, rfl, _, d4, b4⟩
                  have S4 := hide ((hS.out.acts d4 b4).al (.cells #[.slice xa 0 xc, .bool false, .int .i64 0] 52))
                  clear d4 b4 HX1
                  go_wp2
                  go_roundw
                  case rel => exact ⟨i + 1, taken, free, m, ck, D, S, T, p, cp, q, cq, r, cr, rfl, rfl, rfl, by go_num, rfl, rfl, rfl, by go_num, by omega, ⟨by have := hle.out.1; omega, by have := hle.out.2.1; omega, by have := hle.out.2.2; omega⟩, hC.out, hck.out, S4.out⟩
                  case measure => simp [intOf]; omega
              · have y1 : (k4 == 1) = false := beq_no z1
                clear z0 z1 z2
                obtain ⟨e0, e1, e2, e3, e4, hC2, hck2⟩ := hC.out.come bs C1.out.2
                rw [HFL2.out] at e1 e2 e3 e4 hC2 hck2
                have X1 := SetRx_any hS.out.dev hC.out.ok (free : Int) 274
                rw [e0] at X1
                have HX1 := hide X1
                have E1 := hide e1
                have E2 := hide e2
                have E3 := hide e3
                have E4 := hide e4
                have HC2 := hide hC2
                have HCK2 := hide (hck2.trans hck.out)
                clear X1 e0 e1 e2 e3 e4 hC2 hck2
                go_wp2_with fail
                refine (HX1.out).mono ?_
                rintro e w4 ⟨rfl, d4, b4⟩
                have S4 := hide (hS.out.acts d4 b4)
                have V4 := hide (HV.out.but b4 (fun x e => by have : x = g := e; have := HGW.out; simp; omega))
                clear d4 b4 HX1
                have X2 := Write_any S4.out.dev (hC.out.ok.sr _ _) 3 (((free : Int) + 1) % 16)
                rw [E1.out] at X2
                have HX2 := hide X2
                clear X2
                go_wp2_with fail
                refine (HX2.out).mono ?_
                rintro e w5 ⟨rfl, d5, b5⟩
                have S5 := hide (S4.out.acts d5 b5)
                have V5 := hide (V4.out.but b5 (fun x e => by have : x = g := e; have := HGW.out; simp; omega))
                clear d5 b5 HX2 S4 V4
                have X3 := Give_any S5.out.dev ((hC.out.ok.sr _ _).wr _ _) S5.out.lt _ bs false V5.out (by have := C1.out.2; omega)
                rw [E2.out] at X3
                have HX3 := hide X3
                clear X3
                go_wp2_with fail
                refine (HX3.out).mono ?_
                rintro e w6 ⟨rfl, d6, b6⟩
                have S6 := hide (S5.out.acts d6 b6)
                have V6 := hide (V5.out.but b6 (fun x e => by have : x = g := e; have := HGW.out; simp; omega))
                clear d6 b6 HX3 S5 V5
                have X4 := Rx_any S6.out.dev (((hC.out.ok.sr _ _).wr _ _).gv _ _) (free : Int)
                rw [E3.out, E4.out] at X4
                have HX4 := hide X4
                clear X4
                go_wp2_with fail
                refine (HX4.out).mono ?_
                rintro e w7 ⟨xa, xc, rfl, gx, b7⟩
                have S7 := hide ((S6.out.more b7).al (.cells #[.slice va bs.length vc] 29))
                have cx := conv_str (gx.isF (A := fun _ => False) (fun _ _ => id))
                have cy := conv_str (V6.out.later b7)
                generalize strB bs = sb at cx cy
                have cb : (w7.alloc (.cells #[.slice va bs.length vc] 29)).cell? ⟨w7.heap.size, 0, none⟩ = some (.slice va bs.length vc) := by rw [cell_of_row _ w7.heap.size 0 _ 29 (0, 0) (heap_alloc_new w7 _)]; rfl
                have CB := hide cb
                obtain ⟨zs, hrow⟩ := S7.out.come
                have HROW := hide hrow
                have hsz7 := S7.out.dev.lt
                clear gx b7 HX4 S6 V6 hrow cb E1 E2 E3 E4
                go_wp2_with (at_builtin; refine wpList_one rfl _ _ 48 29 rfl rfl (.slice none 0 0) 24 Try.underlying48 info_sl rfl (g + 1) r m cr zs w7.heap.size (.slice va bs.length vc) rfl rfl HROW.out CB.out rfl (by omega) (by have := HLB.out.2; unfold maxLen; omega) (by have := HLB.out.2; omega) ?_)
                intro r' cr' w8 ho8 hb8 hf8
                have S8 := hide (S7.out.push_come ho8 hb8 (by simpa using hf8))
                clear ho8 hb8 hf8 S7 CB HROW cx cy hsz7
                go_wp2
                go_roundw
                case rel => exact ⟨i + 1, taken, (free + 1) % 16, m + 1, ck, _, S, T, p, cp, q, cq, r', cr', rfl, rfl, rfl, by go_num, val_int (by omega), rfl, rfl, by go_num, by omega, ⟨by have := hle.out.1; omega, by have := hle.out.2.1; omega, by have := hle.out.2.2; omega⟩, HC2.out, HCK2.out, S8.out⟩
                case measure => simp [intOf]; omega
    · obtain rfl : i = l.length := by omega
      have B := hide hS.out.bel
      have hm : (m : Int) ≤ l.length := by have := hle.out.2.1; omega
      clear hS hC hck
      go_wp2
      go_ret
      exact ⟨rfl, B.out⟩

end Go.Proofs.Ytjcdhpfilkojaaa
