
/-
  PoolLeast: its walk.
-/
import Derived.Test.YtkadapjcnonbiaaPLaw
namespace Go.Proofs.Ytkadapjcnonbiaa
open Go.RowKit

theorem usd_no {n : Nat} {B : Nat → Buf} {id : Int} (h : usd n B id = false) : id < 0 ∨ (0 ≤ id ∧ (n : Int) ≤ id) ∨ ∃ j : Nat, id = j ∧ j < n ∧ (B j).refs = 0 := by
  unfold usd at h
  by_cases h0 : id < 0
  · exact .inl h0
  · by_cases h1 : (n : Int) ≤ id
    · exact .inr (.inl ⟨by omega, h1⟩)
    · refine .inr (.inr ⟨id.toNat, by omega, by omega, ?_⟩)
      have := of_decide_eq_false h
      have h2 : ¬ 0 < (B id.toNat).refs := fun h => this ⟨by omega, by omega, h⟩
      omega

theorem made_nums {base g n : Nat} {w : World} (h : w.ownsRow base 3 1 (.slice (some ⟨g, 0, none⟩) n n) n (madeCells #[Value.int .i64 0] n).toList) (hlt : g < w.heap.size) : Nums w g n (fun _ => 0) := by
  refine ⟨fun k hk => ?_, fun k => World.ownsRow.frozenAt h k, hlt⟩
  rw [World.ownsRow.cellAt h k (by omega)]
  rw [toList_madeCells_one, List.getElem?_replicate, if_pos hk]

set_option maxRecDepth 100000 in
theorem least_small (many : Int) (v : Value) (W : World) (hm : many < 1 ∨ 4096 < many) :
    Calls Try.prog 5 #[.int .i64 many, v] W fun e W' => e = .returned (.bool true) ∧ Below W.heap.size W W' := by
  by_cases h1 : many < 1
  · have hN := hide (fun w => New_no w many hm)
    clear hm
    go_enter Try.func5, Try.ntmps5
    go_wp2_with fail
    refine (awake_any W).mono ?_
    rintro e w1 ⟨rfl, hb1⟩
    go_wp2_with fail
    refine (hN.out w1).mono ?_
    rintro e w2 ⟨rfl, rfl⟩
    go_wp2
    go_ret
    exact ⟨rfl, hb1⟩
  · have hN := hide (fun w => New_no w many hm)
    have h2 : 4096 < many := by omega
    clear hm
    go_enter Try.func5, Try.ntmps5
    go_wp2_with fail
    refine (awake_any W).mono ?_
    rintro e w1 ⟨rfl, hb1⟩
    go_wp2_with fail
    refine (hN.out w1).mono ?_
    rintro e w2 ⟨rfl, rfl⟩
    go_wp2
    go_ret
    exact ⟨rfl, hb1⟩

set_option maxRecDepth 100000 in
theorem least_great (n : Nat) (v : Value) (W : World) (h0 : 60 < n) (h1 : n ≤ 4096) :
    Calls Try.prog 5 #[.int .i64 (n : Int), v] W fun e W' => e = .returned (.bool true) ∧ Below W.heap.size W W' := by
  have q : (60 : Int) < n := by omega
  go_enter Try.func5, Try.ntmps5
  go_wp2_with fail
  refine (awake_any W).mono ?_
  rintro e w1 ⟨rfl, hb1⟩
  go_wp2_with fail
  refine (New_yes w1 n (by omega) h1).mono ?_
  rintro e w2 ⟨b, rfl, _, hb2, _⟩
  have B2 := hide (hb1.trans (hb2.mono hb1.size))
  clear hb1 hb2
  go_wp2
  go_ret
  exact ⟨rfl, B2.out⟩

set_option maxRecDepth 100000 in
set_option maxHeartbeats 4000000 in
theorem least_loop (n : Nat) (v : Value) (l : List OpV) (W : World) (h0 : 0 < n) (h1 : n ≤ 60) (hI : IsO W.heap.size W v l) (hl : l.length ≤ 2513169434843) :
    Calls Try.prog 5 #[.int .i64 (n : Int), v] W fun e W' => e = .returned (.bool true) ∧ Below W.heap.size W W' := by
  have HI := hide hI
  obtain ⟨a, cap, rfl, _, _⟩ := hI
  obtain ⟨i0, hi, hz0, hz1, hz2⟩ := info_parts info_i64
  have q1 : (1 : Int) ≤ n := by omega
  have q2 : (n : Int) ≤ 60 := by omega
  go_enter Try.func5, Try.ntmps5
  go_wp2_with fail
  refine (awake_any W).mono ?_
  rintro e w1 ⟨rfl, hb1⟩
  go_wp2_with fail
  refine (New_yes w1 n (by omega) (by omega)).mono ?_
  rintro e w2 ⟨b, rfl, p2, hb2, hgb⟩
  obtain ⟨g, hg⟩ : ∃ g, g = w1.heap.size := ⟨_, rfl⟩
  rw [← hg] at p2 hgb
  have HW : Hid (W.heap.size ≤ g) := by have := hb1.size; show _ ≤ _; omega
  have B2 := hide (hb1.trans (hb2.mono hb1.size))
  have P2 := hide p2
  have HGB := hide hgb
  clear hb1 hb2 p2 hg hgb
  go_wp2_with (at_make; refine wpList_make_full _ rfl _ _ 48 rfl w2.heap.size 3 i0 (.int .i64 0) 1 Try.underlying48 hi hz0 hz1 .i64 .i64 _ _ n rfl rfl rfl rfl (by rw [hz2]; omega) (by unfold maxLen; omega) (Nat.le_refl _) ?_)
  intro w3 hown hgr
  have hB3 : Below w2.heap.size w2 w3 := (Below.refl _ w2).grown hgr (Nat.le_refl _) (fun k e => by cases e)
  obtain ⟨gr, hgr2⟩ : ∃ gr, gr = w2.heap.size := ⟨_, rfl⟩
  have hlt : w2.heap.size < w3.heap.size := by
    obtain ⟨_, ⟨e, _⟩ | ⟨x, cp, cur, e, _, hh, _⟩⟩ := hown
    · simp at e
    · simp only [Value.slice.injEq, Option.some.injEq, Addr.mk.injEq, and_true] at e
      obtain ⟨rfl, _⟩ := e
      exact (Array.getElem?_eq_some_iff.1 hh).1
  have N3 := hide (made_nums hown hlt)
  rw [← hgr2] at N3 ⊢
  have HBG : Hid (b < gr) := by have := P2.out.blt; show _ < _; omega
  have P3 := hide (P2.out.later hB3)
  have B3 := hide (B2.out.trans (hB3.mono B2.out.size))
  have KP : Hid (∀ X Y : World, Below W.heap.size W X → But (fun x => x = g ∨ x = gr ∨ W.heap.size ≤ x) X Y → Below W.heap.size W Y) := fun X Y h k => h.trans (k.below h.size (fun x hx e => by have h1 := HW.out; have h2 := HBG.out; have h3 := HGB.out; omega))
  clear hown hgr hB3 hgr2 hlt P2 B2 hi hz0 hz1 hz2
  go_wp2
  go_loopw [9] (fun vi wr => ∃ (i : Nat) (B : Nat → Buf), vi = .int .i64 i ∧ i ≤ l.length ∧ Hid (PoolAt wr b g n B) ∧ Hid (Most B i) ∧ Hid (Nums wr gr n (nums B)) ∧ Hid (Below W.heap.size W wr)) (fun vi _ => l.length - (intOf vi).toNat)
  case atStart => exact ⟨0, none4, rfl, Nat.zero_le _, P3.out, fun k => Nat.le_refl _, N3.out, B3.out⟩
  case round =>
    obtain ⟨i, B, rfl, hi, hP, hM, hN, hB⟩ := hrel
    clear P3 N3 B3
    by_cases hlt : i < l.length
    · obtain ⟨a', cap', e', hc, hf⟩ := HI.out.below hB.out
      simp only [Value.slice.injEq] at e'
      obtain ⟨rfl, _, rfl⟩ := e'
      obtain ⟨gl, off, rfl, hgl, hcs⟩ := hc (by omega)
      obtain ⟨o, ho⟩ : ∃ o, l[i]? = some o := ⟨l[i], List.getElem?_eq_getElem hlt⟩
      obtain ⟨q0, q1, q2, q3, q4⟩ := hcs i o ho
      obtain ⟨hbv, hbl⟩ := hf o (List.mem_of_getElem? ho)
      obtain ⟨dd, dc, ed, _, _⟩ := hbv.shape
      have HV := hide hbv
      have HL := hide hbl
      clear hcs hf hc ho hbv hbl hgl
      obtain ⟨kd, oi, oa, ob, odv, ods⟩ := o
      simp only at q0 q1 q2 q3 q4 HV HL ed
      subst ed
      go_upto_region 12 with fail
      have F5 := Five.new wr kd oi oa ob (.slice dd ods.length dc) 34
      have NE : ∀ x, x < wr.heap.size → x ≠ wr.heap.size := fun x hx e => by omega
      obtain ⟨s, hs⟩ : ∃ s, s = wr.heap.size := ⟨_, rfl⟩
      have P4 := hide (hP.out.al (.cells #[.int .i64 kd, .int .i64 oi, .int .i64 oa, .int .i64 ob, .slice dd ods.length dc] 34))
      have N4 := hide (hN.out.but (K := fun _ => False) ((But.refl _ _).alloc (.cells #[.int .i64 kd, .int .i64 oi, .int .i64 oa, .int .i64 ob, .slice dd ods.length dc] 34)) id)
      have B4 := hide (hB.out.alloc hB.out.size (.cells #[.int .i64 kd, .int .i64 oi, .int .i64 oa, .int .i64 ob, .slice dd ods.length dc] 34))
      have V4 := hide (HV.out.alloc (.cells #[.int .i64 kd, .int .i64 oi, .int .i64 oa, .int .i64 ob, .slice dd ods.length dc] 34))
      have SG : Hid (g < s ∧ gr < s ∧ b < s) := by have h1 := hP.out.glt; have h2 := hN.out.lt; have h3 := hP.out.blt; exact ⟨by omega, by omega, by omega⟩
      have SW : Hid (W.heap.size ≤ s) := by have := hB.out.size; show _ ≤ _; omega
      rw [← hs] at F5 ⊢
      generalize wr.alloc (.cells #[.int .i64 kd, .int .i64 oi, .int .i64 oa, .int .i64 ob, .slice dd ods.length dc] 34) = w4 at *
      clear hs NE q0 q1 q2 q3 q4 hP hN hB HV
      have c1 := F5.c1
      have FF := hide F5
      clear F5
      go_cut [11] (fun v11 wc => w4 = wc ∧ v11 = .bool (usd n B oi))
      case first =>
        cases hu : usd n B oi with
        | true =>
          obtain ⟨j, rfl, hj, hr⟩ := usd_yes hu
          have HU := hide hu
          have c2 := N4.out.c j hj
          have z1 : (j : Int) < n := by omega
          have z2 : (0 : Int) ≤ (j : Int) := by omega
          have z3 : 0 < nums B j := by unfold nums; omega
          generalize nums B j = x at c2 z3
          clear hu
          go_wp2
          go_meet
          case rel => exact ⟨rfl, by rw [HU.out]⟩
        | false =>
          have HU := hide hu
          rcases usd_no hu with z | ⟨z0, z1⟩ | ⟨j, rfl, hj, hr⟩
          · clear hu
            go_wp2
            go_meet
            case rel => exact ⟨rfl, by rw [HU.out]⟩
          · clear hu
            go_wp2
            go_meet
            case rel => exact ⟨rfl, by rw [HU.out]⟩
          · have c2 := N4.out.c j hj
            have z1 : (j : Int) < n := by omega
            have z2 : (0 : Int) ≤ (j : Int) := by omega
            rw [show nums B j = 0 from by unfold nums; rw [hr]; rfl] at c2
            clear hu
            go_wp2
            go_meet
            case rel => exact ⟨rfl, by rw [HU.out]⟩
      case rest =>
        obtain ⟨hw4, rfl⟩ := hcut
        subst hw4
        have c0 := FF.out.c0
        have c4 := FF.out.c4
        have hlen : i ≤ 2513169434843 := by omega
        have BM : Hid (∀ X, But (Only g) w4 X → But (fun x => x = g ∨ x = gr ∨ W.heap.size ≤ x) w4 X) := fun X h => h.mono (fun x e => .inl e)
        cases e0 : (kd.tmod 4 == 0) with
        | true =>
          rcases least B n with ⟨j, hj, hr, hlow⟩ | hall
          · have G := hide (Get_yes P4.out j hj hr hlow)
            have NK := hide (fun (k : Nat) (hk : k < j) => show (nums B k == 0) = false from beq_no (by have := hlow k hk; unfold nums; omega))
            have hr0 : nums B j = 0 := by unfold nums; rw [hr]; rfl
            have z1 : (j : Int) < n := by omega
            have z2 : (0 : Int) ≤ (j : Int) := by omega
            clear hlow hr
            go_wp2_with fail
            refine G.out.mono ?_
            rintro e w5 ⟨rfl, p5, b5⟩
            have P5 := hide p5
            have B5 := hide b5
            have N5 := hide (N4.out.but b5 (by unfold Only; have h1 := HBG.out; have h2 := HGB.out; omega))
            clear G p5 b5
            go_wp2
            go_loop [14] (fun v14 => ∃ k : Nat, v14 = .int .i64 (k : Int) ∧ k ≤ j) (fun v14 => j - (intOf v14).toNat)
            case atStart => exact ⟨0, rfl, Nat.zero_le _⟩
            case round =>
              obtain ⟨k, rfl, hk⟩ := hrel
              by_cases hkj : k < j
              · have c6 := N5.out.c k (by omega)
                have q6 := NK.out k hkj
                have z3 : (k : Int) < j := by omega
                have z4 : (k : Int) < n := by omega
                generalize nums B k = x at c6 q6
                go_wp2
                go_round
                case rel => exact ⟨k + 1, by go_num, by omega⟩
                case measure => simp [intOf]; omega
              · obtain rfl : k = j := by omega
                have c6 := N5.out.c k hj
                have f6 := N5.out.f k
                rw [hr0] at c6
                clear NK
                have bX := (But.refl (Only gr) w5).cellb k (.int .i64 1)
                have P6 := hide (P5.out.but bX (by unfold Only; have := HBG.out; omega) (by unfold Only; have h1 := HBG.out; have h2 := HGB.out; omega))
                have N6 := hide (N5.out.set k hj 1)
                have b6 := B5.out.mono (K' := fun x => x = g ∨ x = gr ∨ W.heap.size ≤ x) (fun x e => .inl e)
                have B6 := hide (b6.trans (bX.mono (fun x e => .inr (.inl e))))
                have b8 := (B5.out.mono (K' := fun x => x = g ∨ x = gr) (fun x e => .inl e)).trans (bX.mono (fun x e => .inr e))
                have B8 := hide b8
                have S := See_yes P6.out k hj (by rw [upd_same]; exact Nat.one_pos)
                rw [upd_same] at S
                have HS := hide S
                clear P5 N5 B5 b6 bX b8 S
                go_wp2_with fail
                generalize w5.setCell ⟨gr, k, none⟩ (.int .i64 1) = w6 at *
                refine HS.out.mono ?_
                rintro e w7 ⟨ha, hc, da, dc', rfl, _, b7⟩
                simp only [List.length_nil]
                have bB := b7.alloc b7.size (.cells #[.int .i64 1, .slice ha 0 hc, .slice da 0 dc'] 43)
                have P8 := hide (P6.out.later bB)
                have N8 := hide (N6.out.but (K := fun _ => False) (But.of_below bB) id)
                have b9 := B6.out.trans (But.of_below bB)
                have B9 := hide b9
                have b10 := B8.out.trans (But.of_below bB)
                have c9 := (FF.out.but b10 (by have h1 := SG.out; omega)).c4
                have bW := KP.out _ _ B4.out b9
                have V9 := hide (V4.out.below (show Below W.heap.size w4 _ from ⟨b9.os, b9.tape, b9.output, b9.size, fun x hx => b9.block x (by have := B4.out.size; omega) (fun e => by have h1 := HW.out; have h2 := HBG.out; have h3 := HGB.out; omega)⟩))
                have BW := hide bW
                clear HS b7 bB b9 b10 bW P6 N6 B6 B8
                have T8 := Tell.new w7 1 (.slice ha 0 hc) (.slice da 0 dc') 43
                go_upto_region 33 with fail
                obtain ⟨s2, hs2⟩ : ∃ s2, s2 = w7.heap.size := ⟨_, rfl⟩
                rw [← hs2] at T8 ⊢
                clear hs2
                generalize w7.alloc (.cells #[.int .i64 1, .slice ha 0 hc, .slice da 0 dc'] 43) = w8 at *
                obtain ⟨t0, t1, t2, _⟩ := T8
                have ST := hide (Set_any P8.out (k : Int) _ ods V9.out)
                go_wp2_with fail
                refine ST.out.mono ?_
                rintro e w9 ⟨rfl, p9, b9⟩
                have P9 := hide p9
                have N9 := hide (N8.out.but b9 (by unfold Only; have h1 := HBG.out; have h2 := HGB.out; omega))
                have B10 := hide (KP.out _ _ BW.out (b9.mono (fun x e => .inl e)))
                clear ST p9 b9
                go_wp2
                go_roundw
                case rel =>
                  refine ⟨i + 1, stB n (upd B k ⟨1, [], []⟩) (k : Int) ods, by go_num, by omega, P9.out, fun x => ?_, ?_, B10.out⟩
                  · rw [st_refs]
                    exact hM.out.upd (show 1 ≤ i + 1 by omega) x
                  · show Nums _ _ _ _
                    rw [nums_eq (fun x => st_refs (k : Int) ods x), nums_upd]
                    exact N9.out
                case measure => simp [intOf]; omega
          · have G := hide (Get_no P4.out hall)
            have LF := hide (Left_any P4.out)
            rw [show (lft B n : Int) = 0 from by rw [lft_none hall]; rfl] at LF
            clear hall
            go_wp2_with fail
            refine G.out.mono ?_
            rintro e w5 ⟨rfl, rfl⟩
            clear G
            go_wp2_with fail
            refine LF.out.mono ?_
            rintro e w5 ⟨rfl, rfl⟩
            clear LF
            go_wp2
            go_roundw
            case rel => exact ⟨i + 1, B, by go_num, by omega, P4.out, hM.out.more, N4.out, B4.out⟩
            case measure => simp [intOf]; omega
        | false =>
          cases e1 : (kd.tmod 4 == 1) with
          | true =>
            have HO := hide (Hold_any P4.out oi (by have := hM.out oi.toNat; omega))
            cases hu : usd n B oi with
            | true =>
              obtain ⟨j, rfl, hj, hr⟩ := usd_yes hu
              rw [show hoE n B (j : Int) = 0 from by unfold hoE; rw [hu]; rfl] at HO
              have E1 : Hid (nums (hoB n B (j : Int)) = upd (nums B) j (nums B j + 1)) := by
                show _ = _
                unfold hoB; rw [hu, if_pos rfl, Int.toNat_natCast, nums_upd]
                show upd _ _ (((B j).refs + 1 : Nat) : Int) = _
                unfold nums; congr 1
              have z1 : (j : Int) < n := by omega
              have z2 : (0 : Int) ≤ (j : Int) := by omega
              have z3 : 0 ≤ nums B j := by unfold nums; omega
              have z4 : nums B j ≤ 2513169434843 := by unfold nums; have := hM.out j; omega
              go_wp2_with fail
              refine HO.out.mono ?_
              rintro e w5 ⟨rfl, p5, b5⟩
              have P5 := hide p5
              have B5 := hide b5
              have N5 := N4.out.but b5 (by unfold Only; have h1 := HBG.out; have h2 := HGB.out; omega)
              have c6 := N5.c j hj
              have f6 := N5.f j
              have NN := hide N5
              have c7 := (FF.out.but b5 (by unfold Only; have h1 := SG.out; omega)).c1
              clear HO p5 b5 N5
              go_wp2
              go_roundw
              case rel =>
                have bX := (But.refl (Only gr) w5).cellb j (.int .i64 (nums B j + 1))
                refine ⟨i + 1, hoB n B (j : Int), by go_num, by omega, P5.out.but bX (by unfold Only; have := HBG.out; omega) (by unfold Only; have h1 := HBG.out; have h2 := HGB.out; omega), hM.out.ho _, ?_, KP.out _ _ B4.out ((BM.out _ B5.out).trans (bX.mono (fun x e => .inr (.inl e))))⟩
                show Nums _ _ _ _
                rw [E1.out]
                exact NN.out.set j hj _
              case measure => simp [intOf]; omega
            | false =>
              rw [show hoE n B oi = 7 from by unfold hoE; rw [hu]; rfl] at HO
              have E1 : Hid (hoB n B oi = B) := by show _ = _; unfold hoB; rw [hu]; rfl
              go_wp2_with fail
              refine HO.out.mono ?_
              rintro e w5 ⟨rfl, p5, b5⟩
              have P5 := hide p5
              have B5 := hide b5
              have NN := hide (N4.out.but b5 (by unfold Only; have h1 := HBG.out; have h2 := HGB.out; omega))
              clear HO p5 b5
              go_wp2
              go_roundw
              case rel => exact ⟨i + 1, B, by go_num, by omega, by show PoolAt _ _ _ _ _; have := P5.out; rw [E1.out] at this; exact this, hM.out.more, NN.out, KP.out _ _ B4.out (BM.out _ B5.out)⟩
              case measure => simp [intOf]; omega
          | false =>
            have HO := hide (Free_any P4.out oi (by have := hM.out oi.toNat; omega))
            cases hu : usd n B oi with
            | true =>
              obtain ⟨j, rfl, hj, hr⟩ := usd_yes hu
              rw [show hoE n B (j : Int) = 0 from by unfold hoE; rw [hu]; rfl] at HO
              have E1 : Hid (nums (frB n B (j : Int)) = upd (nums B) j (nums B j - 1)) := by
                show _ = _
                unfold frB; rw [hu, if_pos rfl, Int.toNat_natCast, nums_upd]
                show upd _ _ (((B j).refs - 1 : Nat) : Int) = _
                unfold nums; congr 1; omega
              have z1 : (j : Int) < n := by omega
              have z2 : (0 : Int) ≤ (j : Int) := by omega
              have z3 : 0 ≤ nums B j := by unfold nums; omega
              have z4 : nums B j ≤ 2513169434843 := by unfold nums; have := hM.out j; omega
              go_wp2_with fail
              refine HO.out.mono ?_
              rintro e w5 ⟨rfl, p5, b5⟩
              have P5 := hide p5
              have B5 := hide b5
              have N5 := N4.out.but b5 (by unfold Only; have h1 := HBG.out; have h2 := HGB.out; omega)
              have c6 := N5.c j hj
              have f6 := N5.f j
              have NN := hide N5
              have c7 := (FF.out.but b5 (by unfold Only; have h1 := SG.out; omega)).c1
              clear HO p5 b5 N5
              go_wp2
              go_roundw
              case rel =>
                have bX := (But.refl (Only gr) w5).cellb j (.int .i64 (nums B j - 1))
                refine ⟨i + 1, frB n B (j : Int), by go_num, by omega, P5.out.but bX (by unfold Only; have := HBG.out; omega) (by unfold Only; have h1 := HBG.out; have h2 := HGB.out; omega), hM.out.fr _, ?_, KP.out _ _ B4.out ((BM.out _ B5.out).trans (bX.mono (fun x e => .inr (.inl e))))⟩
                show Nums _ _ _ _
                rw [E1.out]
                exact NN.out.set j hj _
              case measure => simp [intOf]; omega
            | false =>
              rw [show hoE n B oi = 7 from by unfold hoE; rw [hu]; rfl] at HO
              have E1 : Hid (frB n B oi = B) := by show _ = _; unfold frB; rw [hu]; rfl
              go_wp2_with fail
              refine HO.out.mono ?_
              rintro e w5 ⟨rfl, p5, b5⟩
              have P5 := hide p5
              have B5 := hide b5
              have NN := hide (N4.out.but b5 (by unfold Only; have h1 := HBG.out; have h2 := HGB.out; omega))
              clear HO p5 b5
              go_wp2
              go_roundw
              case rel => exact ⟨i + 1, B, by go_num, by omega, by show PoolAt _ _ _ _ _; have := P5.out; rw [E1.out] at this; exact this, hM.out.more, NN.out, KP.out _ _ B4.out (BM.out _ B5.out)⟩
              case measure => simp [intOf]; omega
    · obtain rfl : i = l.length := by omega
      go_wp2
      go_ret
      exact ⟨rfl, hB.out⟩

theorem Least_walk (many : Int) (v : Value) (l : List OpV) (W : World) (_ : -9223372036854775808 ≤ many) (_ : many ≤ 9223372036854775807) (hI : IsO W.heap.size W v l) (hl : l.length ≤ 2513169434843) :
    Calls Try.prog 5 #[.int .i64 many, v] W fun e W' => e = .returned (.bool true) ∧ Below W.heap.size W W' := by
  by_cases hm : many < 1 ∨ 4096 < many
  · exact least_small many v W hm
  · obtain ⟨n, rfl⟩ : ∃ n : Nat, many = n := ⟨many.toNat, by omega⟩
    by_cases h60 : 60 < n
    · exact least_great n v W h60 (by omega)
    · exact least_loop n v l W (by omega) (by omega) hI hl

end Go.Proofs.Ytkadapjcnonbiaa
