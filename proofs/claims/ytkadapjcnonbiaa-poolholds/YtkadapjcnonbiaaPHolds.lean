
/-
  PoolHolds: its walk.
-/
import Derived.Test.YtkadapjcnonbiaaPHoldsB
import Derived.Deep.CutBlock
namespace Go.Proofs.Ytkadapjcnonbiaa
open Go.RowKit

theorem owE_one {n : Nat} {B : Nat → Buf} (hn : 0 < n) (h : (B 0).refs = 1) : owE n B 0 = 0 := by
  show owE n B ((0 : Nat) : Int) = 0
  unfold owE
  rw [usd_nat hn (by omega), if_pos rfl, Int.toNat_natCast, if_neg (by omega)]

set_option maxRecDepth 100000 in
theorem holds_small (many : Int) (dv hv v : Value) (W : World) (hm : many < 1 ∨ 4096 < many) :
    Calls Try.prog 4 #[.int .i64 many, dv, hv, v] W fun e W' => e = .returned (.bool true) ∧ Below W.heap.size W W' := by
  by_cases h1 : many < 1
  · have hN := hide (fun w => New_no w many hm)
    clear hm
    go_enter Try.func4, Try.ntmps4
    go_wp2_with fail
    refine (awake_any W).mono ?_
    rintro e w1 ⟨rfl, hb1⟩
    go_wp2_with fail
    refine (hN.out w1).mono ?_
    rintro e w2 ⟨rfl, rfl⟩
    go_wp2
    go_ret
    exact ⟨rfl, hb1⟩
  · have hN := hide (fun w => New_no w many hm)
    have h2 : 4096 < many := by omega
    clear hm
    go_enter Try.func4, Try.ntmps4
    go_wp2_with fail
    refine (awake_any W).mono ?_
    rintro e w1 ⟨rfl, hb1⟩
    go_wp2_with fail
    refine (hN.out w1).mono ?_
    rintro e w2 ⟨rfl, rfl⟩
    go_wp2
    go_ret
    exact ⟨rfl, hb1⟩

/-- all free -/
theorem lft_all : ∀ n : Nat, lft none4 n = n
  | 0 => rfl
  | n + 1 => by unfold lft; rw [lft_all n, if_pos (show (none4 n).refs = 0 from rfl)]

set_option maxRecDepth 100000 in
set_option maxHeartbeats 16000000 in
theorem holds_loop (n : Nat) (dv : Value) (ds : List Int) (hv : Value) (hs : List Int) (v : Value) (l : List OpV) (W : World) (h0 : 0 < n) (h1 : n ≤ 4096) (hID : IsF (fun g => W.heap.size ≤ g) W dv ds) (hIH : IsF (fun g => W.heap.size ≤ g) W hv hs) (hI : IsO W.heap.size W v l) (hl : l.length ≤ 2513169434843) :
    Calls Try.prog 4 #[.int .i64 (n : Int), dv, hv, v] W fun e W' => e = .returned (.bool true) ∧ Below W.heap.size W W' := by
  have HI := hide hI
  obtain ⟨a, cap, rfl, _, _⟩ := hI
  obtain ⟨da, dc, rfl, _, _⟩ := hID.shape
  obtain ⟨ha, hc, rfl, _, _⟩ := hIH.shape
  have VD := hide hID
  have VH := hide hIH
  clear hID hIH
  have q1 : (1 : Int) ≤ n := by omega
  have q2 : (n : Int) ≤ 4096 := by omega
  go_enter Try.func4, Try.ntmps4
  go_wp2_with fail
  refine (awake_any W).mono ?_
  rintro e w1 ⟨rfl, hb1⟩
  go_wp2_with fail
  refine (New_yes w1 n h0 h1).mono ?_
  rintro e w2 ⟨b, rfl, p2, hb2, hgb⟩
  obtain ⟨g, hg⟩ : ∃ g, g = w1.heap.size := ⟨_, rfl⟩
  rw [← hg] at p2 hgb
  have HW : Hid (W.heap.size ≤ g) := by have := hb1.size; show _ ≤ _; omega
  have KP : Hid (∀ X Y : World, Below W.heap.size W X → But (Only g) X Y → Below W.heap.size W Y) := fun X Y h k => h.trans (k.below h.size (fun x hx e => by have h1 := HW.out; have e : x = g := e; omega))
  have B2 := hide (hb1.trans (hb2.mono hb1.size))
  have P2 := hide p2
  have HGB := hide hgb
  clear hb1 hb2 p2 hg hgb
  go_wp2_with fail
  refine (show Calls Try.prog 15 #[.pointer (some ⟨b, 0, none⟩)] w2 (fun e w' => e = .returned (.tuple #[.int .i64 0, .int .i64 0]) ∧ PoolAt w' b g n a1 ∧ But (Only g) w2 w') from Get_yes P2.out 0 h0 rfl (fun j hj => absurd hj (Nat.not_lt_zero _))).mono ?_
  rintro e w3 ⟨rfl, p3, b3⟩
  have P3 := hide p3
  have B3 := hide (KP.out _ _ B2.out b3)
  clear P2 B2 p3 b3
  have e1 : stE n a1 0 ds = if 288 < ds.length then 2 else 0 := by unfold stE; rw [owE_one h0 rfl, if_pos rfl]
  have ST := hide (Set_any P3.out 0 _ ds (VD.out.below B3.out))
  have r1 : (stB n a1 0 ds 0).refs = 1 := by rw [st_refs]; rfl
  have e2 : foE n (stB n a1 0 ds) 0 hs = if 104 < hs.length then 2 else 0 := by unfold foE; rw [owE_one h0 r1, if_pos rfl]
  have r2 : (foB n (stB n a1 0 ds) 0 hs 0).refs = 1 := by rw [fo_refs]; exact r1
  have e3 : hoE n (foB n (stB n a1 0 ds) 0 hs) 0 = 0 := by
    show hoE n _ ((0 : Nat) : Int) = 0
    unfold hoE; rw [usd_nat h0 (by rw [r2]; exact Nat.one_pos), if_pos rfl]
  have R1 := hide r1
  have R2 := hide r2
  have E1 := hide e1
  have E2 := hide e2
  have E3 := hide e3
  clear e1 e2 e3 r1 r2
  go_wp2_with fail
  refine ST.out.mono ?_
  rintro e w4 ⟨rfl, p4, b4⟩
  have P4 := hide p4
  have B4 := hide (KP.out _ _ B3.out b4)
  clear ST p4 b4 P3 B3
  rw [E1.out]
  have FO := hide (Front_any P4.out 0 _ hs (VH.out.below B4.out))
  obtain ⟨x1, hx1⟩ : ∃ x1 : Int, x1 = if 288 < ds.length then 2 else 0 := ⟨_, rfl⟩
  rw [← hx1]
  have HX1 := hide hx1
  clear hx1
  go_wp2_with fail
  refine FO.out.mono ?_
  rintro e w5 ⟨rfl, p5, b5⟩
  have P5 := hide p5
  have B5 := hide (KP.out _ _ B4.out b5)
  clear FO p5 b5 P4 B4
  rw [E2.out]
  obtain ⟨x2, hx2⟩ : ∃ x2 : Int, x2 = if 104 < hs.length then 2 else 0 := ⟨_, rfl⟩
  rw [← hx2]
  have HX2 := hide hx2
  clear hx2
  have HO := hide (Hold_any P5.out 0 (by rw [show (0 : Int).toNat = 0 from rfl, R2.out]; omega))
  rw [E3.out] at HO
  go_wp2_with fail
  refine HO.out.mono ?_
  rintro e w6 ⟨rfl, p6, b6⟩
  have P6 := hide p6
  have B6 := hide (KP.out _ _ B5.out b6)
  clear HO p6 b6 P5 B5
  by_cases hd : 288 < ds.length
  · have z : x1 = 2 := by rw [HX1.out, if_pos hd]
    subst z
    have hd' : (288 : Int) < (ds.length : Int) := by omega
    go_wp2
    go_ret
    exact ⟨rfl, B6.out⟩
  · have z : x1 = 0 := by rw [HX1.out, if_neg hd]
    subst z
    have hd' : (ds.length : Int) ≤ 288 := by omega
    by_cases hh : 104 < hs.length
    · have z : x2 = 2 := by rw [HX2.out, if_pos hh]
      subst z
      have hh' : (104 : Int) < (hs.length : Int) := by omega
      go_wp2
      go_ret
      exact ⟨rfl, B6.out⟩
    · have z : x2 = 0 := by rw [HX2.out, if_neg hh]
      subst z
      have K6 : Hid (Kept n (hoB n (foB n (stB n a1 0 ds) 0 hs) 0) 1 ds hs) := by
        have y1 : stB n a1 0 ds = upd a1 0 ⟨1, [], ds⟩ := by
          unfold stB; rw [E1.out, if_neg hd, if_pos rfl]; rfl
        have y2 : foB n (stB n a1 0 ds) 0 hs = upd a1 0 ⟨1, hs, ds⟩ := by
          unfold foB; rw [E2.out, if_neg hh, if_pos rfl, show (0 : Int).toNat = 0 from rfl, y1, upd_same, upd_upd]
        have y3 : hoB n (foB n (stB n a1 0 ds) 0 hs) 0 = upd a1 0 ⟨2, hs, ds⟩ := by
          unfold hoB
          rw [show usd n (foB n (stB n a1 0 ds) 0 hs) 0 = true from usd_nat (i := 0) h0 (by rw [R2.out]; exact Nat.one_pos), if_pos rfl, show (0 : Int).toNat = 0 from rfl, y2, upd_same, upd_upd]
        have y4 : upd a1 0 ⟨2, hs, ds⟩ = upd none4 0 ⟨2, hs, ds⟩ := by unfold a1; rw [upd_upd]
        show Kept _ _ _ _ _
        rw [y3, y4]
        refine ⟨by rw [upd_same]; exact Nat.le_refl _, by rw [upd_same], by rw [upd_same], ?_⟩
        have h3 := lft_take (B := none4) (j := 0) (x := ⟨2, hs, ds⟩) rfl (show (2 : Nat) ≠ 0 by omega) h0
        rw [lft_all] at h3
        omega
      have M6 : Hid (Most (hoB n (foB n (stB n a1 0 ds) 0 hs) 0) 2) := by
        have m1 : Most (foB n (stB n a1 0 ds) 0 hs) 1 := fun k => by
          rw [fo_refs, st_refs]
          by_cases e : k = 0
          · rw [e]; exact Nat.le_refl _
          · show (upd none4 0 ⟨1, [], []⟩ k).refs ≤ 1
            rw [upd_other _ _ _ _ e]; exact Nat.zero_le _
        exact m1.ho 0
      clear R1 R2 E1 E2 E3 HX1 HX2
      obtain ⟨B₀, hB0⟩ : ∃ B₀, B₀ = hoB n (foB n (stB n a1 0 ds) 0 hs) 0 := ⟨_, rfl⟩
      rw [← hB0] at K6 M6 P6
      clear hB0
      go_wp2
      go_loopw [17, 18] (fun v17 v18 wr => ∃ (i t : Nat) (B : Nat → Buf), v18 = .int .i64 (i : Int) ∧ v17 = .int .i64 (t : Int) ∧ i ≤ l.length ∧ Hid (PoolAt wr b g n B) ∧ Hid (Kept n B t ds hs) ∧ Hid (Most B (i + 2)) ∧ Hid (Below W.heap.size W wr)) (fun _ v18 _ => l.length - (intOf v18).toNat)
      case atStart => exact ⟨0, 1, B₀, rfl, rfl, Nat.zero_le _, P6.out, K6.out, M6.out, B6.out⟩
      case round =>
        obtain ⟨i, t, B, rfl, rfl, hi, hP, hK, hM, hB⟩ := hrel
        clear P6 K6 M6 B6
        by_cases hlt : i < l.length
        · obtain ⟨a', cap', e', hc', hf⟩ := HI.out.below hB.out
          simp only [Value.slice.injEq] at e'
          obtain ⟨rfl, _, rfl⟩ := e'
          obtain ⟨gl, off, rfl, hgl, hcs⟩ := hc' (by omega)
          obtain ⟨o, ho⟩ : ∃ o, l[i]? = some o := ⟨l[i], List.getElem?_eq_getElem hlt⟩
          obtain ⟨q0, q1, q2, q3, q4⟩ := hcs i o ho
          obtain ⟨hbv, hbl⟩ := hf o (List.mem_of_getElem? ho)
          obtain ⟨dd, dcc, ed, _, _⟩ := hbv.shape
          have HV := hide hbv
          clear hcs hf hc' ho hbv hbl hgl
          obtain ⟨kd, oi, oa, ob, odv, ods⟩ := o
          simp only at q0 q1 q2 q3 q4 HV ed
          subst ed
          go_upto_region 18 with fail
          have F5 := Five.new wr kd oi oa ob (.slice dd ods.length dcc) 34
          obtain ⟨s, hs'⟩ : ∃ s, s = wr.heap.size := ⟨_, rfl⟩
          have P4 := hide (hP.out.al (.cells #[.int .i64 kd, .int .i64 oi, .int .i64 oa, .int .i64 ob, .slice dd ods.length dcc] 34))
          have B4 := hide (hB.out.alloc hB.out.size (.cells #[.int .i64 kd, .int .i64 oi, .int .i64 oa, .int .i64 ob, .slice dd ods.length dcc] 34))
          have V4 := hide (HV.out.alloc (.cells #[.int .i64 kd, .int .i64 oi, .int .i64 oa, .int .i64 ob, .slice dd ods.length dcc] 34))
          have SG : Hid (g < s) := by have h1 := hP.out.glt; show _ < _; omega
          rw [← hs'] at F5 ⊢
          generalize wr.alloc (.cells #[.int .i64 kd, .int .i64 oi, .int .i64 oa, .int .i64 ob, .slice dd ods.length dcc] 34) = w4 at *
          clear hs' q0 q1 q2 q3 q4 hP hB HV
          have c0 := F5.c0
          have c1 := F5.c1
          have FF := hide F5
          clear F5
          obtain ⟨u, eu⟩ : ∃ u, u = decide (oi = 0 ∧ kd = 2) := ⟨_, rfl⟩
          have EU := hide eu
          clear eu
          go_cut [106] (fun v wc => w4 = wc ∧ v = .bool u)
          case first =>
            by_cases y1 : oi = 0
            · have y2 : (oi == 0) = true := by simp [y1]
              by_cases y3 : kd = 2
              · have y4 : (kd == 2) = true := by simp [y3]
                have YU : u = true := by rw [EU.out]; exact decide_eq_true ⟨y1, y3⟩
                subst YU
                clear y1 y3
                go_wp2
                go_meet
                case rel => exact ⟨rfl, rfl⟩
              · have y4 : (kd == 2) = false := beq_no y3
                have YU : u = false := by rw [EU.out]; exact decide_eq_false (fun h => y3 h.2)
                subst YU
                clear y1 y3
                go_wp2
                go_meet
                case rel => exact ⟨rfl, rfl⟩
            · have y2 : (oi == 0) = false := beq_no y1
              have YU : u = false := by rw [EU.out]; exact decide_eq_false (fun h => y1 h.1)
              subst YU
              clear y1
              go_wp2
              go_meet
              case rel => exact ⟨rfl, rfl⟩
          case rest =>
            obtain ⟨hw4, rfl⟩ := hcut
            subst hw4
            cases hu : u with
            | true =>
              go_wp2
              go_roundw
              case rel => exact ⟨i + 1, t, B, by go_num, rfl, by omega, P4.out, hK.out, hM.out.more, B4.out⟩
              case measure => simp [intOf]; omega
            | false =>
              have NZ : Hid (kd = 2 → oi ≠ 0) := fun h2 h0 => by have := EU.out; rw [hu] at this; exact (of_decide_eq_false this.symm) ⟨h0, h2⟩
              have SE := hide (See_any P4.out oi)
              clear hu
              go_wp2_with fail
              refine SE.out.mono ?_
              rintro e w5 ⟨ha5, hc5, da5, dc5, rfl, _, b5⟩
              have R5 : Hid (usd n B oi = true → ((seX n B oi).refs : Int) = ((B oi.toNat).refs : Int)) := fun h => by unfold seX; rw [if_pos h]
              generalize (seX n B oi).head.length = nh5
              generalize (seX n B oi).data.length = nd5
              obtain ⟨r5, er5⟩ : ∃ r5, r5 = ((seX n B oi).refs : Int) := ⟨_, rfl⟩
              rw [← er5] at R5 ⊢
              clear er5
              have bA := b5.alloc b5.size (.cells #[.int .i64 r5, .slice ha5 nh5 hc5, .slice da5 nd5 dc5] 43)
              have T6 := Tell.new w5 r5 (.slice ha5 nh5 hc5) (.slice da5 nd5 dc5) 43
              have P6 := hide (P4.out.later bA)
              have B6 := hide (B4.out.trans (bA.mono B4.out.size))
              have V6 := hide (V4.out.below (bA.mono B4.out.size))
              have F6 := FF.out.but (K := fun _ => False) (But.of_below bA) id
              have SG2 : Hid (g < w5.heap.size) := by have h1 := P4.out.glt; have h2 := b5.size; show _ < _; omega
              clear SE b5 bA P4 B4 V4 FF c0 c1
              go_upto_region 20 with fail
              obtain ⟨s2, hs2⟩ : ∃ s2, s2 = w5.heap.size := ⟨_, rfl⟩
              rw [← hs2] at T6 SG2 ⊢
              clear hs2
              generalize w5.alloc (.cells #[.int .i64 r5, .slice ha5 nh5 hc5, .slice da5 nd5 dc5] 43) = w6 at *
              have c0 := F6.c0
              have c1 := F6.c1
              have c2 := F6.c2
              have c3 := F6.c3
              have c4 := F6.c4
              have HT6 := hide T6
              clear F6 T6
              go_upto_block 2 with fail
              go_cut [17, 21, 22, 23, 24] (fun v17 _ _ _ _ wc => ∃ (t' : Nat) (B' : Nat → Buf), v17 = .int .i64 (t' : Int) ∧ Hid (PoolAt wc b g n B') ∧ Hid (Kept n B' t' ds hs) ∧ Hid (Most B' (i + 3)) ∧ Hid (Below W.heap.size W wc))
              case first =>
                have ht := hK.out.t
                have ht0 : t ≤ 4096 := by omega
                have hi2 : i ≤ 2513169434843 := by omega
                clear ht
                by_cases k0 : kd = 0
                · subst k0
                  rcases least B n with ⟨j, hj, hr, hlow⟩ | hall
                  · have G := hide (Get_yes P6.out j hj hr hlow)
                    obtain ⟨hj0, hk7⟩ := hK.out.take j hj hr
                    have K7 := hide hk7
                    have M7 : Hid (Most (upd B j ⟨1, [], []⟩) (i + 3)) := hM.out.upd (show 1 ≤ i + 2 + 1 by omega)
                    have y1 : ((j : Int) == 0) = false := beq_no (by omega)
                    clear hr hlow hk7 hj0
                    go_wp2_with fail
                    refine G.out.mono ?_
                    rintro e w7 ⟨rfl, p7, b7⟩
                    have P7 := hide p7
                    have B7 := hide (KP.out _ _ B6.out b7)
                    clear G p7 b7
                    go_wp2
                    go_meet
                    case rel => exact ⟨t + 1, (upd B j ⟨1, [], []⟩), by go_num, P7.out, K7.out, M7.out, B7.out⟩
                  · have G := hide (Get_no P6.out hall)
                    clear hall
                    have M7 : Hid (Most B (i + 3)) := hM.out.more
                    go_wp2_with fail
                    refine G.out.mono ?_
                    rintro e w7 ⟨rfl, rfl⟩
                    clear G
                    go_wp2
                    go_meet
                    case rel => exact ⟨t, B, rfl, P6.out, hK.out, M7.out, B6.out⟩
                · have y0 : (kd == 0) = false := beq_no k0
                  by_cases k1 : kd = 1
                  · subst k1
                    have C7 := hide (Hold_any P6.out oi (by have := hM.out oi.toNat; omega))
                    go_wp2_with fail
                    refine C7.out.mono ?_
                    rintro e w7 ⟨rfl, p7, b7⟩
                    have P7 := hide p7
                    have K7 := hide (hK.out.ho oi)
                    have M7 := hide (hM.out.ho (n := n) oi)
                    have B7 := hide (KP.out _ _ B6.out b7)
                    clear C7 p7 b7
                    go_wp2
                    go_meet
                    case rel => exact ⟨t, (hoB n B oi), rfl, P7.out, K7.out, M7.out, B7.out⟩
                  · have y1 : (kd == 1) = false := beq_no k1
                    by_cases k2 : kd = 2
                    · have hoi := NZ.out k2
                      subst k2
                      have FR := hide (Free_any P6.out oi (by have := hM.out oi.toNat; omega))
                      have K7' := hK.out.fr oi hoi
                      have M7 := hide (hM.out.fr (n := n) oi)
                      cases hu : usd n B oi with
                      | false =>
                        have E : hoE n B oi = 7 := by unfold hoE; rw [hu]; rfl
                        rw [if_neg (fun h => by rw [hu] at h; cases h.1)] at K7'
                        have K7 := hide K7'
                        rw [E] at FR ⊢
                        clear E K7'
                        go_wp2_with fail
                        refine FR.out.mono ?_
                        rintro e w7 ⟨rfl, p7, b7⟩
                        have P7 := hide p7
                        have B7 := hide (KP.out _ _ B6.out b7)
                        clear FR p7 b7
                        go_wp2
                        go_meet
                        case rel => exact ⟨t, (frB n B oi), rfl, P7.out, K7.out, M7.out, B7.out⟩
                      | true =>
                        have E : hoE n B oi = 0 := by unfold hoE; rw [hu]; rfl
                        have er5 := R5.out hu
                        rw [E] at FR ⊢
                        clear E
                        by_cases e1 : (B oi.toNat).refs = 1
                        · have er6 : r5 = 1 := by rw [er5, e1]; rfl
                          subst er6
                          rw [if_pos ⟨hu, e1⟩] at K7'
                          have K7 := hide K7'
                          have htt : 1 ≤ t := by
                            have h3 := hK.out.t
                            have h4 := K7'.t
                            have h5 := hK.out.r
                            by_cases h6 : t = 0
                            · exfalso
                              have h7 : lft B n = n := by omega
                              have h9 := lft_free (B := B) (j := oi.toNat) (x := ⟨0, [], []⟩) (by omega) rfl (n := n) (by obtain ⟨i', e', hi', _⟩ := usd_yes hu; omega)
                              have h10 := lft_le (upd B oi.toNat ⟨0, [], []⟩) n
                              omega
                            · omega
                          clear K7' e1 er5 hu
                          have z7 : (1 : Int) ≤ (t : Int) := by omega
                          have t1c := HT6.out.c0
                          go_wp2_with fail
                          refine FR.out.mono ?_
                          rintro e w7 ⟨rfl, p7, b7⟩
                          have P7 := hide p7
                          have B7 := hide (KP.out _ _ B6.out b7)
                          have t1d := (HT6.out.but b7 (by unfold Only; have := SG2.out; omega)).c0
                          clear FR p7 b7 t1c
                          go_wp2
                          go_meet
                          case rel => exact ⟨t - 1, (frB n B oi), by refine val_int ?_; omega, P7.out, K7.out, M7.out, B7.out⟩
                        · have y5 : (r5 == 1) = false := beq_no (by rw [er5]; omega)
                          rw [if_neg (fun h => e1 h.2)] at K7'
                          have K7 := hide K7'
                          clear K7' e1 er5 hu
                          go_wp2_with fail
                          refine FR.out.mono ?_
                          rintro e w7 ⟨rfl, p7, b7⟩
                          have P7 := hide p7
                          have B7 := hide (KP.out _ _ B6.out b7)
                          have t1d := (HT6.out.but b7 (by unfold Only; have := SG2.out; omega)).c0
                          clear FR p7 b7
                          go_wp2
                          go_meet
                          case rel => exact ⟨t, (frB n B oi), rfl, P7.out, K7.out, M7.out, B7.out⟩
                    · have y2 : (kd == 2) = false := beq_no k2
                      by_cases k3 : kd = 3
                      · subst k3
                        have C7 := hide (Set_any P6.out oi _ ods V6.out)
                        go_wp2_with fail
                        refine C7.out.mono ?_
                        rintro e w7 ⟨rfl, p7, b7⟩
                        have P7 := hide p7
                        have K7 := hide (hK.out.st oi ods)
                        have M7 := hide (hM.out.st (n := n) oi ods)
                        have B7 := hide (KP.out _ _ B6.out b7)
                        clear C7 p7 b7
                        go_wp2
                        go_meet
                        case rel => exact ⟨t, (stB n B oi ods), rfl, P7.out, K7.out, M7.out, B7.out⟩
                      · have y3 : (kd == 3) = false := beq_no k3
                        by_cases k4 : kd = 4
                        · subst k4
                          have C7 := hide (Append_any P6.out oi _ ods V6.out)
                          go_wp2_with fail
                          refine C7.out.mono ?_
                          rintro e w7 ⟨rfl, p7, b7⟩
                          have P7 := hide p7
                          have K7 := hide (hK.out.ap oi ods)
                          have M7 := hide (hM.out.ap (n := n) oi ods)
                          have B7 := hide (KP.out _ _ B6.out b7)
                          clear C7 p7 b7
                          go_wp2
                          go_meet
                          case rel => exact ⟨t, (apB n B oi ods), rfl, P7.out, K7.out, M7.out, B7.out⟩
                        · have y4 : (kd == 4) = false := beq_no k4
                          by_cases k5 : kd = 5
                          · subst k5
                            have C7 := hide (Trim_any P6.out oi oa ob)
                            go_wp2_with fail
                            refine C7.out.mono ?_
                            rintro e w7 ⟨rfl, p7, b7⟩
                            have P7 := hide p7
                            have K7 := hide (hK.out.tr oi oa ob)
                            have M7 := hide (hM.out.tr (n := n) oi oa ob)
                            have B7 := hide (KP.out _ _ B6.out b7)
                            clear C7 p7 b7
                            go_wp2
                            go_meet
                            case rel => exact ⟨t, (trB n B oi oa ob), rfl, P7.out, K7.out, M7.out, B7.out⟩
                          · have y5 : (kd == 5) = false := beq_no k5
                            have C7 := hide (Front_any P6.out oi _ ods V6.out)
                            go_wp2_with fail
                            refine C7.out.mono ?_
                            rintro e w7 ⟨rfl, p7, b7⟩
                            have P7 := hide p7
                            have K7 := hide (hK.out.fo oi ods)
                            have M7 := hide (hM.out.fo (n := n) oi ods)
                            have B7 := hide (KP.out _ _ B6.out b7)
                            clear C7 p7 b7
                            go_wp2
                            go_meet
                            case rel => exact ⟨t, (foB n B oi ods), rfl, P7.out, K7.out, M7.out, B7.out⟩
              case rest =>
                obtain ⟨t', B', rfl, hP7, hK7, hM7, hB7⟩ := hcut
                clear P6 B6 V6 c0 c1 c2 c3 c4 HT6 R5 NZ hK hM
                have ht' : t' ≤ 4096 := by have := hK7.out.t; omega
                have e0 : B' 0 = ⟨(B' 0).refs, hs, ds⟩ := by rw [← hK7.out.d, ← hK7.out.h]
                have S := See_yes hP7.out 0 h0 (by have := hK7.out.r; omega)
                have LF := hide (fun (w' : World) (hb : Below wc.heap.size wc w') => Left_any (hP7.out.later hb))
                obtain ⟨r, er⟩ : ∃ r, r = (B' 0).refs := ⟨_, rfl⟩
                have hr2 : (2 : Int) ≤ (r : Int) := by have := hK7.out.r; omega
                rw [← er] at e0
                rw [e0] at S
                have hz : (n : Int) - (t' : Int) = (lft B' n : Int) := by have := hK7.out.t; omega
                have hz2 : IntKind.i64.wrap (lft B' n : Int) = (lft B' n : Int) := by have := hK7.out.t; rw [IntKind.wrap_i64]; omega
                have HS8 := hide S
                clear S er e0
                generalize (lft B' n : Int) = lf at *
                go_wp2_with fail
                refine (show Calls Try.prog 19 #[.pointer (some ⟨b, 0, none⟩), .int .i64 0] _ _ from HS8.out).mono ?_
                rintro e w8 ⟨ha8, hc8, da8, dc8, rfl, sn, b8⟩
                simp only at sn ⊢
                have bA := b8.alloc b8.size (.cells #[.int .i64 (r : Int), .slice ha8 hs.length hc8, .slice da8 ds.length dc8] 43)
                have P9 := hide (hP7.out.later bA)
                have L9 := hide (LF.out _ bA)
                have B9 := hide (hB7.out.trans (bA.mono hB7.out.size))
                have x1 := conv_str ((sn.d.isF (A := fun _ => False) (fun _ _ => id)).alloc (.cells #[.int .i64 (r : Int), .slice ha8 hs.length hc8, .slice da8 ds.length dc8] 43))
                have x2 := conv_str ((sn.h.isF (A := fun _ => False) (fun _ _ => id)).alloc (.cells #[.int .i64 (r : Int), .slice ha8 hs.length hc8, .slice da8 ds.length dc8] 43))
                have x3 := conv_str (VD.out.below B9.out)
                have x4 := conv_str (VH.out.below B9.out)
                have T9 := Tell.new w8 (r : Int) (.slice ha8 hs.length hc8) (.slice da8 ds.length dc8) 43
                clear sn b8 bA HS8 LF
                go_upto_region 41 with fail
                obtain ⟨s3, hs3⟩ : ∃ s3, s3 = w8.heap.size := ⟨_, rfl⟩
                rw [← hs3] at T9 ⊢
                clear hs3
                generalize w8.alloc (.cells #[.int .i64 (r : Int), .slice ha8 hs.length hc8, .slice da8 ds.length dc8] 43) = w9 at *
                obtain ⟨t0, t1, t2, _⟩ := T9
                generalize strB ds = sd at *
                generalize strB hs = sh at *
                generalize (r : Int) = ri at *
                go_wp2_with fail
                refine L9.out.mono ?_
                rintro e w10 ⟨rfl, rfl⟩
                clear L9
                go_wp2
                go_roundw
                case rel => exact ⟨i + 1, t', B', by go_num, rfl, by omega, P9.out, hK7.out, hM7.out, B9.out⟩
                case measure => simp [intOf]; omega
        · obtain rfl : i = l.length := by omega
          go_wp2
          go_ret
          exact ⟨rfl, hB.out⟩

theorem Holds_walk (many : Int) (dv : Value) (ds : List Int) (hv : Value) (hs : List Int) (v : Value) (l : List OpV) (W : World) (_ : -9223372036854775808 ≤ many) (_ : many ≤ 9223372036854775807) (hID : IsF (fun g => W.heap.size ≤ g) W dv ds) (_ : ds.length ≤ 140737488351232) (hIH : IsF (fun g => W.heap.size ≤ g) W hv hs) (_ : hs.length ≤ 140737488351232) (hI : IsO W.heap.size W v l) (hl : l.length ≤ 2513169434843) :
    Calls Try.prog 4 #[.int .i64 many, dv, hv, v] W fun e W' => e = .returned (.bool true) ∧ Below W.heap.size W W' := by
  by_cases hm : many < 1 ∨ 4096 < many
  · exact holds_small many dv hv v W hm
  · obtain ⟨n, rfl⟩ : ∃ n : Nat, many = n := ⟨many.toNat, by omega⟩
    exact holds_loop n dv ds hv hs v l W (by omega) (by omega) hID hIH hI hl

end Go.Proofs.Ytkadapjcnonbiaa
