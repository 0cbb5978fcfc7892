
/-
  ArpAges: the walk.
-/
import Derived.Test.YtjlifckkmkimcaaA32
import Derived.Test.YtjlifckkmkimcaaARow
namespace Go.Proofs.Ytjlifckkmkimcaa
open Go.RowKit Go.Shelf

set_option maxRecDepth 100000 in
set_option maxHeartbeats 8000000 in
theorem Ages_walk (mac : M6) (lt : Int) (ans : Bool) (w : World) : Calls Try.prog 7 #[mac.val, .int .i64 lt, .bool ans] w fun e w' => e = .returned (.bool true) ∧ Below w.heap.size w w' := by
  obtain ⟨s, hs⟩ : ∃ s, s = w.heap.size := ⟨_, rfl⟩
  obtain ⟨n, hn⟩ : ∃ n, n = s + 1 := ⟨_, rfl⟩
  obtain ⟨w1, hw1⟩ : ∃ w1, w1 = w.alloc (.cells #[.int .u8 mac.a, .int .u8 mac.b, .int .u8 mac.c, .int .u8 mac.d, .int .u8 mac.e, .int .u8 mac.f] 23) := ⟨_, rfl⟩
  have hb1 : Below s w w1 := by rw [hw1, hs]; exact (Below.refl _ w).alloc (Nat.le_refl _) _
  have hz1 : w1.heap.size = n := by rw [hw1, hn, hs]; simp
  have cm1 : CellsAt w1 s 0 mac.vals := by rw [hw1, hs]; exact CellsAt.new w mac.vals 23
  have HB1 := hide hb1
  have HZ1 := hide hz1
  have CM1 := hide cm1
  have HN := hide hn
  rw [← hs]
  have hw1' := hw1.symm
  have hs' := hs.symm
  rw [show mac.val = .agg #[.int .u8 mac.a, .int .u8 mac.b, .int .u8 mac.c, .int .u8 mac.d, .int .u8 mac.e, .int .u8 mac.f] from rfl]
  clear hw1 hs hn hb1 hz1 cm1
  go_enter Try.func7, Try.ntmps7
  go_wp2_with fail
  clear hw1' hs'
  refine (awake_any w1).mono ?_
  rintro _ w2 ⟨rfl, b2⟩
  have B2 : Hid (Below n w1 w2) := b2.mono (by have := HZ1.out; omega)
  have Z2 : Hid (n ≤ w2.heap.size) := by have := b2.size; have := HZ1.out; unfold Hid; omega
  clear b2
  go_wp2_with fail
  refine (ip_any 1 _).mono ?_
  rintro _ w3 ⟨rfl, b3⟩
  have B3 : Hid (Below n w1 w3) := B2.out.trans (b3.mono Z2.out)
  have Z3 : Hid (n ≤ w3.heap.size) := by have := b3.size; have := Z2.out; unfold Hid; omega
  have NW := hide (Lw.new Z3.out B3.out)
  simp only [hostM, hostI, M6.val, I4.val] at NW
  simp only [I4.val]
  clear b3
  go_wp2_with fail
  refine NW.out.mono ?_
  rintro _ w4 ⟨c, rfl, hL⟩
  have L4 : Hid (Lw n w1 w4 c []) := hL
  clear hL NW B2 B3 Z2 Z3
  have FE0 : Hid (∀ W, Below n w1 W → Below s w W) := fun W hb => HB1.out.trans (hb.mono (by have := HN.out; omega))
  by_cases hr : lt < 0 ∨ 1000 < lt
  · have FE := hide (FE0.out _ L4.out.below)
    by_cases h1 : lt < 0
    · go_wp2
      go_ret
      exact ⟨rfl, FE.out⟩
    · have h2 : 1000 < lt := by omega
      go_wp2
      go_ret
      exact ⟨rfl, FE.out⟩
  · obtain ⟨l0, l1⟩ : 0 ≤ lt ∧ lt ≤ 1000 := by omega
    have nl : ¬ lt < 0 := by omega
    have nl2 : ¬ 1000 < lt := by omega
    clear hr
    go_wp2_with fail
    have S5 : ∀ W, Below n w1 W → CellsAt W s 0 mac.vals := fun W hb => CM1.out.later (by have := CM1.out.lt (by simp [M6.vals]); exact this) (hb.mono (by have := HZ1.out; omega))
    have CMS := hide S5
    have Ld : Lw n w1 w4.drew c [] := L4.out.later ((Below.refl _ _).drew)
    refine region_out (fun W => CellsAt W s 0 mac.vals) (by kernel_rfl) ?_
    refine takeD (i := 0) (v := .pointer (some ⟨c, 0, none⟩)) 47 rfl rfl (by kernel_rfl) (by kernel_rfl) (by kernel_rfl) (fun _ _ _ h => h) (.inl ⟨by rfl, fun W hW => exec_move _ _ rfl rfl⟩) (S5 _ Ld.below) ?_
    try simp only [Act.put, List.setIfInBounds_toArray, List.set_cons_zero, List.set_cons_succ]
    refine takeD (i := 1) (v := .agg (mac.vals).toArray) 48 rfl rfl (by kernel_rfl) (by kernel_rfl) (by kernel_rfl) (fun _ _ _ h => h) (.inl ⟨by rfl, fun W hW => exec_loadA 23 6 aggM sizM _ rfl s 0 rfl (mac.vals) rfl (hW)⟩) (S5 _ Ld.below) ?_
    try simp only [Act.put, List.setIfInBounds_toArray, List.set_cons_zero, List.set_cons_succ]
    refine callD 2 49 (by kernel_rfl) rfl rfl (by rfl) 14 #[.int .u8 2] (by kernel_rfl) (fun v w9 => v = .agg #[.int .u8 10, .int .u8 0, .int .u8 0, .int .u8 2] ∧ Lw n w1 w9 c []) ((ip_any 2 _).mono (fun e w' h => ⟨_, h.1, rfl, Ld.later h.2⟩)) ?_
    rintro v w5 ⟨rfl, L5⟩
    refine ⟨S5 _ L5.below, ?_⟩
    simp only [Act.put, List.setIfInBounds_toArray, List.set_cons_zero, List.set_cons_succ]
    refine callD 3 50 (by kernel_rfl) rfl rfl (by rfl) 14 #[.int .u8 1] (by kernel_rfl) (fun v w9 => v = .agg #[.int .u8 10, .int .u8 0, .int .u8 0, .int .u8 1] ∧ Lw n w1 w9 c []) ((ip_any 1 _).mono (fun e w' h => ⟨_, h.1, rfl, L5.later h.2⟩)) ?_
    rintro v w6 ⟨rfl, L6⟩
    refine ⟨S5 _ L6.below, ?_⟩
    simp only [Act.put, List.setIfInBounds_toArray, List.set_cons_zero, List.set_cons_succ]
    refine takeD (i := 4) (v := .agg (Ar.vals (said mac)).toArray) 51 rfl rfl (by kernel_rfl) (by kernel_rfl) (by kernel_rfl) (fun _ _ _ h => h) (.inl ⟨by rfl, fun W hW => exec_ar4 _ _ _ mac.a mac.b mac.c mac.d mac.e mac.f 10 0 0 2 10 0 0 1 rfl rfl rfl rfl (fun _ => rfl)⟩) (S5 _ L6.below) ?_
    try simp only [Act.put, List.setIfInBounds_toArray, List.set_cons_zero, List.set_cons_succ]
    refine callD 5 52 (by kernel_rfl) rfl rfl (by rfl) 20 #[.pointer (some ⟨c, 0, none⟩), (said mac).val, .int .i64 0] (by kernel_rfl) (fun v w9 => Lw n w1 w9 c [nk mac 0 0]) ((L6.heard 0 (LOk.nil 0) (said mac)).mono (fun e w' h => by obtain ⟨aa, ac, ga, gc, rfl, h⟩ := h; exact ⟨_, rfl, h⟩)) ?_
    rintro v w7 L7
    refine ⟨S5 _ L7.below, ?_⟩
    simp only [Act.put, List.setIfInBounds_toArray, List.set_cons_zero, List.set_cons_succ]
    refine wpAnyH_done (by kernel_rfl) ?_ _
    have HL7 := hide L7
    clear L7 L6 L5 Ld S5 L4
    obtain ⟨lk, hlk⟩ : ∃ lk : Nat, lt = (lk : Int) := ⟨lt.toNat, by omega⟩
    subst hlk
    go_wp2
    go_loopw [9] (fun v9 wr => ∃ t : Nat, v9 = .int .i64 (t : Int) ∧ 1 ≤ t ∧ t ≤ lk + 1 ∧ Hid (Lw n w1 wr c [nk mac 0 0])) (fun v9 _ => lk + 1 - (intOf v9).toNat)
    case atStart => exact ⟨1, rfl, by omega, by omega, HL7.out⟩
    case round =>
      obtain ⟨t, rfl, ht1, ht2, HL⟩ := hrel
      by_cases hlt : t ≤ lk
      · have zt : (t : Int) ≤ (lk : Int) := by omega
        have TK := hide (HL.out.tick (t : Int) (nkOk (by omega) (by omega) (by omega) (by omega)) (by omega))
        rw [(tk_nk mac 0 0 (t : Int)).1, (tk_nk mac 0 0 (t : Int)).2.1, (tk_nk mac 0 0 (t : Int)).2.2] at TK
        simp only [List.length_nil] at TK
        go_wp2_with fail
        refine TK.out.mono ?_
        rintro _ w8 ⟨aa, ac, ga, gc, rfl, L8⟩
        have HL8 := hide L8
        clear L8 TK HL
        go_wp2
        go_roundw
        case rel => exact ⟨t + 1, by go_num, by omega, by omega, HL8.out⟩
        case measure => simp [intOf]; omega
      · have zt : ¬ (t : Int) ≤ (lk : Int) := by omega
        go_wp2_with fail
        refine (ip_any 2 _).mono ?_
        rintro _ w8 ⟨rfl, b8⟩
        have L8 := HL.out.later b8
        obtain ⟨ag, hag⟩ : ∃ ag, ag = decide (64 ≤ lk) := ⟨_, rfl⟩
        have EF : fd i2 5 (lk : Int) [nk mac 0 0] = ⟨mac, [], ag, 0, agL ag ans (lk : Int) mac 0⟩ := by
          by_cases h64 : 64 ≤ lk
          · have : ag = true := by rw [hag]; simp [h64]
            subst this
            have e : fd i2 5 (lk : Int) [nk mac 0 0] = if (2 : Int) = 2 ∧ 64 ≤ (lk : Int) - 0 then ⟨mac, [], true, 0, [no_ mac lk 1]⟩ else ⟨mac, [], false, 0, [nk mac 0 0]⟩ := rfl
            rw [e, if_pos ⟨rfl, by omega⟩]
            cases ans <;> rfl
          · have : ag = false := by rw [hag]; simp [h64]
            subst this
            have e : fd i2 5 (lk : Int) [nk mac 0 0] = if (2 : Int) = 2 ∧ 64 ≤ (lk : Int) - 0 then ⟨mac, [], true, 0, [no_ mac lk 1]⟩ else ⟨mac, [], false, 0, [nk mac 0 0]⟩ := rfl
            rw [e, if_neg (by omega)]
            cases ans <;> rfl
        have FD := hide (L8.find (lk : Int) 5 (nkOk (by omega) (by omega) (by omega) (by omega)) (by omega) i2)
        rw [EF] at FD
        simp only [List.length_nil, i2, I4.val] at FD
        simp only [I4.val]
        have HAG := hide hag
        clear EF b8 HL L8 hag
        go_wp2_with fail
        refine FD.out.mono ?_
        rintro _ w9 ⟨ga, gc, aa, ac, rfl, L9⟩
        obtain ⟨al, hal⟩ : ∃ al : Nat, al = if ag = true then 1 else 0 := ⟨_, rfl⟩
        rw [← hal]
        simp only [M6.val]
        obtain ⟨w10, hw10⟩ : ∃ w10, w10 = w9.alloc (.cells #[.int .u8 mac.a, .int .u8 mac.b, .int .u8 mac.c, .int .u8 mac.d, .int .u8 mac.e, .int .u8 mac.f] 23) := ⟨_, rfl⟩
        have b10 : Below w9.heap.size w9 w10 := by rw [hw10]; exact (Below.refl _ _).alloc (Nat.le_refl _) _
        have HL10 := hide (L9.later b10)
        have cq : CellsAt w10 w9.heap.size 0 mac.vals := by rw [hw10]; exact CellsAt.new w9 mac.vals 23
        have cs := CMS.out _ HL10.out.below
        obtain ⟨s9, hs9⟩ : ∃ s9, s9 = w9.heap.size := ⟨_, rfl⟩
        rw [← hs9] at cq
        have x0 := cq 0 _ rfl
        have x1 := cq 1 _ rfl
        have x2 := cq 2 _ rfl
        have x3 := cq 3 _ rfl
        have x4 := cq 4 _ rfl
        have x5 := cq 5 _ rfl
        have y0 := cs 0 _ rfl
        have y1 := cs 1 _ rfl
        have y2 := cs 2 _ rfl
        have y3 := cs 3 _ rfl
        have y4 := cs 4 _ rfl
        have y5 := cs 5 _ rfl
        simp only [Nat.zero_add] at x0 x1 x2 x3 x4 x5 y0 y1 y2 y3 y4 y5
        have EM := eq_mac
        have ES : eqM ⟨mac.a, mac.b, mac.c, mac.d, mac.e, mac.f⟩ ⟨mac.a, mac.b, mac.c, mac.d, mac.e, mac.f⟩ = true := eqM_self _
        have hw10' := hw10.symm
        have hs9' := hs9.symm
        have q1 : ((al : Int) == 1) = ag := by rw [hal]; cases ag <;> rfl
        have q2 : decide ((64 : Int) ≤ (lk : Int)) = ag := by rw [HAG.out]; exact decide_eq_decide.2 (by omega)
        have HAL := hide hal
        clear hw10 hs9 hal cq cs L9 FD b10
        go_wp2
        clear x0 x1 x2 x3 x4 x5 y0 y1 y2 y3 y4 y5 EM ES hw10' hs9' q1 q2
        go_loopw [16, 17] (fun v16 v17 wr => ∃ d : Nat, v17 = .int .i64 ((lk : Int) + 1 + (d : Int)) ∧ v16 = .int .i64 (agN ag ans d : Int) ∧ d ≤ 10 ∧ Hid (Lw n w1 wr c (agL ag ans (lk : Int) mac d))) (fun _ v17 _ => lk + 11 - (intOf v17).toNat)
        case atStart => exact ⟨0, val_int (by omega), val_int (by rw [HAL.out]; cases ag <;> cases ans <;> rfl), by omega, HL10.out⟩
        case round =>
          obtain ⟨d, rfl, rfl, hd, HL⟩ := hrel
          by_cases hlt : d < 10
          · have zt : (lk : Int) + 1 + (d : Int) ≤ (lk : Int) + 10 := by omega
            have TK := hide (HL.out.tick ((lk : Int) + 1 + (d : Int)) (agOk ag ans (lk : Int) mac d (by omega)) (by omega))
            have AT := agTick ag ans (lk : Int) mac d hlt
            rw [AT.1, AT.2.1] at TK
            simp only [List.length_nil] at TK
            obtain ⟨ta, hta⟩ : ∃ ta : Nat, ta = (tkA ((lk : Int) + 1 + (d : Int)) (agL ag ans (lk : Int) mac d)).length := ⟨_, rfl⟩
            rw [← hta] at TK
            have HA : Hid (agN ag ans d + ta = agN ag ans (d + 1)) := by unfold Hid; rw [hta]; exact AT.2.2
            obtain ⟨an, han⟩ : ∃ an, an = agN ag ans d := ⟨_, rfl⟩
            have ban : (an : Int) ≤ 3 := by
              rw [han]
              unfold agN
              split <;> try omega
              split <;> try omega
              split <;> omega
            have bta : (an : Int) + (ta : Int) ≤ 100 := by
              have := HA.out
              rw [← han] at this
              have h3 : agN ag ans (d + 1) ≤ 3 := by
                unfold agN
                split <;> try omega
                split <;> try omega
                split <;> omega
              omega
            rw [← han] at HA ⊢
            clear AT hta han
            go_wp2_with fail
            refine TK.out.mono ?_
            rintro _ w11 ⟨aa, ac, ga, gc, rfl, L11⟩
            have HL11 := hide L11
            clear L11 TK HL
            by_cases hans : ans = true ∧ d = 0
            · obtain ⟨rfl, rfl⟩ := hans
              have Ld := HL11.out.later ((Below.refl _ w11).drew)
              have S5 := CMS.out
              go_wp2_with fail
              refine region_out (fun W => CellsAt W s 0 mac.vals) (by kernel_rfl) ?_
              refine takeD (i := 0) (v := .pointer (some ⟨c, 0, none⟩)) 126 rfl rfl (by kernel_rfl) (by kernel_rfl) (by kernel_rfl) (fun _ _ _ h => h) (.inl ⟨by rfl, fun W hW => exec_move _ _ rfl rfl⟩) (S5 _ Ld.below) ?_
              try simp only [Act.put, List.setIfInBounds_toArray, List.set_cons_zero, List.set_cons_succ]
              refine takeD (i := 1) (v := .agg (mac.vals).toArray) 127 rfl rfl (by kernel_rfl) (by kernel_rfl) (by kernel_rfl) (fun _ _ _ h => h) (.inl ⟨by rfl, fun W hW => exec_loadA 23 6 aggM sizM _ rfl s 0 rfl (mac.vals) rfl (hW)⟩) (S5 _ Ld.below) ?_
              try simp only [Act.put, List.setIfInBounds_toArray, List.set_cons_zero, List.set_cons_succ]
              refine takeD (i := 5) (v := .int .i64 ((lk : Int) + 1)) 131 rfl rfl (by kernel_rfl) (by kernel_rfl) (by kernel_rfl) (fun _ _ _ h => h) (.inl ⟨by rfl, fun W hW => exec_move _ _ rfl rfl⟩) (S5 _ Ld.below) ?_
              try simp only [Act.put, List.setIfInBounds_toArray, List.set_cons_zero, List.set_cons_succ]
              refine callD 2 128 (by kernel_rfl) rfl rfl (by rfl) 14 #[.int .u8 2] (by kernel_rfl) (fun v w9 => v = .agg #[.int .u8 10, .int .u8 0, .int .u8 0, .int .u8 2] ∧ Lw n w1 w9 c (agM ag true (lk : Int) mac 0)) ((ip_any 2 _).mono (fun e w' h => ⟨_, h.1, rfl, Ld.later h.2⟩)) ?_
              rintro v w12 ⟨rfl, L12⟩
              refine ⟨S5 _ L12.below, ?_⟩
              simp only [Act.put, List.setIfInBounds_toArray, List.set_cons_zero, List.set_cons_succ]
              refine callD 3 129 (by kernel_rfl) rfl rfl (by rfl) 14 #[.int .u8 1] (by kernel_rfl) (fun v w9 => v = .agg #[.int .u8 10, .int .u8 0, .int .u8 0, .int .u8 1] ∧ Lw n w1 w9 c (agM ag true (lk : Int) mac 0)) ((ip_any 1 _).mono (fun e w' h => ⟨_, h.1, rfl, L12.later h.2⟩)) ?_
              rintro v w13 ⟨rfl, L13⟩
              refine ⟨S5 _ L13.below, ?_⟩
              simp only [Act.put, List.setIfInBounds_toArray, List.set_cons_zero, List.set_cons_succ]
              refine takeD (i := 4) (v := .agg (Ar.vals (said mac)).toArray) 130 rfl rfl (by kernel_rfl) (by kernel_rfl) (by kernel_rfl) (fun _ _ _ h => h) (.inl ⟨by rfl, fun W hW => exec_ar4 _ _ _ mac.a mac.b mac.c mac.d mac.e mac.f 10 0 0 2 10 0 0 1 rfl rfl rfl rfl (fun _ => rfl)⟩) (S5 _ L13.below) ?_
              try simp only [Act.put, List.setIfInBounds_toArray, List.set_cons_zero, List.set_cons_succ]
              refine callD 6 132 (by kernel_rfl) rfl rfl (by rfl) 20 #[.pointer (some ⟨c, 0, none⟩), (said mac).val, .int .i64 ((lk : Int) + 1)] (by kernel_rfl) (fun v w9 => Lw n w1 w9 c (agL ag true (lk : Int) mac 1)) ((L13.heard ((lk : Int) + 1) (by have := agMOk ag true (lk : Int) mac 0 (by omega) (by omega); simpa using this) (said mac)).mono (fun e w' h => by obtain ⟨aa, ac, ga, gc, rfl, h⟩ := h; rw [agHeard] at h; exact ⟨_, rfl, h⟩)) ?_
              rintro v w14 L14
              refine ⟨S5 _ L14.below, ?_⟩
              simp only [Act.put, List.setIfInBounds_toArray, List.set_cons_zero, List.set_cons_succ]
              refine wpAnyH_done (by kernel_rfl) ?_ _
              have HL14 := hide L14
              clear L14 L13 L12 Ld S5 HL11
              go_wp2
              go_roundw
              case rel => exact ⟨1, val_int (by omega), val_int (by rw [← HA.out]; omega), by omega, HL14.out⟩
              case measure => simp [intOf]; omega
            · have EM1 : agM ag ans (lk : Int) mac d = agL ag ans (lk : Int) mac (d + 1) := by unfold agM; rw [if_neg hans]
              rw [EM1] at HL11
              cases ans with
              | false =>
                clear EM1 hans
                go_wp2
                go_roundw
                case rel => exact ⟨d + 1, val_int (by omega), val_int (by rw [← HA.out]; omega), by omega, HL11.out⟩
                case measure => simp [intOf]; omega
              | true =>
                have d0 : ¬ (d : Int) = 0 := by
                  intro e
                  exact hans ⟨rfl, by omega⟩
                have q0 : (((lk : Int) + 1 + (d : Int)) == ((lk : Int) + 1)) = false := by simp; omega
                clear EM1 hans
                go_wp2
                go_roundw
                case rel => exact ⟨d + 1, val_int (by omega), val_int (by rw [← HA.out]; omega), by omega, HL11.out⟩
                case measure => simp [intOf]; omega
          · have ed : d = 10 := by omega
            subst ed
            rw [show ((10 : Nat) : Int) = 10 from rfl]
            have zt : decide ((lk : Int) + 1 + 10 ≤ (lk : Int) + 10) = false := by simp; omega
            have zt2 : ¬ (lk : Int) + 1 + 10 ≤ (lk : Int) + 10 := by omega
            have OK10 : LOk ((lk : Int) + 10) (agL ag ans (lk : Int) mac 10) := by
              cases ag <;> cases ans
              · exact nkOk (by omega) (by omega) (by omega) (by omega)
              · exact nkOk (by omega) (by omega) (by omega) (by omega)
              · exact LOk.nil _
              · exact nkOk (by omega) (by omega) (by omega) (by omega)
            obtain ⟨r, hr⟩ : ∃ r, r = fd i2 6 ((lk : Int) + 10) (agL ag ans (lk : Int) mac 10) := ⟨_, rfl⟩
            have nkE : ∀ since asked : Int, (fd i2 6 ((lk : Int) + 10) [nk mac since asked]).err = 0 := fun since asked => by
              have e : fd i2 6 ((lk : Int) + 10) [nk mac since asked] = if (2 : Int) = 2 ∧ 64 ≤ ((lk : Int) + 10) - since then ⟨mac, [], true, 0, [⟨i2, 3, mac, since, (lk : Int) + 10, 1, []⟩]⟩ else ⟨mac, [], false, 0, [nk mac since asked]⟩ := rfl
              rw [e]
              split <;> rfl
            have E0 : Hid (¬ (ag = true ∧ ans = false) → r.err = 0) := fun hne => by
              rw [hr]
              cases ag <;> cases ans
              · exact nkE _ _
              · exact nkE _ _
              · exact absurd ⟨rfl, rfl⟩ hne
              · exact nkE _ _
            have E1 : Hid (ag = true ∧ ans = false → r.err = 80 ∧ (pnd r.L).length = 1) := fun he => by
              obtain ⟨rfl, rfl⟩ := he
              rw [hr]
              exact ⟨rfl, rfl⟩
            have OKr : Hid (LOk ((lk : Int) + 10) r.L) := by unfold Hid; rw [hr]; exact OK10.fd (by omega) _ _
            go_wp2_with fail
            refine (ip_any 2 _).mono ?_
            rintro _ w11 ⟨rfl, b11⟩
            have FD := hide ((HL.out.later b11).find ((lk : Int) + 10) 6 OK10 (by omega) i2)
            rw [← hr] at FD
            obtain ⟨ak, hak⟩ : ∃ ak : Nat, ak = if r.ask = true then 1 else 0 := ⟨_, rfl⟩
            rw [← hak] at FD
            clear hak
            simp only [i2, I4.val] at FD
            simp only [I4.val]
            obtain ⟨er, her⟩ : ∃ er, er = r.err := ⟨_, rfl⟩
            rw [← her] at FD E0 E1
            clear OK10 hr nkE b11 HL her
            go_wp2_with fail
            refine FD.out.mono ?_
            rintro _ w12 ⟨ga, gc, aa, ac, rfl, L12⟩
            have HL12 := hide (L12.later ((Below.refl _ w12).alloc (Nat.le_refl _) (.cells #[.int .u8 r.mac.a, .int .u8 r.mac.b, .int .u8 r.mac.c, .int .u8 r.mac.d, .int .u8 r.mac.e, .int .u8 r.mac.f] 23)))
            have FE := hide (FE0.out _ HL12.out.below)
            simp only [M6.val]
            clear FD L12
            cases ag with
            | false =>
              have e64 : (lk : Int) < 64 := by have := HAG.out; simp at this; omega
              have ee := E0.out (by simp)
              subst ee
              have en : (agN false ans 10 : Int) = 0 := by cases ans <;> rfl
              rw [en]
              clear en
              go_wp2
              go_ret
              exact ⟨rfl, FE.out⟩
            | true =>
              have e64 : ¬ (lk : Int) < 64 := by have := HAG.out; simp at this; omega
              cases ans with
              | true =>
                have ee := E0.out (by simp)
                subst ee
                have en : (agN true true 10 : Int) = 1 := rfl
                rw [en]
                clear en
                go_wp2
                go_ret
                exact ⟨rfl, FE.out⟩
              | false =>
                obtain ⟨ee, ep⟩ := E1.out ⟨rfl, rfl⟩
                subst ee
                have PN := hide (HL12.out.pending OKr.out)
                rw [ep] at PN
                clear ep
                have en : (agN true false 10 : Int) = 3 := rfl
                rw [en]
                clear en
                go_wp2_with fail
                refine PN.out.mono ?_
                rintro _ w13 ⟨pa, pc, rfl, L13⟩
                have FE2 := hide (FE0.out _ L13.below)
                clear L13 PN
                go_wp2
                go_ret
                exact ⟨rfl, FE2.out⟩
theorem Ages_row (mac : M6) (lt : Int) (ans : Bool) (w : World) (_ : mac.Ok) (_ : -9223372036854775808 ≤ lt) (_ : lt ≤ 9223372036854775807) : Calls Try.prog 7 #[mac.val, .int .i64 lt, .bool ans] w fun e w' => e = .returned (.bool true) ∧ Below w.heap.size w w' := Ages_walk mac lt ans w
end Go.Proofs.Ytjlifckkmkimcaa
