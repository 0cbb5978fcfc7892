
/-
  WheelSteps: its walk.
-/
import Derived.Test.YtglbobobifejmaaQTw
import Derived.Deep.QuietTactic
import Derived.BigQuiet
namespace Go.Proofs.Ytglbobobifejmaa
open Go.RowKit

theorem zero100 (w : World) : Sem.run Try.prog (zeroValue 47) w = .ok (.agg ((List.range 100).map (fun _ => Value.int .i64 0)).toArray) w := by kernel_rfl
theorem out_lenS {L O : List (Int × Int)} {t : Int} (h : OutOf L t O) (hu : L.Pairwise (fun p q => p.1 ≠ q.1)) : O.length ≤ L.length := by
  have := len_of_ids (h.uniq2 hu) hu h.both
  rw [List.length_append] at this
  omega

set_option maxRecDepth 100000 in
set_option maxHeartbeats 16000000 in
theorem Steps_walk (now : Int) (v : Value) (l : List OpW) (far : Int) (W : World) (hn1 : -9223372036854775808 ≤ now) (hn2 : now ≤ 9223372036854775807) (hI : IsO W.heap.size W v l) (hl : l.length ≤ 4398046510976) (hf1 : -9223372036854775808 ≤ far) (hf2 : far ≤ 9223372036854775807) :
    Calls Try.prog 4 #[.int .i64 now, v, .int .i64 far] W fun e W' => e = .returned (.bool true) ∧ Below W.heap.size W W' := by
  have HI := hide hI
  obtain ⟨a, cap, rfl, _⟩ := hI
  obtain ⟨Z, hZ⟩ : ∃ Z : Array Value, Z = ((List.range 100).map (fun _ => Value.int .i64 0)).toArray := ⟨_, rfl⟩
  have hz := zero100
  rw [← hZ] at hz
  have HZ := hide hZ
  clear hZ
  go_enter Try.func4, Try.ntmps4
  go_wp2_with fail
  refine (awake_any W).mono ?_
  rintro e w1 ⟨rfl, hb1⟩
  have B1 := hide hb1
  clear hb1
  by_cases c1 : now < 0
  · go_wp2
    go_ret
    exact ⟨rfl, B1.out⟩
  by_cases c2 : 549755813888 < now
  · go_wp2
    go_ret
    exact ⟨rfl, B1.out⟩
  by_cases c3 : far < 0
  · go_wp2
    go_ret
    exact ⟨rfl, B1.out⟩
  by_cases c4 : 300 < far
  · go_wp2
    go_ret
    exact ⟨rfl, B1.out⟩
  have hne : neBad now = false := by unfold neBad; rw [decide_eq_false (by omega), decide_eq_false (by omega)]; rfl
  have NW : Hid (∀ w, Calls Try.prog 8 #[.int .i64 now] w fun e w' => e = .returned (.tuple #[.pointer (some ⟨w.heap.size, 0, none⟩), .int .i64 0]) ∧ On w.heap.size w' w.heap.size now [] ∧ Below w.heap.size w w') := fun w => On.new w now hne
  clear hne
  go_wp2_with fail
  refine (NW.out w1).mono ?_
  rintro e w2 ⟨rfl, o2, b2⟩
  go_wp2_with fail
  refine (NW.out w2).mono ?_
  rintro e w3 ⟨rfl, o3, b3⟩
  obtain ⟨n, hn⟩ : ∃ n, W.heap.size = n := ⟨_, rfl⟩
  have T0 := Twin.new (n := n) (by rw [← hn]; exact B1.out.size) o2 o3 b3
  have B3 : Below n W w3 := by
    rw [← hn]
    exact (B1.out.trans (b2.mono B1.out.size)).trans (b3.mono (Nat.le_trans B1.out.size b2.size))
  obtain ⟨b, hb⟩ : ∃ b, w1.heap.size = b := ⟨_, rfl⟩
  obtain ⟨c, hc⟩ : ∃ c, w2.heap.size = c := ⟨_, rfl⟩
  have n3 : n ≤ w3.heap.size := by rw [← hn]; exact Nat.le_trans B1.out.size (Nat.le_trans b2.size b3.size)
  obtain ⟨gd, hgd⟩ : ∃ g, w3.heap.size = g := ⟨_, rfl⟩
  rw [hb, hc, hgd] at T0
  rw [hb, hc]
  rw [hn] at HI
  have ngd : n ≤ gd := by rw [← hgd]; exact n3
  have HN := hide hn
  have S0 : Hid (Twin (fun g => n ≤ g ∧ g ≠ gd) (w3.alloc (.cells Z 47)) b c now [] now [] none ∧ Arr (w3.alloc (.cells Z 47)) gd 100 (fun _ => 0) ∧ Below n W (w3.alloc (.cells Z 47))) := by
    refine ⟨T0.but (J := fun _ => False) ((But.refl _ _).alloc _) (fun _ e => e.elim), ?_, B3.trans ((Below.refl _ w3).alloc n3 _)⟩
    rw [HZ.out, ← hgd]; exact arr_new w3 100 _
  clear o2 b2 o3 b3 T0 B3 n3 NW B1 hb hc hn
  go_wp2
  clear hgd
  go_loopw [13] (fun vi wr => ∃ (i : Nat) (L : List (Int × Int)) (d : Nat → Int), vi = .int .i64 (i : Int) ∧ i ≤ l.length ∧ Hid (Twin (fun g => n ≤ g ∧ g ≠ gd) wr b c now L now L none) ∧ Hid (Arr wr gd 100 d) ∧ Hid (Tb L 100 d) ∧ Hid (∀ p ∈ L, now < p.2) ∧ Hid (Below n W wr)) (fun vi _ => l.length - (intOf vi).toNat)
  case atStart => exact ⟨0, [], _, rfl, Nat.zero_le _, S0.out.1, S0.out.2.1, Tb.nil 100, (fun _ h => by cases h), S0.out.2.2⟩
  case round =>
    clear S0
    obtain ⟨i, L, d, rfl, hi, H, HA, HT, HP, HB⟩ := hrel
    have NS : Hid (∀ X : World, But (fun g => n ≤ g ∧ g ≠ gd) wr X → ∀ g, X.heap.size ≤ g → n ≤ g ∧ g ≠ gd) := fun X hX g hg => by have := HA.out.lt; have := hX.size; omega
    have BL : Hid (∀ X : World, But (fun g => n ≤ g ∧ g ≠ gd) wr X → Below n W X ∧ Arr X gd 100 d) := fun X hX => ⟨HB.out.trans (hX.below (Nat.le_trans ngd (Nat.le_of_lt HA.out.lt)) (fun g hg e => by omega)), HA.out.but hX (fun e => e.2 rfl)⟩
    by_cases hlt : i < l.length
    · obtain ⟨a', cap', e', hc, hr⟩ := HI.out.below HB.out
      simp only [Value.slice.injEq] at e'
      obtain ⟨rfl, _, rfl⟩ := e'
      obtain ⟨gl, off, rfl, hgl, hcs⟩ := hc (by omega)
      obtain ⟨⟨kd, oi, oa, on⟩, hx⟩ : ∃ o, l[i]? = some o := ⟨l[i], List.getElem?_eq_getElem hlt⟩
      obtain ⟨q0, q1, q2, q3⟩ := hcs i _ hx
      simp only at q0 q1 q2 q3
      clear hcs hc hx hr q3 hgl
      by_cases hneg : oi.tmod 100 < 0
      · go_wp2
        go_roundw
        case rel => exact ⟨i + 1, L, d, by go_num, by omega, H.out, HA.out, HT.out, HP.out, HB.out⟩
        case measure => simp [intOf]; omega
      · have m1 := Int.tmod_lt_of_pos oi (show (0 : Int) < 100 by omega)
        have m2 := Int.tmod_lt_of_pos oa (show (0 : Int) < 400 by omega)
        have m3 := Int.lt_tmod_of_pos oa (show (0 : Int) < 400 by omega)
        obtain ⟨k, hk⟩ : ∃ k : Nat, oi.tmod 100 = (k : Int) := ⟨(oi.tmod 100).toNat, by omega⟩
        obtain ⟨t, ht⟩ : ∃ t, now + oa.tmod 400 = t := ⟨_, rfl⟩
        have E1 := hide hk
        have E2 : Hid (wrap64 (now + oa.tmod 400) = t) := by show _ = _; rw [wrapIn _ (by omega), ht]
        have k100 : k < 100 := by omega
        have zk : (k : Int) < 100 := by omega
        have t1 : t < now + 400 := by omega
        clear m1 m2 m3 hk ht
        by_cases k1 : kd = 1
        · subst k1
          have hh := HT.out.has H.out.uniq k k100
          obtain ⟨ce, hce⟩ : ∃ x, (if has L (k : Int) = true then (0 : Int) else 7) = x := ⟨_, rfl⟩
          have X1 := H.out.cancel (k : Int)
          rw [hce] at X1
          have X2 : Hid (∀ X, Twin (fun g => n ≤ g ∧ g ≠ gd) X b c now (noId L (k : Int)) now L none → Calls Try.prog 13 #[.pointer (some ⟨c, 0, none⟩), .int .i64 (k : Int)] X fun e w' => e = .returned (.int .i64 ce) ∧ Twin (fun g => n ≤ g ∧ g ≠ gd) w' c b now (noId L (k : Int)) now (noId L (k : Int)) none ∧ But (fun g => n ≤ g ∧ g ≠ gd) X w') := fun X h => by
            have := h.swap.cancel (k : Int)
            rw [hce] at this
            exact this
          have HX1 := hide X1
          have HCE := hide hce
          have HH := hide hh
          clear X1 hce hh
          go_wp2_with fail
          rw [E1.out, E2.out]
          refine HX1.out.mono ?_
          rintro e w4 ⟨rfl, h4, b4⟩
          go_wp2_with fail
          refine (X2.out _ h4).mono ?_
          rintro e w5 ⟨rfl, h5, b5⟩
          have b45 := b4.trans b5
          obtain ⟨e5, a5⟩ := BL.out _ b45
          have x0 := a5.c k k100
          have x1 := a5.f k
          have FIN : Hid (Twin (fun g => n ≤ g ∧ g ≠ gd) (w5.setCell ⟨gd, k, none⟩ (.int .i64 0)) b c now (noId L (k : Int)) now (noId L (k : Int)) none ∧ Arr (w5.setCell ⟨gd, k, none⟩ (.int .i64 0)) gd 100 (upd d k 0) ∧ Tb (noId L (k : Int)) 100 (upd d k 0) ∧ (∀ p ∈ noId L (k : Int), now < p.2) ∧ Below n W (w5.setCell ⟨gd, k, none⟩ (.int .i64 0))) :=
            ⟨h5.swap.but (but_set _ _ _ _) (fun g (e : g = gd) q => q.2 e), a5.set k k100 0, HT.out.cancel k, fun p hp => HP.out p (List.mem_filter.1 hp).1, e5.trans ((but_set w5 gd k _).below (Nat.le_trans ngd (Nat.le_of_lt a5.lt)) (fun g hg (e : g = gd) => by omega))⟩
          obtain ⟨x, hxk⟩ : ∃ x, d k = x := ⟨_, rfl⟩
          have HC2 := HCE.out
          rw [HH.out] at HC2
          have hx0 : d k = 0 ∨ 0 < d k := by
            rcases Classical.em (d k = 0) with q | q
            · exact .inl q
            · exact .inr (HT.out.pos k100 q)
          rw [hxk] at x0 HC2 hx0
          clear h4 b4 h5 b5 b45 e5 a5 HX1 X2 HCE HH hxk H HA HT HP HB NS BL q0 q1 q2
          rcases hx0 with rfl | hx0
          · rw [if_neg (by decide)] at HC2
            subst HC2
            go_wp2
            go_roundw
            case rel => exact ⟨i + 1, _, _, by go_num, by omega, FIN.out.1, FIN.out.2.1, FIN.out.2.2.1, FIN.out.2.2.2.1, FIN.out.2.2.2.2⟩
            case measure => simp [intOf]; omega
          · rw [if_pos (by simpa using hx0)] at HC2
            subst HC2
            go_wp2
            go_roundw
            case rel => exact ⟨i + 1, _, _, by go_num, by omega, FIN.out.1, FIN.out.2.1, FIN.out.2.2.1, FIN.out.2.2.2.1, FIN.out.2.2.2.2⟩
            case measure => simp [intOf]; omega
        · obtain ⟨ae, hae⟩ : ∃ x, arE now L (k : Int) t = x := ⟨_, rfl⟩
          obtain ⟨L', hL'⟩ : ∃ x, arL now L (k : Int) t = x := ⟨_, rfl⟩
          have X1 := H.out.arm (NS.out _ (But.refl _ _)) c1 (k : Int) t
          rw [hae, hL'] at X1
          have X2 : Hid (∀ X, But (fun g => n ≤ g ∧ g ≠ gd) wr X → Twin (fun g => n ≤ g ∧ g ≠ gd) X b c now L' now L none → Calls Try.prog 11 #[.pointer (some ⟨c, 0, none⟩), .int .i64 (k : Int), .int .i64 t] X fun e w' => e = .returned (.int .i64 ae) ∧ Twin (fun g => n ≤ g ∧ g ≠ gd) w' c b now L' now L' none ∧ But (fun g => n ≤ g ∧ g ≠ gd) X w') := fun X hX h => by
            have := h.swap.arm (NS.out _ hX) c1 (k : Int) t
            rw [hae, hL'] at this
            exact this
          have HX1 := hide X1
          have HAE := hide hae
          have HLL := hide hL'
          clear X1 hae hL'
          go_wp2_with fail
          rw [E1.out, E2.out]
          refine HX1.out.mono ?_
          rintro e w4 ⟨rfl, h4, b4⟩
          go_wp2_with fail
          refine (X2.out _ b4 h4).mono ?_
          rintro e w5 ⟨rfl, h5, b5⟩
          have b45 := b4.trans b5
          obtain ⟨e5, a5⟩ := BL.out _ b45
          by_cases h0 : ae = 0
          · subst h0
            have x0 := a5.c k k100
            have x1 := a5.f k
            have e0 := HAE.out
            have lt : now < t := by
              unfold arE at e0
              split at e0
              · cases e0
              · rename_i q
                unfold arBad at q
                simp only [Bool.or_eq_true, decide_eq_true_eq, not_or] at q
                omega
            have eL : L' = noId L (k : Int) ++ [((k : Int), t)] := by rw [← HLL.out, arL, e0, if_pos rfl]
            have FIN : Hid (Twin (fun g => n ≤ g ∧ g ≠ gd) (w5.setCell ⟨gd, k, none⟩ (.int .i64 t)) b c now L' now L' none ∧ Arr (w5.setCell ⟨gd, k, none⟩ (.int .i64 t)) gd 100 (upd d k t) ∧ Tb L' 100 (upd d k t) ∧ (∀ p ∈ L', now < p.2) ∧ Below n W (w5.setCell ⟨gd, k, none⟩ (.int .i64 t))) := by
              refine ⟨h5.swap.but (but_set _ _ _ _) (fun g (e : g = gd) q => q.2 e), a5.set k k100 t, by rw [eL]; exact HT.out.arm k k100 t (by omega), fun p hp => ?_, e5.trans ((but_set w5 gd k _).below (Nat.le_trans ngd (Nat.le_of_lt a5.lt)) (fun g hg (e : g = gd) => by omega))⟩
              rw [eL] at hp
              rcases List.mem_append.1 hp with q | q
              · exact HP.out p (List.mem_filter.1 q).1
              · simp only [List.mem_cons, List.not_mem_nil, or_false] at q; rw [q]; exact lt
            clear h4 b4 h5 b5 b45 e5 a5 HX1 X2 HAE HLL H HA HT HP HB NS BL q0 q1 q2 e0 eL
            go_wp2
            go_roundw
            case rel => exact ⟨i + 1, _, _, by go_num, by omega, FIN.out.1, FIN.out.2.1, FIN.out.2.2.1, FIN.out.2.2.2.1, FIN.out.2.2.2.2⟩
            case measure => simp [intOf]; omega
          · have hb0 : (ae == 0) = false := by rw [beq_eq_false_iff_ne]; exact h0
            have eL : L' = L := by rw [← HLL.out, arL, HAE.out, if_neg h0]
            subst eL
            have FIN : Hid (Twin (fun g => n ≤ g ∧ g ≠ gd) w5 b c now L' now L' none ∧ Arr w5 gd 100 d ∧ Below n W w5) := ⟨h5.swap, a5, e5⟩
            clear h4 b4 h5 b5 b45 e5 a5 HX1 X2 HAE HLL H HA HB NS BL q0 q1 q2
            go_wp2
            go_roundw
            case rel => exact ⟨i + 1, _, _, by go_num, by omega, FIN.out.1, FIN.out.2.1, HT.out, HP.out, FIN.out.2.2⟩
            case measure => simp [intOf]; omega
    · obtain rfl : i = l.length := by omega
      obtain ⟨tE, htE⟩ : ∃ t, now + far = t := ⟨_, rfl⟩
      have AD := hide (H.out.adv tE (by unfold adBad; rw [decide_eq_false (by omega), decide_eq_false (by omega)]; rfl))
      go_wp2_with fail
      refine AD.out.mono ?_
      rintro e w4 ⟨O, va, rfl, o1, row, _, h4', b4⟩
      have h4 := h4' trivial
      have b4 : But (fun g => n ≤ g ∧ g ≠ gd) wr w4 := b4.mono (fun g e => e.1)
      obtain ⟨e4, a4⟩ := BL.out _ b4
      have O1 := hide o1
      have LO : O.length ≤ 64 := Nat.le_trans (out_lenS o1 H.out.uniq) H.out.len64
      have GV : Hid (∀ k, va.ownBlock = some k → k ≠ gd) := fun k hk e => by have := (row_own_ge row k hk).1; have := HA.out.lt; omega
      have R4 : Hid (RowL w4 va O) := by
        refine ⟨row.1, ?_⟩
        rcases row.2 with q | ⟨g, cap, cur, q⟩
        · exact .inl q
        · exact .inr ⟨g, cap, cur, q.1, Nat.zero_le _, q.2.2⟩
      have sL : stay L (now + ((0 : Nat) : Int)) = L := List.filter_eq_self.2 (fun p hp => by have := HP.out p hp; simp; omega)
      have S4 : Hid (Twin (fun g => n ≤ g ∧ g ≠ gd) w4 b c tE (stay L tE) (now + ((0 : Nat) : Int)) (stay L (now + ((0 : Nat) : Int))) va.ownBlock ∧ Tb (stay L (now + ((0 : Nat) : Int))) 100 d ∧ O.drop 0 = O.filter (fun p => decide (now + ((0 : Nat) : Int) < p.2))) := by
        rw [sL]
        refine ⟨by rw [show now + ((0 : Nat) : Int) = now by omega]; exact h4, HT.out, ?_⟩
        exact (List.filter_eq_self.2 (fun p hp => by have := HP.out p ((o1.mem p).1 hp).1; simp; omega)).symm
      have HE4 := hide e4
      have HA4 := hide a4
      obtain ⟨av, cv, eva, hav⟩ := R4.out.shape
      subst eva
      clear h4' h4 b4 e4 a4 o1 row sL AD H HA HT HP HB NS BL
      go_wp2
      go_loopw [22, 23] (fun vk vt wr => ∃ (k T : Nat) (d : Nat → Int), vk = .int .i64 (k : Int) ∧ vt = .int .i64 ((T : Int) + 1) ∧ (T : Int) ≤ far ∧ k ≤ O.length ∧ Hid (Twin (fun g => n ≤ g ∧ g ≠ gd) wr b c tE (stay L tE) (now + (T : Int)) (stay L (now + (T : Int))) (Value.slice av O.length cv).ownBlock) ∧ Hid (Arr wr gd 100 d) ∧ Hid (Tb (stay L (now + (T : Int))) 100 d) ∧ Hid (RowL wr (.slice av O.length cv) O) ∧ Hid (O.drop k = O.filter (fun p => decide (now + (T : Int) < p.2))) ∧ Hid (Below n W wr)) (fun _ vt _ => (far + 1 - intOf vt).toNat)
      case atStart => exact ⟨0, 0, d, rfl, rfl, by omega, Nat.zero_le _, S4.out.1, HA4.out, S4.out.2.1, R4.out, S4.out.2.2, HE4.out⟩
      case round =>
        clear S4 R4 HE4 HA4 d
        obtain ⟨k, T, d, rfl, rfl, hT, hk, H, HA, HT, HR, HK, HB⟩ := hrel
        by_cases hlt : (T : Int) + 1 ≤ far
        · obtain ⟨t, ht⟩ : ∃ t, now + ((T : Int) + 1) = t := ⟨_, rfl⟩
          have et : now + (T : Int) + 1 = t := by omega
          have AD := hide (H.out.swap.adv t (by unfold adBad; rw [decide_eq_false (by omega), decide_eq_false (by omega)]; rfl))
          go_wp2_with fail
          refine AD.out.mono ?_
          rintro e w5 ⟨O', vs, rfl, o5, row5, h5, _, b5⟩
          have b5' : But (fun g => n ≤ g ∧ g ≠ gd) wr w5 := b5.mono (fun g e => e.1)
          have A5 := hide (HA.out.but b5' (fun e => e.2 rfl))
          have B5 : Hid (Below n W w5) := HB.out.trans (b5'.below (Nat.le_trans ngd (Nat.le_of_lt HA.out.lt)) (fun g hg e => by omega))
          have R5 := hide (HR.out.keep b5 (fun g hg e => e.2 hg))
          have ss := stay_stay L (now + (T : Int)) t (by omega)
          have T5 : Hid (Tb (O' ++ stay L t) 100 d) := by
            have := HT.out.of o5.both
            rw [ss] at this
            exact this
          have U5 : Hid ((O' ++ stay L t).Pairwise (fun p q => p.1 ≠ q.1)) := by
            have := o5.uniq2 H.out.swap.uniq
            rw [ss] at this
            exact this
          rw [ss] at h5
          have H5 := hide h5
          have N5 : Hid (O.drop k = O' ++ O.filter (fun p => decide (t < p.2))) := by
            show _ = _
            rw [HK.out, ← et]
            rw [← et] at o5
            exact one_tick O1.out o5 (by omega)
          have AL : Hid (∀ p ∈ O', p.2 = t) := fun p hp => by
            rw [← et] at o5 ⊢
            exact one_tick_all o5 p hp
          have GS : Hid (∀ k, vs.ownBlock = some k → k ≠ gd) := fun k hk e => by have := (row_own_ge row5 k hk).1; have := HA.out.lt; omega
          have V5 : Hid (RowL w5 vs O') := by
            refine ⟨row5.1, ?_⟩
            rcases row5.2 with q | ⟨g, cap, cur, q⟩
            · exact .inl q
            · exact .inr ⟨g, cap, cur, q.1, Nat.zero_le _, q.2.2⟩
          obtain ⟨sv, cs, evs, hsv⟩ := V5.out.shape
          subst evs
          have lk : k + O'.length ≤ O.length := by
            have := congrArg List.length N5.out
            rw [List.length_drop, List.length_append] at this
            omega
          clear h5 b5 b5' o5 row5 ss AD H HA HT HR HK HB
          go_wp2
          go_loopw [22, 26] (fun vk vi wq => ∃ (i kk : Nat) (d : Nat → Int), vk = .int .i64 (kk : Int) ∧ Hid (kk = k + i) ∧ vi = .int .i64 (i : Int) ∧ i ≤ O'.length ∧ Hid (Twin (fun g => n ≤ g ∧ g ≠ gd) wq c b t (stay L t) tE (stay L tE) (Value.slice av O.length cv).ownBlock) ∧ Hid (Arr wq gd 100 d) ∧ Hid (Tb (O'.drop i ++ stay L t) 100 d) ∧ Hid (RowL wq (.slice av O.length cv) O) ∧ Hid (RowL wq (.slice sv O'.length cs) O') ∧ Hid (Below n W wq)) (fun _ vi _ => O'.length - (intOf vi).toNat)
          case atStart => exact ⟨0, k, d, rfl, rfl, rfl, Nat.zero_le _, H5.out, A5.out, T5.out, R5.out, V5.out, B5.out⟩
          case round =>
            clear H5 A5 T5 R5 V5 B5 d
            obtain ⟨i, kk, d, rfl, KK, rfl, hi, H, HA, HT, HR, HV, HB⟩ := hrel
            by_cases hlt3 : i < O'.length
            · obtain ⟨gs, rfl⟩ := hsv (by omega)
              obtain ⟨ga, rfl⟩ := hav (by omega)
              obtain ⟨⟨id, tm⟩, hp⟩ : ∃ o, O'[i]? = some o := ⟨O'[i], List.getElem?_eq_getElem hlt3⟩
              have hpa : O[kk]? = some (id, tm) := by
                rw [KK.out, ← List.getElem?_drop, N5.out, List.getElem?_append_left hlt3]; exact hp
              obtain ⟨q0, q1⟩ := HV.out.at hp
              obtain ⟨p0, p1⟩ := HR.out.at hpa
              have etm : tm = t := AL.out _ (List.mem_of_getElem? hp)
              have ed : O'.drop i = (id, tm) :: O'.drop (i + 1) := by
                rw [List.drop_eq_getElem_cons hlt3]
                rw [List.getElem?_eq_getElem hlt3] at hp
                rw [Option.some.inj hp]
              have hT2 := HT.out
              rw [ed] at hT2
              obtain ⟨j, j100, ej, jp⟩ := hT2.mem (id, tm) (by simp)
              simp only [Prod.mk.injEq] at ej
              obtain ⟨rfl, ej2⟩ := ej
              have x0 := HA.out.c j j100
              have x1 := HA.out.f j
              have dj : d j = t := by rw [← ej2]; exact etm
              have U2 : ((((j : Int), tm) :: O'.drop (i + 1)) ++ stay L t).Pairwise (fun p q => p.1 ≠ q.1) := by
                rw [← ed]
                exact U5.out.sublist (List.Sublist.append (List.drop_sublist _ _) (List.Sublist.refl _))
              have T' : Hid (Tb (O'.drop (i + 1) ++ stay L t) 100 (upd d j 0)) := by
                have := hT2.cancel j
                rw [show noId ((((j : Int), tm) :: O'.drop (i + 1)) ++ stay L t) (j : Int) = O'.drop (i + 1) ++ stay L t from noId_head U2] at this
                exact this
              have FIN : Hid (∀ W1, But (fun _ => False) wr W1 → Twin (fun g => n ≤ g ∧ g ≠ gd) (W1.setCell ⟨gd, j, none⟩ (.int .i64 0)) c b t (stay L t) tE (stay L tE) (Value.slice (some ⟨ga, 0, none⟩) O.length cv).ownBlock ∧ Arr (W1.setCell ⟨gd, j, none⟩ (.int .i64 0)) gd 100 (upd d j 0) ∧ RowL (W1.setCell ⟨gd, j, none⟩ (.int .i64 0)) (.slice (some ⟨ga, 0, none⟩) O.length cv) O ∧ RowL (W1.setCell ⟨gd, j, none⟩ (.int .i64 0)) (.slice (some ⟨gs, 0, none⟩) O'.length cs) O' ∧ Below n W (W1.setCell ⟨gd, j, none⟩ (.int .i64 0))) := fun W1 hb => by
                have a1 := HA.out.but hb (fun e => e)
                refine ⟨(H.out.but hb (fun _ e => e.elim)).but (but_set _ _ _ _) (fun g (e : g = gd) q => q.2 e), a1.set j j100 0, ?_, ?_, ?_⟩
                · exact (HR.out.keep hb (fun _ _ e => e)).keep (but_set W1 gd j _) (fun q hq (e : q = gd) => GV.out q hq e)
                · exact (HV.out.keep hb (fun _ _ e => e)).keep (but_set W1 gd j _) (fun q hq (e : q = gd) => GS.out q hq e)
                · exact (HB.out.trans (hb.below (Nat.le_trans ngd (Nat.le_of_lt HA.out.lt)) (fun _ _ e => e))).trans ((but_set W1 gd j _).below (Nat.le_trans ngd (Nat.le_of_lt a1.lt)) (fun g hg (e : g = gd) => by omega))
              have zkk : (kk : Int) < (O.length : Int) := by have := KK.out; omega
              have r0 : decide ((O.length : Int) ≤ (kk : Int)) = false := decide_eq_false (by omega)
              have r0n : decide (O.length ≤ kk) = false := decide_eq_false (by omega)
              have r1 : decide ((j : Int) < 0) = false := decide_eq_false (by omega)
              have r2 : decide ((99 : Int) < (j : Int)) = false := decide_eq_false (by omega)
              have zj : (j : Int) < 100 := by omega
              have zi : (i : Int) < (O'.length : Int) := by omega
              rw [dj] at x0
              subst etm
              clear hT2 U2 ed hp hpa H HA HT HR HV HB jp ej2 dj N5 AL hav hsv
              go_wp2
              go_quiet (fail)
              go_wp2
              go_roundw
              case rel =>
                obtain ⟨f1, f2, f3, f4, f5⟩ := FIN.out _ (drewN_but _ wr nq)
                exact ⟨i + 1, kk + 1, _, by go_num, (by have := KK.out; show kk + 1 = k + (i + 1); omega), by go_num, by omega, f1, f2, T'.out, f3, f4, f5⟩
              case measure => simp [intOf]; omega
            · obtain rfl : i = O'.length := by omega
              have FIN : Hid (Tb (stay L t) 100 d) := by
                have := HT.out
                rw [List.drop_of_length_le (Nat.le_refl _), List.nil_append] at this
                exact this
              have FK : Hid (O.drop (k + O'.length) = O.filter (fun p => decide (t < p.2))) := by
                show _ = _
                rw [← List.drop_drop, N5.out, List.drop_left]
              have HS := hide H.out.swap
              have ET : Hid (now + ((T + 1 : Nat) : Int) = t) := by show _ = _; omega
              clear H HT N5 AL
              go_wp2
              go_roundw
              case rel => exact ⟨kk, T + 1, d, rfl, by go_num, by omega, (by rw [KK.out]; exact lk), (by rw [ET.out]; exact HS.out), HA.out, (by rw [ET.out]; exact FIN.out), HR.out, (by rw [ET.out, KK.out]; exact FK.out), HB.out⟩
              case measure => simp [intOf]; omega
        · have eT : now + (T : Int) = tE := by omega
          have T5 := HT.out
          rw [eT] at T5
          have h1 := H.out
          rw [eT] at h1
          have hK := HK.out
          rw [eT, List.filter_eq_nil_iff.2 (fun p hp => by have := ((O1.out.mem p).1 hp).2; simp; omega)] at hK
          obtain rfl : k = O.length := by
            have := congrArg List.length hK
            rw [List.length_drop] at this
            simp only [List.length_nil] at this
            omega
          have LN1 := h1.len
          have LN2 := h1.swap.len
          rw [T5.len h1.uniq] at LN1 LN2
          have HL1 := hide LN1
          have HL2 := hide LN2
          have HC := hide HA.out.c
          have D0 : Hid (∀ k, k < 100 → d k = 0 ∨ 0 < d k) := fun k hk => by
            rcases Classical.em (d k = 0) with q | q
            · exact .inl q
            · exact .inr (T5.pos hk q)
          clear T5 h1 hK LN1 LN2 H HA HT HR HK
          go_wp2
          go_loopw [27, 28] (fun vl vi wq => ∃ (k : Nat), vl = .int .i64 (cnt d k : Int) ∧ vi = .int .i64 (k : Int) ∧ k ≤ 100 ∧ wr = wq) (fun _ vi _ => 100 - (intOf vi).toNat)
          case atStart => exact ⟨0, rfl, rfl, by omega, rfl⟩
          case round =>
            obtain ⟨k, rfl, rfl, hk, hw⟩ := hrel
            subst hw
            have ck := cnt_le d k
            by_cases h100 : k < 100
            · have x0 := HC.out k h100
              have cs : cnt d (k + 1) = cnt d k + if 0 < d k then 1 else 0 := rfl
              obtain ⟨x, hx⟩ : ∃ x, d k = x := ⟨_, rfl⟩
              rw [hx] at x0 cs
              rcases D0.out k h100 with q | q
              · rw [hx] at q
                subst q
                have cs := hide cs
                clear hx
                go_wp2
                go_roundw
                case rel => exact ⟨k + 1, by rw [cs.out, if_neg (by decide)]; rfl, by go_num, by omega, trivial⟩
                case measure => simp [intOf]; omega
              · rw [hx] at q
                rw [if_pos q] at cs
                have cs := hide cs
                clear hx
                go_wp2
                go_roundw
                case rel => exact ⟨k + 1, by rw [cs.out]; go_num, by go_num, by omega, trivial⟩
                case measure => simp [intOf]; omega
            · obtain rfl : k = 100 := by omega
              go_wp2_with fail
              refine HL1.out.mono ?_
              rintro e w9 ⟨rfl, rfl⟩
              clear HL1
              go_wp2_with fail
              refine HL2.out.mono ?_
              rintro e w9 ⟨rfl, rfl⟩
              clear HL2
              go_wp2
              go_ret
              exact ⟨rfl, by rw [HN.out]; exact HB.out⟩
end Go.Proofs.Ytglbobobifejmaa
