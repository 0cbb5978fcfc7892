
/-
  WheelOrder: its walk.
-/
import Derived.Test.YtglbobobifejmaaQTb
import Derived.Deep.QuietTactic
import Derived.BigQuiet
namespace Go.Proofs.Ytglbobobifejmaa
open Go.RowKit

theorem zero64 (w : World) : Sem.run Try.prog (zeroValue 51) w = .ok (.agg ((List.range 64).map (fun _ => Value.int .i64 0)).toArray) w := by kernel_rfl
theorem arr_new (w : World) (m : Nat) (e : TypeId) : Arr (w.alloc (.cells ((List.range m).map (fun _ => Value.int .i64 0)).toArray e)) w.heap.size m (fun _ => 0) := by
  refine ⟨by rw [World.size_alloc]; omega, fun i hi => ?_, fun i => frozen_of_row _ w.heap.size i _ e (heap_alloc_new w _)⟩
  rw [cell_of_row _ w.heap.size i _ e (0, 0) (heap_alloc_new w _), List.getElem?_toArray, List.getElem?_map, List.getElem?_range hi]
  rfl
theorem wrapIn (n : Int) (h : -9223372036854775808 ≤ n ∧ n ≤ 9223372036854775807) : wrap64 n = n := by unfold wrap64; omega
theorem modk (x m : Int) (h : 0 < m) (h2 : m ≤ 1000) : ∃ k : Nat, (k : Int) < m ∧ (wrap64 (x.tmod m + m)).tmod m = (k : Int) := by
  have b1 := Int.tmod_lt_of_pos x h
  have b2 := Int.lt_tmod_of_pos x h
  rw [wrapIn _ (by omega), Int.tmod_eq_emod_of_nonneg (by omega)]
  have b3 := Int.emod_lt_of_pos (x.tmod m + m) h
  have b4 := Int.emod_nonneg (x.tmod m + m) (show m ≠ 0 by omega)
  exact ⟨((x.tmod m + m) % m).toNat, by omega, by omega⟩
theorem drewN_but (J : Nat → Prop) (w : World) (n : Nat) : But J w (w.drewN n) := ⟨rfl, rfl, rfl, Nat.le_refl _, fun _ _ _ => rfl⟩
theorem OnK.dueT {K : Nat → Prop} {W : World} {b : Nat} {now : Int} {L : List (Int × Int)} {m : Nat} {d : Nat → Int} (h : OnK K W b now L) (ht : Tb L m d) (k : Nat) (hk : k < m) : Calls Try.prog 15 #[.pointer (some ⟨b, 0, none⟩), .int .i64 (k : Int)] W fun e w' => e = .returned (.tuple #[.int .i64 (d k), .bool (decide (0 < d k))]) ∧ OnK K w' b now L ∧ But K W w' := by
  have := h.due (k : Int)
  rw [(ht.due h.uniq k hk).1, (ht.due h.uniq k hk).2] at this
  exact this
theorem arE_tb {L : List (Int × Int)} {d : Nat → Int} {now : Int} (ht : Tb L 64 d) (hu : L.Pairwise (fun p q => p.1 ≠ q.1)) (k : Nat) (hk : k < 64) (t : Int) (h1 : now < t) (h2 : t ≤ 1099511627776) : arE now L (k : Int) t = 0 := by
  unfold arE arBad
  rw [decide_eq_false (by omega), decide_eq_false (by omega), decide_eq_false (by omega), if_neg (by simp), if_neg]
  rintro ⟨e1, e2⟩
  rw [ht.has hu k hk] at e1
  rw [ht.len hu] at e2
  have := cnt_lt (d := d) hk (by simpa using e1)
  omega
theorem arE_late {L : List (Int × Int)} {now : Int} (id t : Int) (h1 : t ≤ now) : arE now L id t = 1 := by
  unfold arE arBad
  rw [if_pos (by simp [h1])]
theorem On.toK {n m : Nat} {W : World} {b : Nat} {now : Int} {L : List (Int × Int)} (h : On m W b now L) (hnm : n ≤ m) : OnK (fun g => n ≤ g ∧ g ≠ W.heap.size) W b now L := by
  obtain ⟨ρ, hW, hk⟩ := h
  refine ⟨ρ, hW, fun g e => ⟨Nat.le_trans hnm (hk g e), fun q => ?_⟩⟩
  obtain ⟨V, SL, hA, _⟩ := hW
  have := hA.lt g e
  omega

set_option maxRecDepth 100000 in
set_option maxHeartbeats 8000000 in
theorem Order_walk (now : Int) (v : Value) (l : List OpW) (far : Int) (W : World) (hn1 : -9223372036854775808 ≤ now) (hn2 : now ≤ 9223372036854775807) (hI : IsO W.heap.size W v l) (hl : l.length ≤ 4398046510976) (hf1 : -9223372036854775808 ≤ far) (hf2 : far ≤ 9223372036854775807) :
    Calls Try.prog 5 #[.int .i64 now, v, .int .i64 far] W fun e W' => e = .returned (.bool true) ∧ Below W.heap.size W W' := by
  have HI := hide hI
  obtain ⟨a, cap, rfl, _⟩ := hI
  obtain ⟨Z, hZ⟩ : ∃ Z : Array Value, Z = ((List.range 64).map (fun _ => Value.int .i64 0)).toArray := ⟨_, rfl⟩
  have hz := zero64
  rw [← hZ] at hz
  have HZ := hide hZ
  clear hZ
  go_enter Try.func5, Try.ntmps5
  go_wp2_with fail
  refine (awake_any W).mono ?_
  rintro e w1 ⟨rfl, hb1⟩
  have B1 := hide hb1
  clear hb1
  by_cases c1 : now < 0
  · go_wp2
    go_ret
    exact ⟨rfl, B1.out⟩
  by_cases c2 : 549755813888 < now
  · go_wp2
    go_ret
    exact ⟨rfl, B1.out⟩
  by_cases c3 : far < 0
  · go_wp2
    go_ret
    exact ⟨rfl, B1.out⟩
  by_cases c4 : 500 < far
  · go_wp2
    go_ret
    exact ⟨rfl, B1.out⟩
  have hne : neBad now = false := by unfold neBad; rw [decide_eq_false (by omega), decide_eq_false (by omega)]; rfl
  have NW := hide (On.new w1 now hne)
  clear hne
  go_wp2_with fail
  refine NW.out.mono ?_
  rintro e w2 ⟨rfl, ho, hb2⟩
  obtain ⟨b, hb⟩ : ∃ b, w1.heap.size = b := ⟨_, rfl⟩
  obtain ⟨n, hn⟩ : ∃ n, W.heap.size = n := ⟨_, rfl⟩
  rw [hb] at ho hb2
  rw [hb]
  rw [hn] at HI
  have nb : n ≤ b := by rw [← hn, ← hb]; exact B1.out.size
  have B2 : Hid (Below n W w2) := by rw [← hn]; exact B1.out.trans (hb2.mono (by omega))
  have HN := hide hn
  have H2 := hide ho
  clear ho hb2 NW B1 hb hn
  have G0 : Hid (On b w2 b now [] ∧ n ≤ w2.heap.size) := ⟨H2.out, Nat.le_trans nb (Nat.le_of_lt H2.out.blt)⟩
  obtain ⟨gd, hgd⟩ : ∃ g, w2.heap.size = g := ⟨_, rfl⟩
  have HG := hide hgd
  have ngd : n ≤ gd := by rw [← hgd]; exact G0.out.2
  have S0 : Hid (OnK (fun g => n ≤ g ∧ g ≠ gd) (w2.alloc (.cells Z 51)) b now [] ∧ Arr (w2.alloc (.cells Z 51)) gd 64 (fun _ => 0) ∧ Below n W (w2.alloc (.cells Z 51))) := by
    refine ⟨?_, ?_, ?_⟩
    · have := (G0.out.1.toK nb).but (J := fun _ => False) ((But.refl _ _).alloc (.cells Z 51)) (fun _ e => e.elim)
      rw [hgd] at this; exact this
    · rw [HZ.out, ← hgd]; exact arr_new w2 64 _
    · exact B2.out.trans ((Below.refl _ w2).alloc G0.out.2 _)
  clear B2 H2 G0
  go_wp2
  clear hgd
  go_loopw [11] (fun vi wr => ∃ (i : Nat) (L : List (Int × Int)) (d : Nat → Int), vi = .int .i64 (i : Int) ∧ i ≤ l.length ∧ Hid (OnK (fun g => n ≤ g ∧ g ≠ gd) wr b now L) ∧ Hid (Arr wr gd 64 d) ∧ Hid (Tb L 64 d) ∧ Hid (Below n W wr)) (fun vi _ => l.length - (intOf vi).toNat)
  case atStart => exact ⟨0, [], _, rfl, Nat.zero_le _, S0.out.1, S0.out.2.1, Tb.nil 64, S0.out.2.2⟩
  case round =>
    clear S0
    obtain ⟨i, L, d, rfl, hi, H, HA, HT, HB⟩ := hrel
    have NS : Hid (∀ g, wr.heap.size ≤ g → n ≤ g ∧ g ≠ gd) := fun g hg => by have := HA.out.lt; omega
    by_cases hlt : i < l.length
    · obtain ⟨a', cap', e', hc, hr⟩ := HI.out.below HB.out
      simp only [Value.slice.injEq] at e'
      obtain ⟨rfl, _, rfl⟩ := e'
      obtain ⟨gl, off, rfl, hgl, hcs⟩ := hc (by omega)
      obtain ⟨⟨kd, oi, oa, on⟩, hx⟩ : ∃ o, l[i]? = some o := ⟨l[i], List.getElem?_eq_getElem hlt⟩
      obtain ⟨q0, q1, q2, q3⟩ := hcs i _ hx
      obtain ⟨_, r1, r2⟩ := hr _ (List.mem_of_getElem? hx)
      simp only at q0 q1 q2 q3 r1 r2
      have GL := hide hgl
      clear hcs hc hx hr q3
      obtain ⟨k, zk, hE1⟩ := modk oi 64 (by omega) (by omega)
      obtain ⟨k2, zk2, hE2⟩ := modk oa 400 (by omega) (by omega)
      obtain ⟨t, ht⟩ : ∃ t, now + (k2 : Int) = t := ⟨_, rfl⟩
      have E1 := hide hE1
      have E2 : Hid (wrap64 (now + (wrap64 (oa.tmod 400 + 400)).tmod 400) = t) := by show _ = _; rw [hE2, wrapIn _ (by omega), ht]
      have k64 : k < 64 := by omega
      have t1 : now ≤ t := by omega
      have t2 : t < now + 400 := by omega
      clear hE1 hE2 ht zk2 r1 r2
      go_wp2_with fail
      · rw [E1.out, E2.out]
        refine (H.out.cancel (k : Int)).mono ?_
        rintro e w3 ⟨rfl, h3, b3⟩
        generalize (if has L (k : Int) = true then (0 : Int) else 7) = ce
        have A3 := HA.out.but b3 (fun e => e.2 rfl)
        have x0 := A3.c k k64
        have x1 := A3.f k
        have B3 : Hid (Below n W w3) := HB.out.trans (b3.below (Nat.le_trans ngd (Nat.le_of_lt HA.out.lt)) (fun g hg e => by omega))
        have FIN : Hid (OnK (fun g => n ≤ g ∧ g ≠ gd) (w3.setCell ⟨gd, k, none⟩ (.int .i64 0)) b now (noId L (k : Int)) ∧ Arr (w3.setCell ⟨gd, k, none⟩ (.int .i64 0)) gd 64 (upd d k 0) ∧ Tb (noId L (k : Int)) 64 (upd d k 0) ∧ Below n W (w3.setCell ⟨gd, k, none⟩ (.int .i64 0))) :=
          ⟨h3.but (but_set _ _ _ _) (fun g (e : g = gd) q => q.2 e), A3.set k k64 0, HT.out.cancel k, B3.out.trans ((but_set w3 gd k _).below (Nat.le_trans ngd (Nat.le_of_lt A3.lt)) (fun g hg (e : g = gd) => by omega))⟩
        clear h3 b3 A3 B3 H HA HT HB NS q0 q1 q2
        go_wp2
        go_roundw
        case rel => exact ⟨i + 1, _, _, by go_num, by omega, FIN.out.1, FIN.out.2.1, FIN.out.2.2.1, FIN.out.2.2.2⟩
        case measure => simp [intOf]; omega
      · rw [E1.out, E2.out]
        refine (H.out.arm NS.out c1 (k : Int) t).mono ?_
        rintro e w3 ⟨rfl, h3, b3⟩
        have A3 := HA.out.but b3 (fun e => e.2 rfl)
        have B3 : Hid (Below n W w3) := HB.out.trans (b3.below (Nat.le_trans ngd (Nat.le_of_lt HA.out.lt)) (fun g hg e => by omega))
        by_cases hgt : now < t
        · have e0 := arE_tb (now := now) HT.out H.out.uniq k k64 t hgt (by omega)
          unfold arL at h3
          rw [e0, if_pos rfl] at h3
          rw [e0]
          have x0 := A3.c k k64
          have x1 := A3.f k
          obtain ⟨W4, eW4⟩ : ∃ W4, w3.setCell ⟨gd, k, none⟩ (.int .i64 t) = W4 := ⟨_, rfl⟩
          have h4 := h3.but (but_set w3 gd k (.int .i64 t)) (fun g (e : g = gd) q => q.2 e)
          have a4 := A3.set k k64 t
          have t4 := HT.out.arm k k64 t (by omega)
          have b4 := B3.out.trans ((but_set w3 gd k (.int .i64 t)).below (Nat.le_trans ngd (Nat.le_of_lt A3.lt)) (fun g hg (e : g = gd) => by omega))
          rw [eW4] at h4 a4 b4
          have D := h4.dueT t4 k k64
          rw [upd_same, decide_eq_true (show 0 < t by omega)] at D
          have HD := hide D
          have HA4 := hide a4
          have HT4 := hide t4
          have HB4 := hide b4
          have EW := hide eW4
          clear e0 h3 b3 A3 B3 h4 a4 t4 b4 D eW4 H HA HT HB NS q0 q1 q2
          go_wp2_with fail
          rw [EW.out]
          refine HD.out.mono ?_
          rintro e w5 ⟨rfl, h5, b5⟩
          have A5 := HA4.out.but b5 (fun e => e.2 rfl)
          have x5 := A5.c k k64
          rw [upd_same] at x5
          have FIN : Hid (OnK (fun g => n ≤ g ∧ g ≠ gd) w5 b now (noId L (k : Int) ++ [((k : Int), t)]) ∧ Arr w5 gd 64 (upd d k t) ∧ Below n W w5) :=
            ⟨h5, A5, HB4.out.trans (b5.below (Nat.le_trans ngd (Nat.le_of_lt HA4.out.lt)) (fun g hg e => by omega))⟩
          have tp : 0 < t := by omega
          clear h5 b5 A5 HD HB4 HA4 EW x0 x1
          go_wp2
          go_roundw
          case rel => exact ⟨i + 1, _, _, by go_num, by omega, FIN.out.1, FIN.out.2.1, HT4.out, FIN.out.2.2⟩
          case measure => simp [intOf]; omega
        · have e0 := arE_late (L := L) (now := now) (k : Int) t (by omega)
          unfold arL at h3
          rw [e0, if_neg (by decide)] at h3
          rw [e0]
          have HD := hide (h3.dueT HT.out k k64)
          have HA3 := hide A3
          obtain ⟨x, hx⟩ : ∃ x, d k = x := ⟨_, rfl⟩
          rw [hx] at HD
          have hxx : x = 0 ∨ 0 < x := by
            rcases Classical.em (d k = 0) with q | q
            · exact .inl (by rw [← hx]; exact q)
            · exact .inr (by rw [← hx]; exact HT.out.pos k64 q)
          have HX := hide hx
          clear e0 h3 b3 A3 hx H HA HB NS q0 q1 q2
          go_wp2_with fail
          refine HD.out.mono ?_
          rintro e w5 ⟨rfl, h5, b5⟩
          have A5 := HA3.out.but b5 (fun e => e.2 rfl)
          have x5 := A5.c k k64
          rw [HX.out] at x5
          have FIN : Hid (OnK (fun g => n ≤ g ∧ g ≠ gd) w5 b now L ∧ Arr w5 gd 64 d ∧ Below n W w5) :=
            ⟨h5, A5, B3.out.trans (b5.below (Nat.le_trans ngd (Nat.le_of_lt HA3.out.lt)) (fun g hg e => by omega))⟩
          clear h5 b5 A5 HD B3 HA3 HX
          rcases hxx with rfl | hxx
          · go_wp2
            go_roundw
            case rel => exact ⟨i + 1, L, d, by go_num, by omega, FIN.out.1, FIN.out.2.1, HT.out, FIN.out.2.2⟩
            case measure => simp [intOf]; omega
          · go_wp2
            go_roundw
            case rel => exact ⟨i + 1, L, d, by go_num, by omega, FIN.out.1, FIN.out.2.1, HT.out, FIN.out.2.2⟩
            case measure => simp [intOf]; omega
    · obtain rfl : i = l.length := by omega
      have HNX := hide H.out.next
      obtain ⟨t, ht⟩ : ∃ t, now + far = t := ⟨_, rfl⟩
      have AD := hide (H.out.adv t (by unfold adBad; rw [decide_eq_false (by omega), decide_eq_false (by omega)]; rfl))
      have t1 : now ≤ t := by omega
      have t2 : t ≤ now + 500 := by omega
      go_wp2_with fail
      refine HNX.out.mono ?_
      rintro e w3 ⟨r, rfl, hr, rfl⟩
      have HR := hide hr
      clear hr HNX
      go_wp2_with fail
      refine AD.out.mono ?_
      rintro e w4 ⟨O, vo, rfl, ho, hrow, h4, b4⟩
      have HO := hide ho
      have A4 := hide (HA.out.but b4 (fun e => e.2 rfl))
      have B4 : Hid (Below n W w4) := HB.out.trans (b4.below (Nat.le_trans ngd (Nat.le_of_lt HA.out.lt)) (fun g hg e => by omega))
      have UN := hide (ho.uniq2 H.out.uniq)
      have T4 : Hid (Tb (O ++ stay L t) 64 d) := HT.out.of ho.both
      have H4 := hide h4
      have GB := hide HA.out.lt
      have RW := hide hrow
      obtain ⟨av, cv, rfl, hav⟩ : ∃ a c, vo = .slice a O.length c ∧ (0 < O.length → ∃ g, a = some ⟨g, 0, none⟩) := by
        rcases hrow.2 with ⟨rfl, e⟩ | ⟨g, cap, cur, rfl, _⟩
        · exact ⟨none, 0, by rw [e], fun h => by omega⟩
        · exact ⟨_, _, rfl, fun _ => ⟨g, rfl⟩⟩
      clear ho hrow h4 b4 H HA HT HB AD NS
      have lO : O.length ≤ 4611686018427387904 := by
        have h1 := UN.out
        have h2 := T4.out.len h1
        have h3 := cnt_le d 64
        rw [List.length_append] at h2
        omega
      obtain ⟨rv, hrv⟩ : ∃ x, r.getD 0 = x := ⟨_, rfl⟩
      obtain ⟨rs, hrs⟩ : ∃ x, r.isSome = x := ⟨_, rfl⟩
      have FO : Hid (0 < O.length → ∃ p, O[0]? = some p ∧ rv = p.2 ∧ rs = true) := fun h => by
        obtain ⟨p, hp⟩ : ∃ o, O[0]? = some o := ⟨O[0], List.getElem?_eq_getElem h⟩
        have := first_out HO.out HR.out hp
        rw [this] at hrv hrs
        exact ⟨p, hp, hrv.symm, hrs.symm⟩
      have RC : Hid (∀ g, av = some ⟨g, 0, none⟩ → ∀ i p, O[i]? = some p → ∀ (wq : World), wq.ownsRow w3.heap.size 49 2 (.slice av O.length cv) O.length (flt O) → wq.cell? ⟨g, i * 2, none⟩ = some (.int .i64 p.1) ∧ wq.cell? ⟨g, i * 2 + 1, none⟩ = some (.int .i64 p.2)) := fun g e i p hp wq hw => by
        rw [e] at hw
        have hi := (List.getElem?_eq_some_iff.1 hp).1
        obtain ⟨f1, f2⟩ := flt_get O i p hp
        exact ⟨by rw [World.ownsRow.cellAt hw _ (by omega)]; exact f1, by rw [World.ownsRow.cellAt hw _ (by omega)]; exact f2⟩
      rw [hrv, hrs]
      clear hrv hrs HR
      go_upto_region 26 with fail
      go_cut [156] (fun c wc => c = .bool false ∧ w4 = wc)
      case first =>
        by_cases h0 : 0 < O.length
        · obtain ⟨p, hp, rfl, rfl⟩ := FO.out h0
          obtain ⟨g, rfl⟩ := hav h0
          obtain ⟨_, c1'⟩ := RC.out g rfl 0 p hp w4 RW.out
          simp only [Nat.zero_mul, Nat.zero_add] at c1'
          have z0 : (0 : Int) < (O.length : Int) := by omega
          clear hp RC FO hav
          go_wp2
          go_meet
          case rel => exact ⟨rfl, rfl⟩
        · have z0 : ¬ (0 : Int) < (O.length : Int) := by omega
          have z1 : (O.length : Int) = 0 := by omega
          clear RC FO hav
          go_wp2
          go_meet
          case rel => exact ⟨rfl, rfl⟩
      case rest =>
        obtain ⟨rfl, hw⟩ := hcut
        subst hw
        clear FO
        go_wp2
        go_loopw [21] (fun vi wq => ∃ (i : Nat) (d : Nat → Int), vi = .int .i64 (i : Int) ∧ i ≤ O.length ∧ Hid (OnK (fun g => n ≤ g ∧ g ≠ gd) wq b t (stay L t)) ∧ Hid (Arr wq gd 64 d) ∧ Hid (Tb (O.drop i ++ stay L t) 64 d) ∧ Hid (wq.ownsRow w3.heap.size 49 2 (.slice av O.length cv) O.length (flt O)) ∧ Hid (Below n W wq)) (fun vi _ => O.length - (intOf vi).toNat)
        case atStart => exact ⟨0, d, rfl, Nat.zero_le _, H4.out, A4.out, T4.out, RW.out, B4.out⟩
        case round =>
          clear H4 A4 T4 RW B4 d
          obtain ⟨i, d, rfl, hi, H, HA, HT, RW, HB⟩ := hrel
          by_cases hlt : i < O.length
          · obtain ⟨g, rfl⟩ := hav (by omega)
            obtain ⟨⟨id, tm⟩, hp⟩ : ∃ o, O[i]? = some o := ⟨O[i], List.getElem?_eq_getElem hlt⟩
            obtain ⟨q0, q1⟩ := RC.out g rfl i _ hp wr RW.out
            have ed : O.drop i = (id, tm) :: O.drop (i + 1) := by
              rw [List.drop_eq_getElem_cons hlt]
              rw [List.getElem?_eq_getElem hlt] at hp
              rw [Option.some.inj hp]
            have hT := HT.out
            rw [ed] at hT
            obtain ⟨k, k64, ek, kp⟩ := hT.mem (id, tm) (by simp)
            simp only [Prod.mk.injEq] at ek
            obtain ⟨rfl, rfl⟩ := ek
            have tle : d k ≤ t := ((HO.out.mem _).1 (List.mem_of_getElem? hp)).2
            have x0 := HA.out.c k k64
            have x1 := HA.out.f k
            have U2 : ((((k : Int), d k) :: O.drop (i + 1)) ++ stay L t).Pairwise (fun p q => p.1 ≠ q.1) := by
              rw [← ed]
              exact UN.out.sublist (List.Sublist.append (List.drop_sublist _ _) (List.Sublist.refl _))
            have T' : Hid (Tb (O.drop (i + 1) ++ stay L t) 64 (upd d k 0)) := by
              have := hT.cancel k
              rw [show noId ((((k : Int), d k) :: O.drop (i + 1)) ++ stay L t) (k : Int) = O.drop (i + 1) ++ stay L t from noId_head U2] at this
              exact this
            have gne : g ≠ gd := fun e => by
              have h1 := (row_own_ge RW.out g rfl).1
              have h2 := GB.out
              omega
            have FIN : Hid (∀ W1, But (fun _ => False) wr W1 → OnK (fun g => n ≤ g ∧ g ≠ gd) (W1.setCell ⟨gd, k, none⟩ (.int .i64 0)) b t (stay L t) ∧ Arr (W1.setCell ⟨gd, k, none⟩ (.int .i64 0)) gd 64 (upd d k 0) ∧ (W1.setCell ⟨gd, k, none⟩ (.int .i64 0)).ownsRow w3.heap.size 49 2 (.slice (some ⟨g, 0, none⟩) O.length cv) O.length (flt O) ∧ Below n W (W1.setCell ⟨gd, k, none⟩ (.int .i64 0))) := fun W1 hb => by
              have a1 := HA.out.but hb (fun e => e)
              refine ⟨(H.out.but hb (fun _ e => e.elim)).but (but_set _ _ _ _) (fun g (e : g = gd) q => q.2 e), a1.set k k64 0, ?_, ?_⟩
              · exact row_own_keep (row_own_keep RW.out hb (fun _ _ e => e)) (but_set W1 gd k _) (fun q hq (e : q = gd) => by cases hq; exact gne e)
              · exact (HB.out.trans (hb.below (Nat.le_trans ngd (Nat.le_of_lt HA.out.lt)) (fun _ _ e => e))).trans ((but_set W1 gd k _).below (Nat.le_trans ngd (Nat.le_of_lt a1.lt)) (fun g hg (e : g = gd) => by omega))
            have r1 : decide ((k : Int) < 0) = false := decide_eq_false (by omega)
            have r2 : decide ((63 : Int) < (k : Int)) = false := decide_eq_false (by omega)
            have r3 : decide (t < d k) = false := decide_eq_false (by omega)
            have zk : (k : Int) < 64 := by omega
            have zi : (i : Int) < (O.length : Int) := by omega
            obtain ⟨x, hx⟩ : ∃ x, d k = x := ⟨_, rfl⟩
            by_cases h0 : i = 0
            · subst h0
              rw [hx] at q1 x0 r3
              clear hT U2 ed hp H HA HT RW HB RC hav tle kp hx
              go_wp2
              go_quiet (fail)
              go_wp2
              go_roundw
              case rel =>
                obtain ⟨f1, f2, f3, f4⟩ := FIN.out _ (drewN_but _ wr nq)
                exact ⟨1, _, rfl, by omega, f1, f2, T'.out, f3, f4⟩
              case measure => simp [intOf]; omega
            · obtain ⟨j, rfl⟩ : ∃ j, i = j + 1 := ⟨i - 1, by omega⟩
              obtain ⟨⟨id', tm'⟩, hp'⟩ : ∃ o, O[j]? = some o := ⟨O[j], List.getElem?_eq_getElem (by omega)⟩
              obtain ⟨_, q3⟩ := RC.out g rfl j _ hp' wr RW.out
              have le' : tm' ≤ d k := by
                have := List.pairwise_iff_getElem.1 HO.out.srt j (j + 1) (by omega) hlt (by omega)
                rw [List.getElem?_eq_getElem (by omega)] at hp'
                rw [List.getElem?_eq_getElem hlt] at hp
                rw [Option.some.inj hp', Option.some.inj hp] at this
                exact this
              rw [hx] at q1 x0 r3 le'
              have r4 : decide (x < tm') = false := decide_eq_false (by omega)
              have r5 : decide ((0 : Int) < ((j + 1 : Nat) : Int)) = true := decide_eq_true (by omega)
              clear hT U2 ed hp hp' H HA HT RW HB RC hav tle kp hx le'
              go_wp2
              go_quiet (fail)
              go_wp2
              go_roundw
              case rel =>
                obtain ⟨f1, f2, f3, f4⟩ := FIN.out _ (drewN_but _ wr nq)
                exact ⟨j + 1 + 1, _, by go_num, by omega, f1, f2, T'.out, f3, f4⟩
              case measure => simp [intOf]; omega
          · obtain rfl : i = O.length := by omega
            have T5 : Hid (Tb (stay L t) 64 d) := by
              have := HT.out
              rw [List.drop_of_length_le (Nat.le_refl _), List.nil_append] at this
              exact this
            have LN := H.out.len
            rw [T5.out.len H.out.uniq] at LN
            have HL := hide LN
            have HC := hide HA.out.c
            have DP : Hid (∀ k, k < 64 → 0 < d k → t < d k) := fun k hk hp => by
              have := (List.mem_filter.1 (T5.out.all k hk (by omega))).2
              simpa using this
            have D0 : Hid (∀ k, k < 64 → d k = 0 ∨ 0 < d k) := fun k hk => by
              rcases Classical.em (d k = 0) with q | q
              · exact .inl q
              · exact .inr (T5.out.pos hk q)
            clear LN H HA HT RW RC hav T5 UN HO
            go_wp2
            go_loopw [22, 23] (fun vl vi wq => ∃ (k : Nat), vl = .int .i64 (cnt d k : Int) ∧ vi = .int .i64 (k : Int) ∧ k ≤ 64 ∧ wr = wq) (fun _ vi _ => 64 - (intOf vi).toNat)
            case atStart => exact ⟨0, rfl, rfl, by omega, rfl⟩
            case round =>
              obtain ⟨k, rfl, rfl, hk, hw⟩ := hrel
              subst hw
              have ck := cnt_le d k
              by_cases h64 : k < 64
              · have x0 := HC.out k h64
                have cs : cnt d (k + 1) = cnt d k + if 0 < d k then 1 else 0 := rfl
                obtain ⟨x, hx⟩ : ∃ x, d k = x := ⟨_, rfl⟩
                have dp := DP.out k h64
                rw [hx] at x0 cs dp
                rcases D0.out k h64 with q | q
                · rw [hx] at q
                  subst q
                  have cs := hide cs
                  clear dp hx
                  go_wp2
                  go_roundw
                  case rel => exact ⟨k + 1, by rw [cs.out, if_neg (by decide)]; rfl, by go_num, by omega, trivial⟩
                  case measure => simp [intOf]; omega
                · rw [hx] at q
                  have lt := dp q
                  rw [if_pos q] at cs
                  have cs := hide cs
                  clear dp hx
                  go_wp2
                  go_roundw
                  case rel => exact ⟨k + 1, by rw [cs.out]; go_num, by go_num, by omega, trivial⟩
                  case measure => simp [intOf]; omega
              · obtain rfl : k = 64 := by omega
                go_wp2_with fail
                refine HL.out.mono ?_
                rintro e w9 ⟨rfl, rfl⟩
                clear HL
                go_wp2
                go_ret
                exact ⟨rfl, by rw [HN.out]; exact HB.out⟩
end Go.Proofs.Ytglbobobifejmaa
