
/-
  Ip4Options: the walk.
-/
import Derived.Test.YtiglejmmdghmgaaI23
namespace Go.Proofs.Ytiglejmmdghmgaa
open Go.RowKit Go.Shelf

theorem EnE.form {n0 : Nat} {w w' : World} {p : Pk} {b : List Int} {e : Ending} (h : EnE n0 w p b e w') : ∃ a n c, e = .returned (.tuple #[.slice a n c, .int .i64 (enE p b.length)]) := by
  rcases h.2 with ⟨he, v, rfl, g⟩ | ⟨_, rfl⟩
  · obtain ⟨a, c, rfl, _⟩ := g.isB.shape
    rw [he]
    exact ⟨_, _, _, rfl⟩
  · exact ⟨_, _, _, rfl⟩
theorem isB_cells {n0 : Nat} {W : World} {a : Option Addr} {n c : Nat} {bs : List Int} (h : IsB n0 W (.slice a n c) bs) (h0 : 0 < bs.length) : ∃ g off, a = some ⟨g, off, none⟩ ∧ ∀ j, j < bs.length → W.cell? ⟨g, off + j, none⟩ = some (.int .u8 (nb bs j)) := by
  obtain ⟨a', c', e, _, _, hc⟩ := h
  obtain ⟨g, off, e2, _, hcs⟩ := hc h0
  cases e
  exact ⟨g, off, e2, hcs⟩
/-- one option on, with others behind them -/
theorem okO_on (x b : List Int) (h : 0 < x.length) (hx : okO x = true) (h0 : nb x 0 ≠ 0) : 0 < szO x ∧ szO x ≤ x.length ∧ okO (x.drop (szO x)) = true ∧ okO (x ++ b) = okO (x.drop (szO x) ++ b) ∧ (nb x 0 = 1 → szO x = 1) ∧ (nb x 0 ≠ 1 → 2 ≤ x.length ∧ (szO x : Int) = nb x 1) := by
  have h0' : ¬ x[0]?.getD 0 = 0 := h0
  have ST := okO_step x h
  rw [hx, if_neg h0'] at ST
  have hle := szO_le x h
  have hz : szO x ≠ 0 := fun e => by rw [if_pos e] at ST; cases ST
  rw [if_neg hz] at ST
  have eg : ∀ j, j < x.length → (x ++ b)[j]? = x[j]? := fun j hj => List.getElem?_append_left hj
  have one : nb x 0 = 1 → szO x = 1 := fun h1 => by
    have h1' : x[0]?.getD 0 = 1 := h1
    unfold szO
    rw [if_neg h0', if_pos h1']
  have two : nb x 0 ≠ 1 → 2 ≤ x.length ∧ (szO x : Int) = nb x 1 ∧ ¬ (x[1]?.getD 0 < 2 ∨ (x.length : Int) < x[1]?.getD 0) := fun h1 => by
    have h1' : ¬ x[0]?.getD 0 = 1 := h1
    have e : szO x = if x.length < 2 then 0 else if x[1]?.getD 0 < 2 ∨ (x.length : Int) < x[1]?.getD 0 then 0 else (x[1]?.getD 0).toNat := by unfold szO; rw [if_neg h0', if_neg h1']
    by_cases h2 : x.length < 2
    · rw [if_pos h2] at e; omega
    rw [if_neg h2] at e
    by_cases h3 : x[1]?.getD 0 < 2 ∨ (x.length : Int) < x[1]?.getD 0
    · rw [if_pos h3] at e; omega
    rw [if_neg h3] at e
    refine ⟨by omega, ?_, h3⟩
    show (szO x : Int) = x[1]?.getD 0
    omega
  have es : szO (x ++ b) = szO x := by
    by_cases h1 : nb x 0 = 1
    · rw [one h1]
      unfold szO
      have h1' : x[0]?.getD 0 = 1 := h1
      rw [eg 0 h, if_neg h0', if_pos h1']
    · obtain ⟨h2, h3, h4⟩ := two h1
      have h1' : ¬ x[0]?.getD 0 = 1 := h1
      have e1 : szO x = (x[1]?.getD 0).toNat := by unfold szO; rw [if_neg h0', if_neg h1', if_neg (by omega), if_neg h4]
      rw [e1]
      unfold szO
      rw [eg 0 h, eg 1 (by omega), if_neg h0', if_neg h1', if_neg (by rw [List.length_append]; omega), if_neg (by rw [List.length_append]; omega)]
  refine ⟨by omega, hle, ST.symm, ?_, one, fun h1 => ⟨(two h1).1, (two h1).2.1⟩⟩
  have SA := okO_step (x ++ b) (by rw [List.length_append]; omega)
  rw [eg 0 h, if_neg h0', es, if_neg hz, List.drop_append_of_le_length hle] at SA
  exact SA
theorem nb_drop (a : List Int) (k j : Nat) : nb (a.drop k) j = nb a (k + j) := by
  unfold nb
  rw [List.getElem?_drop]
set_option maxRecDepth 100000 in
set_option maxHeartbeats 16000000 in
theorem Options_walk (p : Pk) (ov av : Value) (a : List Int) (bv : Value) (b : List Int) (w : World) (_hov : IsB w.heap.size w ov p.opts) (hp : PkOk p) (hav : IsB w.heap.size w av a) (hA : Bytes a) (la : a.length ≤ 140737488351232) (hbv : IsB w.heap.size w bv b) (hB : Bytes b) (lb : b.length ≤ 140737488351232) :
    Calls Try.prog 8 #[.agg (p.cells ov).toArray, av, bv] w fun e w' => e = .returned (.bool true) ∧ Below w.heap.size w w' := by
  obtain ⟨aa, ca, rfl, _⟩ := hav.shape
  obtain ⟨ab, cb, rfl, _⟩ := hbv.shape
  obtain ⟨s, hs⟩ : ∃ s, s = w.heap.size := ⟨_, rfl⟩
  obtain ⟨X, hX⟩ : ∃ X, X = p.cells ov := ⟨_, rfl⟩
  have lX : X.length = 16 := by rw [hX]; rfl
  rw [← hX]
  obtain ⟨w1, hw1⟩ : ∃ w1, w1 = w.alloc (.cells X.toArray 26) := ⟨_, rfl⟩
  have b1 : Below w.heap.size w w1 := by rw [hw1]; exact later_alloc _ _
  have c1 : CellsAt w1 s 0 X := by rw [hw1, hs]; exact CellsAt.new w X 26
  have f1 : ∀ y, w1.frozen? ⟨s, y, none⟩ = false := fun y => by rw [hw1, hs]; exact frozen_new w _ _ _
  have l1 : s < w1.heap.size := by rw [hw1, hs]; simp
  have HB1 := hide b1
  have C1 := hide c1
  have F1 := hide f1
  have HX := hide hX
  have HAV := hide hav
  have HBV := hide hbv
  have HP := hide hp
  have BYA := hide hA
  have BYB := hide hB
  obtain ⟨na, hna⟩ : ∃ na, na = a.length := ⟨_, rfl⟩
  obtain ⟨n2, hn2⟩ : ∃ n2, n2 = b.length := ⟨_, rfl⟩
  rw [← hna] at HAV la ⊢
  rw [← hn2] at HBV lb ⊢
  have HNA := hide hna
  have HN2 := hide hn2
  clear b1 c1 f1 hX hav hbv hp hA hB hna hn2
  go_enter Try.func8, Try.ntmps8
  have hw1' := hw1.symm
  have hs' := hs.symm
  have HS := hide hs
  clear hw1 hs
  go_wp2_with fail
  clear hw1' hs' lX
  refine (awake_any w1).mono ?_
  rintro _ w2 ⟨rfl, b2⟩
  have HB2 : Below w.heap.size w w2 := HB1.out.trans (b2.mono HB1.out.size)
  have C2 := C1.out.later l1 b2
  have F2 : ∀ y, w2.frozen? ⟨s, y, none⟩ = false := fun y => (b2.frozen (p := ⟨s, y, none⟩) l1).trans (F1.out y)
  have L2 : s < w2.heap.size := Nat.lt_of_lt_of_le l1 b2.size
  rw [HX.out] at C2
  have x15 : w2.cell? ⟨s, 15, none⟩ = some ov := C2 15 _ rfl
  have f15 := F2 15
  obtain ⟨pa, hpa⟩ : ∃ q : Pk, q = { p with opts := a } := ⟨_, rfl⟩
  obtain ⟨w3, hw3⟩ : ∃ w3, w3 = w2.setCell ⟨s, 15, none⟩ (.slice aa na ca) := ⟨_, rfl⟩
  have bo3 : But (Only s) w2 w3 := by rw [hw3]; exact (But.refl (Only s) w2).cellb (b := s) rfl 15 _
  have HB3 : Hid (Below w.heap.size w w3) := HB2.trans (bo3.below HB2.size (fun g hg e => by have e : g = s := e; have := HS.out; omega))
  obtain ⟨Y3, hY3⟩ : ∃ Y, Y = pa.cells (.slice aa na ca) := ⟨_, rfl⟩
  have c3 : CellsAt w3 s 0 (pa.cells (.slice aa na ca)) := by rw [hpa, hw3]; exact pk_opts C2 a _
  have C3 : Hid (CellsAt w3 s 0 Y3) := by rw [hY3]; exact c3
  have F3 : Hid (∀ y, w3.frozen? ⟨s, y, none⟩ = false) := fun y => by rw [hw3, World.frozen?_setCell]; exact F2 y
  have L3 : s < w3.heap.size := Nat.lt_of_lt_of_le L2 bo3.size
  have LY3 : Hid (Y3.length = 16) := by rw [hY3]; exact (rfl : (pa.cells (.slice aa na ca)).length = 16)
  have PA : Hid (PkOk pa) := by rw [hpa]; exact ⟨HP.out.src, HP.out.dst, BYA.out, by rw [← HNA.out]; exact la⟩
  have EN := Encode_any pa (.slice aa na ca) (.slice none 0 0) [] w3 (by rw [hpa]; exact HAV.out.later HB3.out) (IsB.nil _ _) PA.out.src PA.out.dst PA.out.opts (by have := PA.out.len; omega) (by simp)
  rw [← hY3] at EN
  have HEN := hide EN
  have HY3 := hide hY3
  have HPA := hide hpa
  have hw3' := hw3.symm
  clear b2 EN C1 HB1 F1 C2 hpa hw3 bo3 hY3 HB2 HX c3 F2 L2 l1
  go_wp2_with (refine wpList_loadA rfl 26 16 aggP sizP _ rfl s 0 rfl Y3 LY3.out C3.out ?_)
  clear f15 x15 hw3'
  refine HEN.out.mono ?_
  rintro _ w4 h4
  have HB4 : Below w.heap.size w w4 := HB3.out.trans (h4.1.mono HB3.out.size)
  have b4 := h4.1
  have C4 := C3.out.later L3 b4
  have F4 : ∀ y, w4.frozen? ⟨s, y, none⟩ = false := fun y => (b4.frozen (p := ⟨s, y, none⟩) L3).trans (F3.out y)
  have L4 : s < w4.heap.size := Nat.lt_of_lt_of_le L3 b4.size
  obtain ⟨a4, n4, c4, rfl⟩ := h4.form
  rw [HY3.out] at C4
  have x15 : w4.cell? ⟨s, 15, none⟩ = some (.slice aa na ca) := C4 15 _ rfl
  have f15 := F4 15
  obtain ⟨E1, hE1⟩ : ∃ E1, E1 = enE pa ([] : List Int).length := ⟨_, rfl⟩
  rw [← hE1]
  obtain ⟨pb, hpb⟩ : ∃ q : Pk, q = { p with opts := b } := ⟨_, rfl⟩
  obtain ⟨w5, hw5⟩ : ∃ w5, w5 = w4.setCell ⟨s, 15, none⟩ (.slice ab n2 cb) := ⟨_, rfl⟩
  have bo5 : But (Only s) w4 w5 := by rw [hw5]; exact (But.refl (Only s) w4).cellb (b := s) rfl 15 _
  have HB5 : Hid (Below w.heap.size w w5) := HB4.trans (bo5.below HB4.size (fun g hg e => by have e : g = s := e; have := HS.out; omega))
  obtain ⟨Y5, hY5⟩ : ∃ Y, Y = pb.cells (.slice ab n2 cb) := ⟨_, rfl⟩
  have C5 : Hid (CellsAt w5 s 0 Y5) := by rw [hY5, hpb, hw5]; rw [HPA.out] at C4; exact pk_opts C4 b _
  have F5 : Hid (∀ y, w5.frozen? ⟨s, y, none⟩ = false) := fun y => by rw [hw5, World.frozen?_setCell]; exact F4 y
  have L5 : s < w5.heap.size := Nat.lt_of_lt_of_le L4 bo5.size
  have LY5 : Hid (Y5.length = 16) := by rw [hY5]; exact (rfl : (pb.cells (.slice ab n2 cb)).length = 16)
  have PB : Hid (PkOk pb) := by rw [hpb]; exact ⟨HP.out.src, HP.out.dst, BYB.out, by rw [← HN2.out]; exact lb⟩
  have EN := Encode_any pb (.slice ab n2 cb) (.slice none 0 0) [] w5 (by rw [hpb]; exact HBV.out.later HB5.out) (IsB.nil _ _) PB.out.src PB.out.dst PB.out.opts (by have := PB.out.len; omega) (by simp)
  rw [← hY5] at EN
  have HEN5 := hide EN
  have HY5 := hide hY5
  have HPB := hide hpb
  have HE1 := hide hE1
  have hw5' := hw5.symm
  clear h4 b4 EN C4 hpb hw5 bo5 hY5 HB4 F4 L4 hE1 HEN C3 F3 L3 HB3 HY3 LY3
  go_wp2_with (refine wpList_loadA rfl 26 16 aggP sizP _ rfl s 0 rfl Y5 LY5.out C5.out ?_)
  clear f15 x15 hw5'
  refine HEN5.out.mono ?_
  rintro _ w6 h6
  have HB6 : Hid (Below w.heap.size w w6) := HB5.out.trans (h6.1.mono HB5.out.size)
  have b6 := h6.1
  have C6 : Hid (CellsAt w6 s 0 Y5) := C5.out.later L5 b6
  have F6 : Hid (∀ y, w6.frozen? ⟨s, y, none⟩ = false) := fun y => (b6.frozen (p := ⟨s, y, none⟩) L5).trans (F5.out y)
  have L6 : s < w6.heap.size := Nat.lt_of_lt_of_le L5 b6.size
  obtain ⟨a6, n6, c6, rfl⟩ := h6.form
  obtain ⟨E2, hE2⟩ : ∃ E2, E2 = enE pb ([] : List Int).length := ⟨_, rfl⟩
  rw [← hE2]
  have HE2 := hide hE2
  clear h6 b6 hE2 HEN5 C5 F5 L5 HB5
  by_cases h1 : E1 = 0
  case neg =>
    have q1 : (E1 != 0) = true := by simpa using h1
    clear h1
    go_wp2
    go_ret
    exact ⟨rfl, HB6.out⟩
  by_cases h2 : E2 = 0
  case neg =>
    have q1 : (E1 != 0) = false := by rw [h1]; rfl
    have q2 : (E2 != 0) = true := by simpa using h2
    clear h1 h2
    go_wp2
    go_ret
    exact ⟨rfl, HB6.out⟩
  have q1 : (E1 != 0) = false := by rw [h1]; rfl
  have q2 : (E2 != 0) = false := by rw [h2]; rfl
  have e1 : enE pa ([] : List Int).length = 0 := by rw [← HE1.out]; exact h1
  have e2 : enE pb ([] : List Int).length = 0 := by rw [← HE2.out]; exact h2
  obtain ⟨m1, m2, m3, m4, _⟩ := enE_zero e1
  obtain ⟨k1, k2, k3, k4, _⟩ := enE_zero e2
  rw [HPA.out] at m1 m2 m3 m4
  rw [HPB.out] at k2 k3 k4
  have M1 : Hid (mb p = true) := m1
  have OA : Hid (okO a = true) := m4
  have OB : Hid (okO b = true) := k4
  have m2 : a.length ≤ 40 := m2
  have m3 : a.length % 4 = 0 := m3
  have k2 : b.length ≤ 40 := k2
  have k3 : b.length % 4 = 0 := k3
  rw [← HNA.out] at m2 m3
  rw [← HN2.out] at k2 k3
  clear h1 h2 e1 e2 m1 m4 k1 k4 HE1 HE2
  by_cases h40 : (40 : Int) < (na : Int) + (n2 : Int)
  case pos =>
    clear m3 k3
    go_wp2
    go_ret
    exact ⟨rfl, HB6.out⟩
  have M34 := hide (And.intro m3 k3)
  clear m3 k3
  go_wp2
  clear q1 q2
  go_loop [12] (fun v12 => ∃ k : Nat, v12 = .int .i64 (k : Int) ∧ k ≤ na ∧ Hid (okO (a.drop k) = true) ∧ Hid (okO (a ++ b) = okO (a.drop k ++ b))) (fun v12 => na - (intOf v12).toNat)
  case atStart => exact ⟨0, rfl, by omega, OA.out, rfl⟩
  case round =>
    obtain ⟨k, rfl, hk, OK, OJ⟩ := hrel
    by_cases hkn : k < na
    · obtain ⟨ga, offa, ea, hcs⟩ := isB_cells (HAV.out.later HB6.out) (by rw [← HNA.out]; omega)
      subst ea
      have x0 := hcs k (by rw [← HNA.out]; omega)
      have zk : (k : Int) < (na : Int) := by omega
      obtain ⟨t0, ht0⟩ : ∃ t0, t0 = nb a k := ⟨_, rfl⟩
      rw [← ht0] at x0
      by_cases q0 : t0 = 0
      · have qz : (t0 != 0) = false := by rw [q0]; rfl
        clear q0 hcs ht0
        go_wp2
        go_ret
        exact ⟨rfl, HB6.out⟩
      · have qz : (t0 != 0) = true := by simpa using q0
        obtain ⟨o1, o2, o3, o4, o5, o6⟩ := okO_on (a.drop k) b (by rw [List.length_drop, ← HNA.out]; omega) OK.out (by rw [nb_drop, Nat.add_zero, ← ht0]; exact q0)
        rw [nb_drop, Nat.add_zero, ← ht0] at o5 o6
        rw [nb_drop] at o6
        rw [List.length_drop, ← HNA.out] at o2 o6
        rw [List.drop_drop] at o3 o4
        have O3 := hide o3
        have O4 := hide o4
        by_cases q1 : t0 = 1
        · have qo : (t0 == 1) = true := by rw [q1]; rfl
          have e1 := o5 q1
          rw [e1] at O3 O4
          clear q0 q1 hcs ht0 o1 o2 o3 o4 o5 o6 e1
          go_wp2
          go_round
          case rel => exact ⟨k + 1, by simp, by omega, O3.out, OJ.out.trans O4.out⟩
          case measure => simp [intOf]; omega
        · have qo : (t0 == 1) = false := by simpa using q1
          obtain ⟨e1, e2⟩ := o6 q1
          have x1 := hcs (k + 1) (by rw [← HNA.out]; omega)
          obtain ⟨t1, ht1⟩ : ∃ t1, t1 = nb a (k + 1) := ⟨_, rfl⟩
          rw [← ht1] at x1 e2
          obtain ⟨u0, u1⟩ := nb_bd BYA.out (k + 1)
          rw [← ht1] at u0 u1
          obtain ⟨zz, hzz⟩ : ∃ zz, zz = szO (a.drop k) := ⟨_, rfl⟩
          rw [← hzz] at o1 o2 e2 O3 O4
          have hwr : IntKind.i64.wrap t1 = t1 := wrapI _ (by omega) (by omega)
          have zk1 : (k : Int) + 1 < (na : Int) := by omega
          have zs : IntKind.i64.wrap ((k : Int) + t1) = (k : Int) + t1 := wrapI _ (by omega) (by omega)
          have E2 := hide e2
          clear q0 q1 hcs ht0 o3 o4 o5 o6 ht1 hzz e2
          go_wp2
          go_round
          case rel => exact ⟨k + zz, by rw [← E2.out]; simp, by omega, O3.out, OJ.out.trans O4.out⟩
          case measure =>
            have := E2.out
            simp [intOf]; omega
    · have ek : na = k := by omega
      subst ek
      have OAB : Hid (okO (a ++ b) = true) := by
        unfold Hid
        rw [OJ.out, List.drop_eq_nil_of_le (by rw [← HNA.out]; omega), List.nil_append]
        exact OB.out
      have IA := hide (HAV.out.later HB6.out)
      clear OJ OK OA OB hkn hk
      go_wp2_with (at_builtin; refine wpList_growB rfl (.const (.slice none 0 0)) (.tmp 83) rfl rfl w6.heap.size (.slice none 0 0) _ [] a rfl rfl (Gro.nil _ _) IA.out (Nat.le_refl _) (by rw [← HNA.out]; simp; omega) a (List.nil_append _) ?_)
      intro a7 c7 w7 _ g7 b7
      rw [← HNA.out]
      have G7 : Hid (Gro w6.heap.size w7 (.slice a7 na c7) a) := by unfold Hid; rw [HNA.out]; exact g7
      have B7 := hide b7
      have IB := hide (HBV.out.later (HB6.out.trans (b7.mono HB6.out.size)))
      obtain ⟨J, hJ⟩ : ∃ J, J = a ++ b := ⟨_, rfl⟩
      have HJ := hide hJ
      have JL : Hid (J.length = na + n2) := by unfold Hid; rw [hJ, List.length_append, ← HNA.out, ← HN2.out]
      rw [← hJ] at OAB
      clear g7 b7 IA hJ
      go_wp2_with (at_builtin; refine wpList_growB rfl (.tmp 84) (.tmp 85) rfl rfl w6.heap.size (.slice a7 na c7) _ a b rfl rfl G7.out IB.out B7.out.size (by rw [← HNA.out, ← HN2.out]; omega) J HJ.out.symm ?_)
      intro a8 c8 w8 _ g8 b8
      rw [JL.out] at g8 ⊢
      have B8 : Below w6.heap.size w6 w8 := B7.out.trans b8
      have HB8 : Below w.heap.size w w8 := HB6.out.trans (B8.mono HB6.out.size)
      have C8 := C6.out.later L6 B8
      have F8 : ∀ y, w8.frozen? ⟨s, y, none⟩ = false := fun y => (B8.frozen (p := ⟨s, y, none⟩) L6).trans (F6.out y)
      have L8 : s < w8.heap.size := Nat.lt_of_lt_of_le L6 B8.size
      rw [HY5.out, HPB.out] at C8
      have x15 : w8.cell? ⟨s, 15, none⟩ = some (.slice ab n2 cb) := C8 15 _ rfl
      have f15 := F8 15
      obtain ⟨pj, hpj⟩ : ∃ q : Pk, q = { p with opts := J } := ⟨_, rfl⟩
      obtain ⟨NJ, hNJ⟩ : ∃ NJ, NJ = na + n2 := ⟨_, rfl⟩
      rw [← hNJ] at g8 JL ⊢
      have zJ : NJ ≤ 40 := by omega
      obtain ⟨w9, hw9⟩ : ∃ w9, w9 = w8.setCell ⟨s, 15, none⟩ (.slice a8 NJ c8) := ⟨_, rfl⟩
      have bo9 : But (Only s) w8 w9 := by rw [hw9]; exact (But.refl (Only s) w8).cellb (b := s) rfl 15 _
      have HB9 : Hid (Below w.heap.size w w9) := HB8.trans (bo9.below HB8.size (fun g hg e => by have e : g = s := e; have := HS.out; omega))
      obtain ⟨Y9, hY9⟩ : ∃ Y, Y = pj.cells (.slice a8 NJ c8) := ⟨_, rfl⟩
      have C9 : CellsAt w9 s 0 Y9 := by rw [hY9, hpj, hw9]; exact pk_opts C8 J _
      have L9 : s < w9.heap.size := Nat.lt_of_lt_of_le L8 bo9.size
      have G9 := g8.off bo9 (fun g x y e e2 => by
        obtain ⟨_, ⟨h2, _⟩ | ⟨g', cap', cur, e', hge, hh, _⟩⟩ := g8
        · rw [e] at h2; cases h2
        · rw [e] at e'
          cases e'
          omega)
      obtain ⟨w10, hw10⟩ : ∃ w10, w10 = w9.alloc (.cells #[.int .u8 122] 5 (1, 2)) := ⟨_, rfl⟩
      have b10 : Below w9.heap.size w9 w10 := by rw [hw10]; exact later_alloc _ _
      have i10 : IsB w10.heap.size w10 (.slice (some ⟨w9.heap.size, 0, none⟩) 1 1) [122] := by
        rw [hw10, World.size_alloc]; exact lit_B w9 [122] (1, 2)
      have HB10 : Hid (Below w.heap.size w w10) := HB9.out.trans (b10.mono HB9.out.size)
      have IJ10 := (G9.later b10).isB
      have C10 := hide (C9.later L9 b10)
      have C9' := hide C9
      have L10 : s < w10.heap.size := Nat.lt_of_lt_of_le L9 b10.size
      have LY9 : Hid (Y9.length = 16) := by rw [hY9]; exact (rfl : (pj.cells (.slice a8 NJ c8)).length = 16)
      have PJ : Hid (PkOk pj) := by
        rw [hpj]
        exact ⟨HP.out.src, HP.out.dst, by show Bytes J; rw [HJ.out]; exact BYA.out.append BYB.out, by show J.length ≤ _; rw [JL.out]; omega⟩
      have mj : mb pj = true := by rw [hpj]; exact M1.out
      have oj : pj.opts = J := by rw [hpj]
      have EJ : Hid (enE pj ([122] : List Int).length = 0) := by
        unfold Hid enE
        have h3 : opB pj = true := by
          have := M34.out
          simp only [opB, Bool.and_eq_true]
          rw [oj, JL.out]
          exact ⟨decide_eq_true (by omega), decide_eq_true (by omega), OAB.out⟩
        rw [if_neg (by rw [mj]; decide), if_neg (by rw [h3]; decide), if_neg (by rw [oj, JL.out]; simp; omega)]
      have IJ : Hid (IsB w10.heap.size w10 (.slice a8 NJ c8) pj.opts) := by rw [oj]; exact IJ10
      have EN := Encode_any pj (.slice a8 NJ c8) (.slice (some ⟨w9.heap.size, 0, none⟩) 1 1) [122] w10 IJ.out i10 PJ.out.src PJ.out.dst PJ.out.opts (by have := PJ.out.len; omega) (by decide)
      rw [← hY9] at EN
      have HEN := hide EN
      have HY9 := hide hY9
      have OJ := hide oj
      have cv := conv_same
      have hw9' := hw9.symm
      have hw10' := hw10.symm
      clear g8 b8 B8 HB8 C8 F8 L8 hpj hNJ hw9 bo9 hY9 C9 G9 hw10 b10 i10 IJ10 mj oj EN G7 B7 IB C6 F6 L6 HB6 HY5 LY5 M34 L9 HB9
      go_wp2_with (refine wpList_loadA rfl 26 16 aggP sizP _ rfl s 0 rfl Y9 LY9.out C9'.out ?_)
      clear f15 x15 hw9' hw10' cv
      refine HEN.out.mono ?_
      rintro _ w11 ⟨b11, h11⟩
      rcases h11 with ⟨_, v, rfl, g11⟩ | ⟨hne, _⟩
      case inr => exact absurd EJ.out hne
      obtain ⟨t1, t2, t3, t4⟩ := back_all PJ.out EJ.out []
      rw [List.append_nil] at t1 t2 t3 t4
      have Bx := enB_bytes PJ.out EJ.out (b := [122]) (by intro x hx; simp at hx; omega)
      have lenx := enB_len pj [122]
      rw [OJ.out, JL.out] at lenx
      obtain ⟨XB, hXB⟩ : ∃ XB, XB = enB pj [122] := ⟨_, rfl⟩
      rw [← hXB] at g11 t1 t2 t3 t4 Bx lenx
      obtain ⟨a11, c11, rfl, _⟩ := g11.isB.shape
      have HB11 : Hid (Below w.heap.size w w11) := HB10.out.trans (b11.mono HB10.out.size)
      have C11 := hide (C10.out.later L10 b11)
      have L11 : s < w11.heap.size := Nat.lt_of_lt_of_le L10 b11.size
      have IJ11 := hide (IJ.out.later b11)
      have DE := hide (Decode_any (.slice a11 XB.length c11) XB w11 g11.isB Bx (by rw [lenx]; simp; omega))
      have K1 := hide t1
      have K2 := hide t2
      have K3 := hide t3
      have K4 := hide t4
      clear g11 b11 t1 t2 t3 t4 Bx lenx hXB HEN C10 L10 IJ HB10 C9'
      go_wp2_with fail
      refine DE.out.mono ?_
      rintro _ w12 ⟨b12, h12⟩
      rcases h12 with ⟨hne, _⟩ | ⟨_, qv, dv, n1, rfl, gq, gd, _, _⟩
      · exact absurd K1.out hne
      rw [K4.out] at gq
      rw [K3.out] at gd
      rw [K2.out]
      obtain ⟨aq, cq, rfl, _⟩ := gq.isB.shape
      obtain ⟨ad, cd, rfl, _⟩ := gd.isB.shape
      obtain ⟨Y, hY⟩ : ∃ Y, Y = pj.cells (.slice aq pj.opts.length cq) := ⟨_, rfl⟩
      rw [← hY]
      have lY : Hid (Y.length = 16) := by rw [hY]; exact (rfl : (pj.cells (.slice aq pj.opts.length cq)).length = 16)
      have oY : Hid (∀ u ∈ Y, u.oneCell' = true) := by rw [hY]; exact pk_one _ _ _ _
      obtain ⟨u0, w13, hu0, hw13, cu0, fu0, c13, b13, l13⟩ := newP w12 Y lY.out
      obtain ⟨s12, hs12⟩ : ∃ s12, s12 = w12.heap.size := ⟨_, rfl⟩
      rw [← hs12] at hw13 cu0 fu0 c13 l13
      have CU := hide cu0
      have FU := hide fu0
      have b113 := b12.trans (b13.mono b12.size)
      have HB13 : Hid (Below w.heap.size w w13) := HB11.out.trans (b113.mono HB11.out.size)
      have C13s := hide (C11.out.later L11 b113)
      have C13 := hide c13
      have D13 := hide ((gd.later b13).isB)
      have SM := Same_true pj (.slice a8 NJ c8) (.slice aq pj.opts.length cq) w13 (IJ11.out.later b113) ((gq.later b13).isB)
      rw [← hY, ← HY9.out] at SM
      have HSM := hide SM
      have hu0' := hu0.symm
      simp only [zP, Pk.cells, I4.vals, zI, List.cons_append, List.nil_append] at hu0'
      have hs12' := hs12.symm
      have hw13' := hw13.symm
      rw [show ([122] : List Int).length = 1 from rfl] at D13 ⊢
      clear b12 b13 b113 gq gd c13 cu0 fu0 SM hu0 hs12 hw13 hY DE HB11 C11 L11 l13 K1 K2 K3 K4 IJ11
      go_upto_region 18 with (refine wpList_storeA rfl 26 16 sizP _ _ rfl s12 0 rfl Y (zP.cells (.slice none 0 0)) rfl lY.out rfl CU.out FU.out oY.out ?_; intro _; rw [hw13'])
      clear hu0' hw13' hs12' CU FU
      go_wp2_with (first | refine wpList_loadA rfl 26 16 aggP sizP _ rfl s 0 rfl Y9 LY9.out C13s.out ?_ | refine wpList_loadA rfl 26 16 aggP sizP _ rfl s12 0 rfl Y lY.out C13.out ?_)
      refine HSM.out.mono ?_
      rintro _ w14 ⟨rfl, b14⟩
      have HB14 : Hid (Below w.heap.size w w14) := HB13.out.trans (b14.mono HB13.out.size)
      have sc1 := conv_str (D13.out.later b14)
      rw [show strB [122] = { data := #[122] } from by decide] at sc1
      clear b14 HSM D13 C13 C13s HB13
      go_wp2
      go_ret
      exact ⟨rfl, HB14.out⟩
end Go.Proofs.Ytiglejmmdghmgaa
