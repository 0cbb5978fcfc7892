
/-
  The document's wheel: Cancel, Arm, Due, Next.
-/
import Derived.Test.YtglbobobifejmaaQF1
namespace Go.Proofs.Ytglbobobifejmaa
open Go.RowKit

def RfEnd (w : World) (r : Nat) (now : Int) (v : Value) (L : List (Int × Int)) (w' : World) : Prop := ∃ v', RfAt w' r now v' L ∧ (∀ k, v'.ownBlock = some k → w.heap.size ≤ k ∨ v.ownBlock = some k) ∧ But (Only r) w w'
theorem row_shape {B : Nat} {w : World} {v : Value} {l : List (Int × Int)} (h : w.ownsRow B 49 2 v l.length (flt l)) : ∃ a c, v = .slice a l.length c := by
  rcases h.2 with ⟨rfl, e⟩ | ⟨g, cap, cur, rfl, _⟩
  · exact ⟨none, 0, by rw [e]⟩
  · exact ⟨_, _, rfl⟩
theorem row_zero {B : Nat} {w : World} {v : Value} {l : List (Int × Int)} (h : w.ownsRow B 49 2 v l.length (flt l)) : RowL w v l := by
  refine ⟨h.1, ?_⟩
  rcases h.2 with q | ⟨g, cap, cur, q⟩
  · exact .inl q
  · exact .inr ⟨g, cap, cur, q.1, Nat.zero_le _, q.2.2⟩
theorem noId_same {L : List (Int × Int)} {id : Int} (h : has L id = false) : noId L id = L :=
  filter_same (fun p hp => by have := List.any_eq_false.1 h p hp; simpa using this)

section
variable {w : World} {r : Nat} {now : Int} {v : Value} {L : List (Int × Int)}
set_option maxRecDepth 100000 in
set_option maxHeartbeats 4000000 in
theorem rcancel_any (h : RfAt w r now v L) (hl : L.length ≤ 64) (id : Int) : Calls Try.prog 14 #[.pointer (some ⟨r, 0, none⟩), .int .i64 id] w fun e w' => e = .returned (.int .i64 (if has L id = true then 0 else 7)) ∧ RfEnd w r now v (noId L id) w' := by
  have H := hide h
  have X := hide (without_any h hl id)
  obtain ⟨ce, hce⟩ : ∃ x, (if has L id = true then (0 : Int) else 7) = x := ⟨_, rfl⟩
  have CE := hide hce
  rw [hce]
  clear h hce
  go_enter Try.func14, Try.ntmps14
  go_wp2_with fail
  refine X.out.mono ?_
  rintro e w1 ⟨v1, rfl, ho, hb⟩
  have H1 := H.out.later hb
  cases hh : has L id
  · have FIN : Hid (Ending.returned (.int .i64 7) = .returned (.int .i64 ce) ∧ RfEnd w r now v (noId L id) w1) := by
      refine ⟨by rw [← CE.out, hh]; rfl, v, ?_, fun k hk => .inr hk, But.of_below hb⟩
      rw [noId_same hh]; exact H1
    clear H1 ho hb hh
    go_wp2
    go_ret
    exact FIN.out
  · obtain ⟨a, c, rfl⟩ := row_shape ho
    have c1 := H1.c1
    have f1 := H1.fz 1
    have nr : (Value.slice a (noId L id).length c).ownBlock ≠ some r := fun e => by
      have := (row_own_ge ho r e).1
      have := H.out.lt
      omega
    have FIN : Hid (Ending.returned (.int .i64 0) = .returned (.int .i64 ce) ∧ RfEnd w r now v (noId L id) (w1.setCell ⟨r, 1, none⟩ (.slice a (noId L id).length c))) := by
      refine ⟨by rw [← CE.out, hh]; rfl, _, H1.put (row_zero ho) nr, fun k hk => .inl (row_own_ge ho k hk).1, ?_⟩
      exact (But.of_below hb).trans (but_set w1 r 1 _)
    clear H1 ho hb hh nr
    generalize (noId L id).length = nn at *
    go_wp2
    go_ret
    exact FIN.out
set_option maxRecDepth 100000 in
set_option maxHeartbeats 8000000 in
theorem rarm_any (h : RfAt w r now v L) (hl : L.length ≤ 64) (id t : Int) : Calls Try.prog 12 #[.pointer (some ⟨r, 0, none⟩), .int .i64 id, .int .i64 t] w fun e w' => e = .returned (.int .i64 (arE now L id t)) ∧ RfEnd w r now v (arL now L id t) w' := by
  have H := hide h
  have X := hide (without_any h hl id)
  have c0 := h.c0
  obtain ⟨va, vc, ev, _⟩ := h.row.shape
  have EV := hide ev
  have HL := hide hl
  obtain ⟨bd, hbd⟩ : ∃ B, arBad now id t = B := ⟨_, rfl⟩
  have EB := hide hbd
  have BB := hide (show bd = (decide (id < 0) || decide (t ≤ now) || decide (1099511627776 < t)) from hbd.symm)
  clear h hbd ev
  go_enter Try.func12, Try.ntmps12
  go_upto_region 1 with fail
  go_cut [22] (fun c wc => c = .bool bd ∧ w = wc)
  case first =>
    by_cases h1 : id < 0
    · go_wp2
      go_meet
      case rel => exact ⟨by rw [BB.out, decide_eq_true h1]; simp, rfl⟩
    · by_cases h2 : t ≤ now
      · go_wp2
        go_meet
        case rel => exact ⟨by rw [BB.out, decide_eq_true h2]; simp, rfl⟩
      · go_wp2
        go_meet
        case rel => exact ⟨by rw [BB.out, decide_eq_false (show ¬ id < 0 by omega), decide_eq_false (show ¬ t ≤ now by omega)]; simp, rfl⟩
  case rest =>
    obtain ⟨rfl, hw⟩ := hcut
    subst hw
    cases bd
    · have E1 : Hid (arE now L id t = if has L id = false ∧ L.length = 64 then 6 else 0) := by show _ = _; rw [arE, EB.out, if_neg (by simp)]
      go_wp2_with fail
      refine X.out.mono ?_
      rintro e w1 ⟨v1, rfl, ho, hb⟩
      have H1 := hide (H.out.later hb)
      have c1 := H1.out.c1
      have f1 := H1.out.fz 1
      rw [EV.out] at c1
      clear X
      by_cases hf : has L id = false ∧ L.length = 64
      · have FIN : Hid (Ending.returned (.int .i64 6) = .returned (.int .i64 (arE now L id t)) ∧ RfEnd w r now v (arL now L id t) w1) := by
          have e6 : arE now L id t = 6 := by rw [E1.out, if_pos hf]
          refine ⟨by rw [e6], v, ?_, fun k hk => .inr hk, But.of_below hb⟩
          rw [arL, e6, if_neg (by decide)]; exact H1.out
        obtain ⟨hh, hl6⟩ := hf
        rw [hh]
        have z6 : (L.length : Int) = 64 := by omega
        clear H1 ho hb hh hl6
        go_wp2
        go_ret
        exact FIN.out
      · have e0 : arE now L id t = 0 := by rw [E1.out, if_neg hf]
        have eL : arL now L id t = noId L id ++ [(id, t)] := by rw [arL, e0, if_pos rfl]
        have hl2 : (noId L id).length ≤ 64 := Nat.le_trans (List.length_filter_le _ _) HL.out
        obtain ⟨g', c', w', hrun, ho2, hb2⟩ := more_one ho (id, t) hb.size hl2
        simp only at hrun
        have rw1 : w1.heap.size ≤ w'.heap.size := hb2.size
        have B2 : Below w.heap.size w w' := hb.trans (hb2.below hb.size (fun g hg e => by
          have := (row_own_ge ho g e).1
          omega))
        have H2 := H.out.later B2
        have c2 := H2.c1
        have f2 := H2.fz 1
        rw [EV.out] at c2
        have nr : (Value.slice (some ⟨g', 0, none⟩) ((noId L id).length + 1) c').ownBlock ≠ some r := fun e => by
          have := (row_own_ge ho2 r e).1
          have := H.out.lt
          omega
        have FIN : Hid (Ending.returned (.int .i64 0) = .returned (.int .i64 (arE now L id t)) ∧ RfEnd w r now v (arL now L id t) (w'.setCell ⟨r, 1, none⟩ (.slice (some ⟨g', 0, none⟩) ((noId L id).length + 1) c'))) := by
          refine ⟨by rw [e0], _, ?_, fun k hk => .inl (row_own_ge ho2 k hk).1, ?_⟩
          · rw [eL]; exact H2.put (row_zero ho2) nr
          · exact (But.of_below B2).trans (but_set w' r 1 _)
        have HRN := hide hrun
        have cnd : (!(has L id) && ((L.length : Int) == 64)) = false := by
          rw [Bool.eq_false_iff]
          intro q
          simp only [Bool.and_eq_true, Bool.not_eq_true', beq_iff_eq] at q
          exact hf ⟨q.1, by omega⟩
        clear H1 H2 ho ho2 hb hb2 B2 nr e0 eL hl2 hrun rw1
        generalize (noId L id).length + 1 = nn at *
        cases hh : has L id
        · have h64 : ((L.length : Int) == 64) = false := by rw [hh] at cnd; simpa using cnd
          clear hf cnd
          go_wp2_with (at_builtin; refine wpList_app rfl _ _ 32 32 rfl _ _ rfl rfl HRN.out ?_)
          go_wp2
          go_ret
          exact FIN.out
        · clear hf cnd
          go_wp2_with (at_builtin; refine wpList_app rfl _ _ 32 32 rfl _ _ rfl rfl HRN.out ?_)
          go_wp2
          go_ret
          exact FIN.out
    · have FIN : Hid (Ending.returned (.int .i64 1) = .returned (.int .i64 (arE now L id t)) ∧ RfEnd w r now v (arL now L id t) w) := by
        have e3 : arE now L id t = 1 := by rw [arE, EB.out, if_pos rfl]
        refine ⟨by rw [e3], v, ?_, fun k hk => .inr hk, But.refl _ _⟩
        rw [arL, e3, if_neg (by decide)]
        exact H.out
      go_wp2
      go_ret
      exact FIN.out
theorem due_skip {L : List (Int × Int)} {i : Nat} {p : Int × Int} (h : L[i]? = some p) (id : Int) : dueOf (L.drop i) id = if p.1 = id then some p.2 else dueOf (L.drop (i + 1)) id := by
  have hi := (List.getElem?_eq_some_iff.1 h).1
  rw [List.drop_eq_getElem_cons hi]
  rw [List.getElem?_eq_getElem hi] at h
  rw [Option.some.inj h]
  unfold dueOf
  rw [List.find?_cons]
  by_cases e : p.1 = id
  · rw [if_pos e, decide_eq_true e]; rfl
  · rw [if_neg e, decide_eq_false e]
set_option maxRecDepth 100000 in
set_option maxHeartbeats 4000000 in
theorem rdue_any (h : RfAt w r now v L) (hl : L.length ≤ 64) (id : Int) : Calls Try.prog 16 #[.pointer (some ⟨r, 0, none⟩), .int .i64 id] w fun e w' => e = .returned (.tuple #[.int .i64 ((dueOf L id).getD 0), .bool (dueOf L id).isSome]) ∧ w' = w := by
  obtain ⟨a, c, e, hg⟩ := h.row.shape
  have c1 := h.c1
  have hrow := h.row
  rw [e] at c1 hrow
  have HROW := hide hrow
  have HG := hide hg
  clear h e hg hrow
  obtain ⟨D, hD⟩ : ∃ D, dueOf L id = D := ⟨_, rfl⟩
  have HD := hide hD
  rw [hD]
  clear hD
  go_enter Try.func16, Try.ntmps16
  go_wp2
  go_loopw [6] (fun v6 wr => ∃ i : Nat, v6 = .int .i64 (i : Int) ∧ i ≤ L.length ∧ Hid (dueOf (L.drop i) id = D) ∧ w = wr) (fun v6 _ => L.length - (intOf v6).toNat)
  case atStart => exact ⟨0, rfl, Nat.zero_le _, HD.out, rfl⟩
  case round =>
    obtain ⟨i, rfl, hi, HF, hw⟩ := hrel
    subst hw
    by_cases hlt : i < L.length
    · obtain ⟨g, rfl⟩ := HG.out (by omega)
      obtain ⟨⟨pid, ptm⟩, hp⟩ : ∃ o, L[i]? = some o := ⟨L[i], List.getElem?_eq_getElem hlt⟩
      obtain ⟨q0, q1⟩ := HROW.out.at hp
      have zi : (i : Int) < (L.length : Int) := by omega
      have S := due_skip hp id
      rw [HF.out] at S
      by_cases e : pid = id
      · subst e
        rw [if_pos rfl] at S
        have FIN : Hid (Ending.returned (.tuple #[.int .i64 ptm, .bool true]) = .returned (.tuple #[.int .i64 (D.getD 0), .bool D.isSome])) := (by rw [S]; rfl : _ = _)
        clear hp S
        go_wp2
        go_ret2
        exact ⟨FIN.out, rfl⟩
      · rw [if_neg e] at S
        have HS := hide S.symm
        clear hp S
        go_wp2
        go_roundw
        case rel => exact ⟨i + 1, by go_num, by omega, HS.out, trivial⟩
        case measure => simp [intOf]; omega
    · obtain rfl : i = L.length := by omega
      have S := HF.out
      rw [List.drop_of_length_le (Nat.le_refl _)] at S
      have FIN : Hid (Ending.returned (.tuple #[.int .i64 0, .bool false]) = .returned (.tuple #[.int .i64 (D.getD 0), .bool D.isSome])) := (by rw [← S]; rfl : _ = _)
      clear S
      go_wp2
      go_ret2
      exact ⟨FIN.out, rfl⟩
set_option maxRecDepth 100000 in
set_option maxHeartbeats 4000000 in
theorem rnext_any (h : RfAt w r now v L) (hl : L.length ≤ 64) : Calls Try.prog 21 #[.pointer (some ⟨r, 0, none⟩)] w fun e w' => ∃ m, e = .returned (.tuple #[.int .i64 (m.getD 0), .bool m.isSome]) ∧ LeastIs L m ∧ w' = w := by
  obtain ⟨a, c, e, hg⟩ := h.row.shape
  have c1 := h.c1
  have hrow := h.row
  rw [e] at c1 hrow
  have HROW := hide hrow
  have HG := hide hg
  clear h e hg hrow
  go_enter Try.func21, Try.ntmps21
  by_cases h0 : L.length = 0
  · have e0 : L = [] := List.length_eq_zero_iff.1 h0
    have FIN : Hid (∃ m : Option Int, Ending.returned (.tuple #[.int .i64 0, .bool false]) = .returned (.tuple #[.int .i64 (m.getD 0), .bool m.isSome]) ∧ LeastIs L m) := ⟨none, rfl, ⟨fun _ => e0, fun x hx => by cases hx⟩⟩
    have z0 : (L.length : Int) = 0 := by omega
    clear e0 h0
    go_wp2
    go_ret2
    exact FIN.out.elim fun m hm => ⟨m, hm.1, hm.2, rfl⟩
  · obtain ⟨g, rfl⟩ := HG.out (by omega)
    obtain ⟨p, hp⟩ : ∃ o, L[0]? = some o := ⟨L[0], List.getElem?_eq_getElem (by omega)⟩
    obtain ⟨_, q1⟩ := HROW.out.at hp
    simp only [Nat.zero_mul, Nat.zero_add] at q1
    have z0 : ((L.length : Int) == 0) = false := by rw [beq_eq_false_iff_ne]; omega
    have z1 : (0 : Int) < (L.length : Int) := by omega
    have HP := hide hp
    clear hp
    go_wp2
    go_loopw [4, 5] (fun v4 v5 wr => ∃ (i : Nat) (x : Int), v4 = .int .i64 x ∧ v5 = .int .i64 (i : Int) ∧ i ≤ L.length ∧ Hid (∃ p ∈ L, p.2 = x) ∧ Hid (∀ j p, j < i → L[j]? = some p → x ≤ p.2) ∧ w = wr) (fun _ v5 _ => L.length - (intOf v5).toNat)
    case atStart => exact ⟨0, p.2, rfl, rfl, Nat.zero_le _, ⟨p, List.mem_of_getElem? HP.out, rfl⟩, fun j p hj => by omega, rfl⟩
    case round =>
      obtain ⟨i, x, rfl, rfl, hi, HX, HM, hw⟩ := hrel
      subst hw
      clear q1
      by_cases hlt : i < L.length
      · obtain ⟨⟨pid, ptm⟩, hp⟩ : ∃ o, L[i]? = some o := ⟨L[i], List.getElem?_eq_getElem hlt⟩
        obtain ⟨q0, q1⟩ := HROW.out.at hp
        have zi : (i : Int) < (L.length : Int) := by omega
        have HPI := hide hp
        clear hp
        by_cases e : ptm < x
        · go_wp2
          go_roundw
          case rel => exact ⟨i + 1, ptm, rfl, by go_num, by omega, ⟨_, List.mem_of_getElem? HPI.out, rfl⟩, fun j p hj hp => by
            by_cases q : j = i
            · subst q; rw [HPI.out] at hp; cases hp; exact Int.le_refl _
            · have := HM.out j p (by omega) hp; omega, trivial⟩
          case measure => simp [intOf]; omega
        · go_wp2
          go_roundw
          case rel => exact ⟨i + 1, x, rfl, by go_num, by omega, HX.out, fun j p hj hp => by
            by_cases q : j = i
            · subst q; rw [HPI.out] at hp; cases hp; show x ≤ ptm; omega
            · exact HM.out j p (by omega) hp, trivial⟩
          case measure => simp [intOf]; omega
      · obtain rfl : i = L.length := by omega
        have FIN : Hid (∃ m : Option Int, Ending.returned (.tuple #[.int .i64 x, .bool true]) = .returned (.tuple #[.int .i64 (m.getD 0), .bool m.isSome]) ∧ LeastIs L m) :=
          ⟨some x, rfl, ⟨(fun hx => by cases hx), fun y hy => by cases hy; exact ⟨HX.out, fun p hp => by
            obtain ⟨j, hj, e⟩ := List.getElem_of_mem hp
            exact HM.out j p hj (by rw [List.getElem?_eq_getElem hj, e])⟩⟩⟩
        go_wp2
        go_ret2
        exact FIN.out.elim fun m hm => ⟨m, hm.1, hm.2, rfl⟩
end
end Go.Proofs.Ytglbobobifejmaa
