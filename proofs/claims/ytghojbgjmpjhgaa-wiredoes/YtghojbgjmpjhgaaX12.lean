
/-
  alike: do both say the same?
-/
import Derived.Test.YtghojbgjmpjhgaaX5
namespace Go.Proofs.Ytghojbgjmpjhgaa
open Go.RowKit

theorem drewN_below (w : World) (n : Nat) : Below w.heap.size w (w.drewN n) := ⟨rfl, rfl, rfl, Nat.le_refl _, fun _ _ => rfl⟩

section
variable {P : Pl} {ρ : Nat → Nat} {w : World} {ck : Int} {L R : Nat → List (Value × Frm)} {D : Nat → Dev} {T F : Nat → Nat} {m : Nat}

set_option maxRecDepth 100000 in
set_option maxHeartbeats 8000000 in
theorem alike_any (h : Rig P ρ w ck L R D T F m) (hm : m ≤ 2513169434843) :
    Calls Try.prog 10 #[.pointer (some ⟨P.x, 0, none⟩)] w fun e w' => e = .returned (.bool true) ∧ Below w.heap.size w w' := by
  have H := hide h
  have BND := hide (h.toHalf.bounds hm).2.2.2
  have XN : Hid (∀ n, Calls Try.prog 14 #[.pointer (some ⟨P.b, 0, none⟩)] (w.drewN n) fun e w' => e = .returned (.int .i64 ck) ∧ w' = w.drewN n) := fun n => Now_any (h.n.later (drewN_below w n))
  have X2 : Hid (∀ n, Calls Try.prog 21 #[.pointer (some ⟨P.b, 0, none⟩), .int .i64 2] (w.drewN n) fun e w' => e = .returned (.int .i64 0) ∧ w' = w.drewN n) := fun n => by
    have := Len_any (h.n.later (drewN_below w n)) 2
    rw [show (if isDir 2 = true then ((L (2 : Int).toNat).length : Int) else 0) = 0 from by rw [if_neg (by decide)]] at this
    exact this
  have X3 : Hid (∀ n, Calls Try.prog 21 #[.pointer (some ⟨P.b, 0, none⟩), .int .i64 (-1)] (w.drewN n) fun e w' => e = .returned (.int .i64 0) ∧ w' = w.drewN n) := fun n => by
    have := Len_any (h.n.later (drewN_below w n)) (-1)
    rw [show (if isDir (-1) = true then ((L (-1 : Int).toNat).length : Int) else 0) = 0 from by rw [if_neg (by decide)]] at this
    exact this
  have cw := h.c.cw
  have cv := h.c.cv
  have ckc := h.r.clock
  clear h hm
  go_enter Try.func10, Try.ntmps10
  go_upto_region 1 with fail
  refine wp_region_quiet_lit (by kernel_rfl) (by kernel_rfl) ?_
  iterate 18 go_big_quiet_step ((first
    | (go_at_call 14; exact Calls.quiet_of_same (XN.out _))
    | (go_at_call 21; first | exact Calls.quiet_of_same (X2.out _) | exact Calls.quiet_of_same (X3.out _))))
  go_big_quiet_want
  go_big_quiet_op
  refine ⟨_, fun n => Calls.quiet_of_same (X2.out n), ?_⟩
  go_big_quiet_on
  iterate 7 go_big_quiet_step (fail)
  go_big_quiet_want
  go_big_quiet_op
  refine ⟨_, fun n => Calls.quiet_of_same (X3.out n), ?_⟩
  go_big_quiet_on
  iterate 2 go_big_quiet_step (fail)
  refine wpQuiet_nil ?_
  intro _ hw'
  obtain ⟨nq, hw''⟩ := hw'
  subst hw''
  have B1 := hide (drewN_below w nq)
  clear X2 X3 XN cw cv ckc
  generalize w.drewN nq = w1 at *
  go_wp2
  go_loopw [3] (fun v wr => ∃ (i : Nat), v = .int .i64 (i : Int) ∧ i ≤ 2 ∧ Hid (Below w.heap.size w wr)) (fun v _ => 2 - (intOf v).toNat)
  case atStart => exact ⟨0, rfl, by omega, B1.out⟩
  case round =>
    obtain ⟨i, rfl, hi, hB⟩ := hrel
    clear B1
    by_cases hi2 : i < 2
    · have zi : (i : Int) < 2 := by omega
      have zi0 : (0 : Int) ≤ (i : Int) := by omega
      have h2 := H.out.later hB.out
      obtain ⟨v, hv, hL⟩ := h2.r.ls i hi2
      obtain ⟨ra, rc, rfl⟩ := hL.row.shape
      have hlr : (R i).length = (L i).length := by have := congrFun h2.rlens i; unfold lens at this; exact this
      have hln := BND.out i hi2
      rw [hlr] at hv
      have HV : Hid (∀ W, Below w.heap.size w W → W.cell? ⟨P.rb, 2 + i, none⟩ = some (.slice ra (L i).length rc)) := fun W hb => by
        obtain ⟨v', hv', hL'⟩ := H.out.r.ls i hi2
        have e1 := (hB.out.cell (p := ⟨P.rb, 2 + i, none⟩) H.out.r.blt).trans hv'
        rw [hv] at e1
        have e2 := (hb.cell (p := ⟨P.rb, 2 + i, none⟩) H.out.r.blt).trans hv'
        rw [e2, ← e1]
      have QL : Hid (∀ n, Calls Try.prog 21 #[.pointer (some ⟨P.b, 0, none⟩), .int .i64 (i : Int)] (wr.drewN n) fun e w' => e = .returned (.int .i64 ((L i).length : Int)) ∧ w' = wr.drewN n) := fun n => by
        have := Len_any (h2.n.later (drewN_below wr n)) (i : Int)
        rw [if_pos (isDir_of i hi2), Int.toNat_natCast] at this
        exact this
      have cw := h2.c.cw
      have cv := h2.c.cv
      clear h2 hL hlr
      generalize (L i).length = n at *
      have zn : (n : Int) ≤ 2513169434843 := by omega
      go_upto_region 6 with fail
      go_quiet ((go_at_call 21; exact Calls.quiet_of_same (QL.out _)))
      have B2 := hide (hB.out.trans ((drewN_below wr nq).mono hB.out.size))
      clear cw cv hv QL hB
      generalize wr.drewN nq = w2 at *
      go_wp2
      go_loopw [4] (fun v wr => ∃ (k : Nat), v = .int .i64 (k : Int) ∧ k ≤ n ∧ Hid (Below w.heap.size w wr)) (fun v _ => n - (intOf v).toNat)
      case atStart => exact ⟨0, rfl, by omega, B2.out⟩
      case round =>
        obtain ⟨k, rfl, hk, hB⟩ := hrel
        clear B2
        have cv := (hB.out.cell (p := ⟨P.x, 5, none⟩) H.out.c.lt).trans H.out.c.cv
        have hv := HV.out wr hB.out
        by_cases hk2 : k < n
        · have zk : (k : Int) < n := by omega
          have X := hide (sees_any (H.out.later hB.out) (i : Int) (k : Int))
          go_wp2_with fail
          refine X.out.mono ?_
          rintro e w3 ⟨rfl, hb3⟩
          have B3 := hide (hB.out.trans (hb3.mono hB.out.size))
          clear hb3 X cv hv hB
          go_wp2
          go_roundw
          case rel => exact ⟨k + 1, by go_num, by omega, B3.out⟩
          case measure => simp [intOf]; omega
        · obtain rfl : k = n := by omega
          go_wp2
          clear cv hv
          go_loopw [6] (fun v wr => ∃ (j : Nat), v = .int .i64 (j : Int) ∧ j ≤ 16 ∧ Hid (Below w.heap.size w wr)) (fun v _ => 16 - (intOf v).toNat)
          case atStart => exact ⟨0, rfl, by omega, hB.out⟩
          case round =>
            obtain ⟨j, rfl, hj, hB⟩ := hrel
            by_cases hj2 : j < 16
            · have zj : (j : Int) < 16 := by omega
              have h3 := H.out.later hB.out
              have cd := h3.c.cd i hi2
              have X := hide (Rx_any (h3.n.dev i hi2) (h3.n.ok i hi2) (j : Int))
              have Y : Hid (∀ W, Below wr.heap.size wr W → Calls Try.prog 43 #[.pointer (some ⟨P.rdv i, 0, none⟩), .int .i64 (j : Int)] W fun e w' => ∃ a cap, e = .returned (.tuple #[.slice a ((D i).rxF (j : Int)).length cap, .bool ((D i).rxB (j : Int)), .int .i64 ((D i).rxE (j : Int))]) ∧ IsF (Mine ρ) w' (.slice a ((D i).rxF (j : Int)).length cap) ((D i).rxF (j : Int)) ∧ Below W.heap.size W w') := fun W hb => rRx_any ((h3.later hb).r.dev i hi2) (j : Int)
              have CR : Hid (∀ W, Below wr.heap.size wr W → W.cell? ⟨P.x, 3 + i, none⟩ = some (.pointer (some ⟨P.rdv i, 0, none⟩))) := fun W hb => (h3.later hb).c.cr i hi2
              clear h3
              generalize (D i).rxF (j : Int) = bs at *
              generalize (D i).rxB (j : Int) = bd at *
              generalize (D i).rxE (j : Int) = er at *
              go_wp2_with fail
              refine X.out.mono ?_
              rintro e w3 ⟨a3, c3, rfl, g3, hb3⟩
              have cr := CR.out w3 hb3
              have G3 := hide g3
              have B3 := hide hb3
              clear g3 hb3 X cd
              go_wp2_with fail
              refine (Y.out w3 B3.out).mono ?_
              rintro e w4 ⟨a4, c4, rfl, g4, hb4⟩
              have x1 := conv_str ((G3.out.isF (A := fun _ => False) (fun _ _ => id)).later hb4)
              have x2 := conv_str g4
              have B4 := hide (hB.out.trans ((B3.out.trans (hb4.mono B3.out.size)).mono hB.out.size))
              clear g4 hb4 cr G3 Y CR
              generalize strB bs = sx at *
              go_wp2
              go_roundw
              case rel => exact ⟨j + 1, by go_num, by omega, B4.out⟩
              case measure => simp [intOf]; omega
            · obtain rfl : j = 16 := by omega
              go_wp2
              go_roundw
              case rel => exact ⟨i + 1, by go_num, by omega, hB.out⟩
              case measure => simp [intOf]; omega
    · obtain rfl : i = 2 := by omega
      go_wp2
      go_ret
      exact ⟨rfl, hB.out⟩
end
end Go.Proofs.Ytghojbgjmpjhgaa
