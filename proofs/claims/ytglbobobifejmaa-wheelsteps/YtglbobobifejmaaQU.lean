
/-
  take: all timers up to a tick, slot by slot.
-/
import Derived.Test.YtglbobobifejmaaQT
namespace Go.Proofs.Ytglbobobifejmaa
open Go.RowKit

section
variable {ρ : Nat → Nat} {w : World} {b : Nat} {now : Int} {V : Nat → Value} {SL : Nat → List (Int × Int)}

theorem more_one {B : Nat} {W : World} {v : Value} {l : List (Int × Int)} (hx : W.ownsRow B 49 2 v l.length (flt l)) (p : Int × Int) (hB : B ≤ W.heap.size) (hl : l.length ≤ 64) :
    ∃ g' c' w', (Builtin.append_ #[32, 32] 32 #[v, .slice (some ⟨W.heap.size, 0, none⟩) 1 1]).run Try.prog (W.alloc (.cells #[.int .i64 p.1, .int .i64 p.2] 49)) = .ok (.slice (some ⟨g', 0, none⟩) (l.length + 1) c') w' ∧
      w'.ownsRow B 49 2 (.slice (some ⟨g', 0, none⟩) (l.length + 1) c') (l ++ [p]).length (flt (l ++ [p])) ∧ But (fun k => v.ownBlock = some k) W w' := by
  obtain ⟨inf, hi, hz0, hz1, hz2⟩ := info_parts info_fi
  have hb0 : But (fun _ => False) W (W.alloc (.cells #[.int .i64 p.1, .int .i64 p.2] 49)) := (But.refl _ _).alloc _
  have hx' := row_own_keep hx hb0 (fun _ _ => id)
  obtain ⟨g', c', w', hrun, ho, hbut, _, _, _⟩ := run_more (W := W.alloc (.cells #[.int .i64 p.1, .int .i64 p.2] 49)) 32 49 inf _ 2 16 Try.underlying32 hi hz0 hz1 hz2 rfl (by omega) hx' ⟨W.heap.size, 0, none⟩ 1 1 [.int .i64 p.1, .int .i64 p.2] rfl (fun j u hv => by
    rw [Addr.add_lit, cell_of_row _ W.heap.size (0 + j) _ 49 (0, 0) (heap_alloc_new W _), Nat.zero_add]
    simpa using hv) (by intro u hu; simp only [List.mem_cons, List.not_mem_nil, or_false] at hu; rcases hu with rfl | rfl <;> rfl) (by omega) (by simp; omega) (by unfold maxLen; omega) (by omega)
  refine ⟨g', c', w', hrun, ?_, ((But.refl _ W).alloc _).trans hbut⟩
  rw [List.length_append, flt_append]
  exact ho

set_option maxRecDepth 100000 in
set_option maxHeartbeats 8000000 in
theorem take_any (h : WhAt ρ w b now V SL) (hs : ∀ s, s < 64 → (SL s).Pairwise (fun p q => p.2 ≤ q.2)) (h64 : tot SL 64 ≤ 64) (to_ : Int) :
    Calls Try.prog 28 #[.pointer (some ⟨b, 0, none⟩), .int .i64 to_] w fun e w' => ∃ v, e = .returned v ∧ w'.ownsRow w.heap.size 49 2 v (cmK SL to_ 64).length (flt (cmK SL to_ 64)) ∧ (∃ V', WhAt ρ w' b now V' (mixS SL to_ 64)) ∧ But (fun g => ρ g ≠ 0) w w' := by
  have LT := hide h.lt
  have H := hide h
  have RZ : Hid (∀ g, w.heap.size ≤ g → ρ g = 0) := fun g hg => Classical.byContradiction fun hc => by have := LT.out g hc; omega
  have HS := hide hs
  have H64 := hide h64
  clear h hs h64
  go_enter Try.func28, Try.ntmps28
  go_wp2
  go_step3
  go_wp2
  go_step3
  go_wp2
  go_loopw [5, 9] (fun v5 v9 wr => ∃ (k : Nat) (V1 : Nat → Value), v9 = .int .i64 (k : Int) ∧ k ≤ 64 ∧ Hid (WhAt ρ wr b now V1 (mixS SL to_ k)) ∧ Hid (wr.ownsRow w.heap.size 49 2 v5 (cmK SL to_ k).length (flt (cmK SL to_ k))) ∧ Hid (But (fun g => ρ g ≠ 0) w wr)) (fun _ v9 _ => 64 - (intOf v9).toNat)
  case atStart => exact ⟨0, V, rfl, Nat.zero_le _, by rw [mixS_zero]; exact H.out, World.ownsRow_nil _ _ _ _, But.refl _ _⟩
  case round =>
    obtain ⟨k, V1, rfl, hk, HW, HC, HB⟩ := hrel
    by_cases hlt : k < 64
    · have zk : (k : Int) < 64 := by omega
      have c1 := HW.out.cell k hlt
      obtain ⟨a, c, e, hg⟩ := (HW.out.row k hlt).shape
      rw [mixS_at] at e hg
      rw [e] at c1
      obtain ⟨n, hn⟩ : ∃ n, (SL k).length = n := ⟨_, rfl⟩
      rw [hn] at e c1 hg
      have HN := hide hn
      have HE := hide e
      have HG := hide hg
      have n64 : (n : Int) ≤ 64 := by have := len_le_tot SL 64 k hlt; have := H64.out; omega
      have Z0 := hide HB.out.size
      clear e hg hn hk
      go_wp2
      go_loopw [5, 19] (fun v5 v19 wq => ∃ (i : Nat), v19 = .int .i64 (i : Int) ∧ i ≤ n ∧ Hid (∀ q ∈ (SL k).take i, q.2 ≤ to_) ∧ Hid (WhAt ρ wq b now V1 (mixS SL to_ k)) ∧ Hid (wq.ownsRow w.heap.size 49 2 v5 (cmK SL to_ k ++ (SL k).take i).length (flt (cmK SL to_ k ++ (SL k).take i))) ∧ Hid (But (fun g => ρ g ≠ 0) w wq)) (fun _ v19 _ => n - (intOf v19).toNat)
      case atStart => exact ⟨0, rfl, Nat.zero_le _, (fun q hq => by simp at hq), HW.out, (by show World.ownsRow _ _ _ _ _ _ _; rw [List.take_zero, List.append_nil]; exact HC.out), HB.out⟩
      case round =>
        clear HW HC HB c1 Z0
        obtain ⟨i, rfl, hi, HA, HW, HC, HB⟩ := hrel
        by_cases hin : i < n
        · obtain ⟨g, rfl⟩ := HG.out (by omega)
          obtain ⟨p, hp⟩ : ∃ p, (SL k)[i]? = some p := ⟨_, List.getElem?_eq_getElem (by rw [HN.out]; exact hin)⟩
          have R := HW.out.row k hlt
          rw [mixS_at, HE.out] at R
          have R' := R
          rw [← HN.out] at R'
          obtain ⟨a0, a1⟩ := R'.at hp
          obtain ⟨id, tm⟩ := p
          simp only at a0 a1
          have zi : (i : Int) < (n : Int) := by omega
          have HP := hide hp
          have HR := hide R
          have hlw : b < wr.heap.size := HW.out.blt
          have hbn : ¬ b = wr.heap.size := by omega
          have hbn2 : ¬ wr.heap.size = b := by omega
          clear R R' hp hi
          by_cases htm : to_ < tm
          · have b1 : But (fun _ => False) wr (wr.alloc (.cells #[.int .i64 id, .int .i64 tm] 49)).drew := ((But.refl _ _).alloc _).drew
            have W1 := HW.out.but b1 (fun _ e => e.elim)
            have R1 := W1.row k hlt
            rw [mixS_at, HE.out] at R1
            have HC1 := hide (row_own_keep HC.out b1 (fun _ _ e => e))
            have XD := hide (Delete_cut R1 i (by rw [HN.out]; exact hin) (by rw [HN.out]; omega))
            obtain ⟨k1, k2⟩ := cut_some (HS.out k hlt) HP.out htm HA.out
            have HW1 := hide W1
            have B1 : Hid (But (fun g => ρ g ≠ 0) w (wr.alloc (.cells #[.int .i64 id, .int .i64 tm] 49)).drew) := HB.out.trans (b1.mono (fun _ e => e.elim))
            have C1 : Hid (cmK SL to_ (k + 1) = cmK SL to_ k ++ (SL k).take i) := by show cmK SL to_ k ++ _ = _; rw [k1]
            have K2 := hide k2
            have c1 := W1.cell k hlt
            rw [HE.out] at c1
            have NB : Hid (¬ (V1 k).ownBlock = some b) := fun e => by have := HW.out.role k hlt b e; have := HW.out.rb; omega
            clear W1 R1 b1 k1 k2 HC HW HB HA
            go_upto_region 9 with fail
            obtain ⟨X1, eX1⟩ : ∃ X1, wr.alloc (.cells #[.int .i64 id, .int .i64 tm] 49) = X1 := ⟨_, rfl⟩
            rw [eX1] at HC1 XD HW1 B1 c1 ⊢
            have c1' : X1.cell? ⟨b, 1 + k, none⟩ = some (.slice (some ⟨g, 0, none⟩) n c) := c1
            have FIN : Hid (∀ (w4 : World) (v' : Value), RowL w4 v' ((SL k).drop i) → (∀ q, v'.ownBlock = some q → (Value.slice (some ⟨g, 0, none⟩) n c).ownBlock = some q) → But (fun q => (Value.slice (some ⟨g, 0, none⟩) n c).ownBlock = some q) X1.drew w4 →
                (w4.cell? ⟨b, 1 + k, none⟩).isSome = true ∧ w4.frozen? ⟨b, 1 + k, none⟩ = false ∧ WhAt ρ (w4.setCell ⟨b, 1 + k, none⟩ v') b now (upd V1 k v') (mixS SL to_ (k + 1)) ∧
                (w4.setCell ⟨b, 1 + k, none⟩ v').ownsRow w.heap.size 49 2 u5 (cmK SL to_ (k + 1)).length (flt (cmK SL to_ (k + 1))) ∧ But (fun g => ρ g ≠ 0) w (w4.setCell ⟨b, 1 + k, none⟩ v')) := fun w4 v' hR hv hb => by
              rw [← HE.out] at hv hb
              have hbb : But (fun g => ρ g ≠ 0) X1.drew w4 := hb.mono (fun x e => by have := HW1.out.role k hlt x e; omega)
              have hlen : ((SL k).drop i).length ≤ 64 := by rw [List.length_drop, HN.out]; omega
              have hp := HW1.out.put k hlt (w' := w4) hb hR hv hlen
              rw [mixS_succ SL to_ k _ K2.out.symm] at hp
              have b5 : But (fun g => ρ g ≠ 0) X1.drew (w4.setCell ⟨b, 1 + k, none⟩ v') := hbb.setCell (p := ⟨b, 1 + k, none⟩) (.inr (by show ρ b ≠ 0; rw [HW1.out.rb]; omega)) _
              refine ⟨by rw [hb.cell (p := ⟨b, 1 + k, none⟩) HW1.out.blt NB.out, HW1.out.cell k hlt]; rfl, (hb.frozen (p := ⟨b, 1 + k, none⟩) HW1.out.blt NB.out).trans (HW1.out.fz _), hp, ?_, B1.out.trans b5⟩
              rw [C1.out]
              exact row_own_keep HC1.out b5 (fun q hq e => e (RZ.out q (row_own_ge HC1.out q hq).1))
            clear eX1
            go_region_with (go_at_call 27; refine XD.out.mono ?_; rintro _ w4 ⟨g4, n4, c4, rfl, hR, hv, hb⟩; obtain ⟨s1, s2, s3⟩ := FIN.out w4 _ hR hv hb; obtain ⟨uu, hu⟩ := Option.isSome_iff_exists.1 s1; have S3 := hide s3; clear hR hv hb s1 s3)
            all_goals go_wp2
            all_goals go_roundw
            all_goals first
              | exact ⟨k + 1, _, by go_num, by omega, S3.out.1, S3.out.2.1, S3.out.2.2⟩
              | (simp [intOf]; omega)
          · have tle : tm ≤ to_ := by omega
            have lC : (cmK SL to_ k ++ (SL k).take i).length ≤ 64 := by
              rw [List.length_append, List.length_take]
              have h1 := cm_len SL to_ k
              have h2 := tot_mono SL (show k + 1 ≤ 64 by omega)
              have h3 : tot SL (k + 1) = tot SL k + (SL k).length := rfl
              have h4 := H64.out
              omega
            have b1 : But (fun _ => False) wr (wr.alloc (.cells #[.int .i64 id, .int .i64 tm] 49)) := (But.refl _ _).alloc _
            obtain ⟨g', c', w', hrun, ho, hb2⟩ := more_one (row_own_keep HC.out b1 (fun _ _ e => e)) (id, tm) (Nat.le_trans HB.out.size b1.size) lC
            rw [World.size_alloc] at hrun
            simp only at hrun
            have eT : (SL k).take (i + 1) = (SL k).take i ++ [(id, tm)] := by
              rw [List.take_add_one, HP.out]; rfl
            rw [List.append_assoc, ← eT] at ho
            have KZ : ∀ g, u5.ownBlock = some g → ρ g = 0 := fun g e => RZ.out g (row_own_ge HC.out g e).1
            have W2 := hide ((HW.out.but b1 (fun _ e => e.elim)).but hb2 KZ)
            have B2 : Hid (But (fun g => ρ g ≠ 0) w w') := (HB.out.trans (b1.mono (fun _ e => e.elim))).trans' hb2 (fun g hg e => by
              have := (row_own_ge HC.out g e).1
              omega)
            have HA2 : Hid (∀ q ∈ (SL k).take (i + 1), q.2 ≤ to_) := fun q hq => by
              rw [eT] at hq
              rcases List.mem_append.1 hq with hq | hq
              · exact HA.out q hq
              · simp only [List.mem_cons, List.not_mem_nil, or_false] at hq
                rw [hq]; exact tle
            have HO := hide ho
            have HRN := hide hrun
            clear hrun ho hb2 b1 eT KZ lC HA HW HB HC htm
            generalize (cmK SL to_ k ++ (SL k).take i).length + 1 = nn at *
            go_wp2_with (at_builtin; refine wpList_app rfl _ _ 32 32 rfl _ _ rfl rfl HRN.out ?_)
            go_wp2
            go_roundw
            case rel => exact ⟨i + 1, by go_num, by omega, HA2.out, W2.out, HO.out, B2.out⟩
            case measure => simp [intOf]; omega
        · obtain rfl : i = n := by omega
          have c1 := HW.out.cell k hlt
          have f1 := HW.out.fz (1 + k)
          rw [HE.out] at c1
          have hall : ∀ q ∈ SL k, q.2 ≤ to_ := fun q hq => HA.out q (by rw [List.take_of_length_le (by rw [HN.out]; exact Nat.le_refl _)]; exact hq)
          obtain ⟨k1, k2⟩ := cut_all hall
          have S := hide (HW.out.nil k hlt)
          rw [mixS_succ SL to_ k [] k2.symm] at S
          have C2 := hide HC.out
          rw [List.take_of_length_le (by rw [HN.out]; exact Nat.le_refl _)] at C2
          have EC : cmK SL to_ (k + 1) = cmK SL to_ k ++ SL k := by show cmK SL to_ k ++ _ = _; rw [k1]
          rw [← EC] at C2
          have BB : But (fun g => ρ g ≠ 0) wr (wr.setCell ⟨b, 1 + k, none⟩ (.slice none 0 0)) := (But.refl _ _).setCell (p := ⟨b, 1 + k, none⟩) (.inr (by show ρ b ≠ 0; rw [HW.out.rb]; omega)) _
          have HBB := hide BB
          clear hall k1 k2 EC hi hin HA BB
          go_wp2
          go_roundw
          case rel => exact ⟨k + 1, _, by go_num, by omega, S.out, row_own_keep C2.out HBB.out (fun q hq e => e (RZ.out q (row_own_ge C2.out q hq).1)), HB.out.trans HBB.out⟩
          case measure => simp [intOf]; omega
    · obtain rfl : k = 64 := by omega
      have FIN : Hid (∃ v, Ending.returned (u5) = .returned v ∧ wr.ownsRow w.heap.size 49 2 v (cmK SL to_ 64).length (flt (cmK SL to_ 64)) ∧ (∃ V', WhAt ρ wr b now V' (mixS SL to_ 64)) ∧ But (fun g => ρ g ≠ 0) w wr) := ⟨_, rfl, HC.out, ⟨_, HW.out⟩, HB.out⟩
      go_wp2
      first
        | go_ret
        | (rw [Exit.noGoto_ret]; go_ret)
      exact FIN.out
end
end Go.Proofs.Ytglbobobifejmaa
