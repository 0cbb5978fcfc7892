
/-
  same: two lists that are the same.
-/
import Derived.Test.YtglbobobifejmaaQF3
import Derived.Test.YtglbobobifejmaaQOrder
namespace Go.Proofs.Ytglbobobifejmaa
open Go.RowKit

theorem fzero (w : World) : Sem.run Try.prog (zeroValue 49) w = .ok (.agg #[.int .i64 0, .int .i64 0]) w := by kernel_rfl
/-- from i on the cells hold O -/
structure From (W : World) (g i : Nat) (O : List (Int × Int)) : Prop where
  lt : g < W.heap.size
  c : ∀ j p, i ≤ j → O[j]? = some p → W.cell? ⟨g, j * 2, none⟩ = some (.int .i64 p.1) ∧ W.cell? ⟨g, j * 2 + 1, none⟩ = some (.int .i64 p.2)
  f : ∀ k, W.frozen? ⟨g, k, none⟩ = false
theorem From.set {W W1 : World} {g i : Nat} {O : List (Int × Int)} (h : From W g i O) (hb : But (fun _ => False) W W1) (u1 u2 : Value) : From ((W1.setCell ⟨g, i * 2, none⟩ u1).setCell ⟨g, i * 2 + 1, none⟩ u2) g (i + 1) O := by
  refine ⟨by rw [World.size_setCell, World.size_setCell]; exact Nat.lt_of_lt_of_le h.lt hb.size, fun j p hj hp => ?_, fun k => by rw [World.frozen?_setCell, World.frozen?_setCell]; exact (hb.frozen (p := ⟨g, k, none⟩) h.lt id).trans (h.f k)⟩
  obtain ⟨h1, h2⟩ := h.c j p (by omega) hp
  constructor
  · rw [World.cell?_setCell_other _ _ _ _ (fun q => by have := congrArg Addr.off q; simp only at this; omega), World.cell?_setCell_other _ _ _ _ (fun q => by have := congrArg Addr.off q; simp only at this; omega)]
    exact (hb.cell (p := ⟨g, j * 2, none⟩) h.lt id).trans h1
  · rw [World.cell?_setCell_other _ _ _ _ (fun q => by have := congrArg Addr.off q; simp only at this; omega), World.cell?_setCell_other _ _ _ _ (fun q => by have := congrArg Addr.off q; simp only at this; omega)]
    exact (hb.cell (p := ⟨g, j * 2 + 1, none⟩) h.lt id).trans h2

set_option maxRecDepth 100000 in
set_option maxHeartbeats 8000000 in
theorem same_any {w : World} {va vb : Value} {O : List (Int × Int)} (ha : RowL w va O) (hb : RowL w vb O) (hd : ∀ k, va.ownBlock = some k → vb.ownBlock ≠ some k) (hl : O.length ≤ 64) : Calls Try.prog 19 #[va, vb] w fun e w' => e = .returned (.bool true) ∧ But (fun k => va.ownBlock = some k) w w' := by
  obtain ⟨aa, ac, rfl, hga⟩ := ha.shape
  obtain ⟨ba, bc, rfl, hgb⟩ := hb.shape
  have hz := fzero
  have HA0 : Hid (∀ g, aa = some ⟨g, 0, none⟩ → From w g 0 O) := fun g e => by
    subst e
    refine ⟨(row_own_ge ha g rfl).2, fun j p _ hp => ha.at hp, fun k => World.ownsRow.frozenAt ha k⟩
  have HBB := hide hb
  have HD := hide hd
  clear ha hb hd
  go_enter Try.func19, Try.ntmps19
  go_wp2
  go_loopw [5, 6] (fun v5 v6 wr => ∃ i : Nat, v5 = .bool true ∧ v6 = .int .i64 (i : Int) ∧ i ≤ O.length ∧ Hid (∀ g, aa = some ⟨g, 0, none⟩ → From wr g i O) ∧ Hid (RowL wr (.slice ba O.length bc) O) ∧ Hid (But (fun k => (Value.slice aa O.length ac).ownBlock = some k) w wr)) (fun _ v6 _ => O.length - (intOf v6).toNat)
  case atStart => exact ⟨0, rfl, rfl, Nat.zero_le _, HA0.out, HBB.out, But.refl _ _⟩
  case round =>
    clear HA0 HBB
    obtain ⟨i, rfl, rfl, hi, HA, HB, HW⟩ := hrel
    by_cases hlt : i < O.length
    · obtain ⟨ga, rfl⟩ := hga (by omega)
      obtain ⟨gb, rfl⟩ := hgb (by omega)
      obtain ⟨⟨pid, ptm⟩, hp⟩ : ∃ o, O[i]? = some o := ⟨O[i], List.getElem?_eq_getElem hlt⟩
      have F1 := HA.out ga rfl
      obtain ⟨a0, a1⟩ := F1.c i _ (Nat.le_refl _) hp
      obtain ⟨b0, b1⟩ := HB.out.at hp
      have f0 := F1.f (i * 2)
      have f1 := F1.f (i * 2 + 1)
      have zi : (i : Int) < (O.length : Int) := by omega
      have gne : gb ≠ ga := fun e => HD.out ga rfl (by rw [e]; rfl)
      have FIN : Hid (∀ W1 u1 u2, But (fun _ => False) wr W1 → (∀ g, some (⟨ga, 0, none⟩ : Addr) = some ⟨g, 0, none⟩ → From ((W1.setCell ⟨ga, i * 2, none⟩ u1).setCell ⟨ga, i * 2 + 1, none⟩ u2) g (i + 1) O) ∧ RowL ((W1.setCell ⟨ga, i * 2, none⟩ u1).setCell ⟨ga, i * 2 + 1, none⟩ u2) (.slice (some ⟨gb, 0, none⟩) O.length bc) O ∧ But (fun k => (Value.slice (some ⟨ga, 0, none⟩) O.length ac).ownBlock = some k) w ((W1.setCell ⟨ga, i * 2, none⟩ u1).setCell ⟨ga, i * 2 + 1, none⟩ u2)) := fun W1 u1 u2 hb => by
        have s1 : But (Only ga) W1 ((W1.setCell ⟨ga, i * 2, none⟩ u1).setCell ⟨ga, i * 2 + 1, none⟩ u2) := (but_set W1 ga (i * 2) u1).trans (but_set _ ga (i * 2 + 1) u2)
        refine ⟨fun g e => ?_, ?_, ?_⟩
        · cases e; exact F1.set hb u1 u2
        · exact (HB.out.keep hb (fun _ _ e => e)).keep s1 (fun k hk (e : k = ga) => by cases hk; exact gne e)
        · exact (HW.out.trans (hb.mono (fun _ e => e.elim))).trans (s1.mono (fun k (e : k = ga) => by rw [e]; rfl))
      clear F1 hp HA HB HW HD gne
      go_wp2
      go_quiet (fail)
      go_wp2
      go_roundw
      case rel =>
        obtain ⟨k1, k2, k3⟩ := FIN.out _ _ _ (drewN_but _ wr nq)
        exact ⟨i + 1, rfl, by go_num, by omega, k1, k2, k3⟩
      case measure => simp [intOf]; omega
    · obtain rfl : i = O.length := by omega
      go_wp2
      go_ret
      exact ⟨rfl, HW.out⟩
end Go.Proofs.Ytglbobobifejmaa
