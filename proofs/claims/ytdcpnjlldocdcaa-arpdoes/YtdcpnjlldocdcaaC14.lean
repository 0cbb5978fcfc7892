
/-
  The law's own: two lists of numbers are alike.
-/
import Derived.Test.YtdcpnjlldocdcaaC13
namespace Go.Proofs.Ytdcpnjlldocdcaa
open Go.RowKit Go.Shelf

theorem But.drewN {K : Nat → Prop} {a w : World} (h : But K a w) (n : Nat) : But K a (w.drewN n) := ⟨h.os, h.tape, h.output, h.size, h.block⟩
theorem RowN.all {O : Nat → Prop} {W : World} {a : Option Addr} {m cap : Nat} {L : List Int} (h : RowN O W (.slice a m cap) L) (hp : 0 < L.length) : ∃ g off, a = some ⟨g, off, none⟩ ∧ g < W.heap.size ∧ O g ∧ (∀ j, W.frozen? ⟨g, j, none⟩ = false) ∧ ∀ k x, L[k]? = some x → W.cell? ⟨g, off + k, none⟩ = some (.int .i64 x) := by
  obtain ⟨a', cap', e, c2, c3, c4, c5⟩ := h
  simp only [Value.slice.injEq] at e
  obtain ⟨rfl, -, -⟩ := e
  cases a with
  | none => have := c4 rfl; omega
  | some ad =>
    obtain ⟨g, off, ho, hl, e, -, hf, hc⟩ := c5 ad rfl
    exact ⟨g, off, by rw [e (by omega)], hl, ho, hf, hc⟩
set_option maxRecDepth 100000 in
set_option maxHeartbeats 2000000 in
theorem nums_any {w : World} {aa ba : Option Addr} {ca bc : Nat} {L : List Int} {O1 O2 : Nat → Prop} (ha : RowN O1 w (.slice aa L.length ca) L) (hb : RowN O2 w (.slice ba L.length bc) L) (hd : ∀ g, O1 g → ¬ O2 g) (hl : L.length ≤ 1000) :
    Calls Try.prog 28 #[.slice aa L.length ca, .slice ba L.length bc] w fun e w' => e = .returned (.bool true) ∧ But O1 w w' := by
  obtain ⟨m, hm⟩ : ∃ m, m = L.length := ⟨_, rfl⟩
  have HM := hide hm
  have HA := hide (fun hp : 0 < L.length => ha.all hp)
  rw [← hm] at ha hb hl ⊢
  have HB := hide hb
  have HD := hide hd
  have zm : (m : Int) ≤ 1000 := by omega
  clear ha hb hd hm
  go_enter Try.func28, Try.ntmps28
  go_wp2
  go_loopw [5, 6] (fun v5 v6 wr => ∃ i : Nat, v5 = .bool true ∧ v6 = .int .i64 (i : Int) ∧ i ≤ m ∧ Hid (But O1 w wr ∧ ∀ g off, aa = some ⟨g, off, none⟩ → O1 g → 0 < L.length → (∀ j y, i ≤ j → L[j]? = some y → wr.cell? ⟨g, off + j, none⟩ = some (.int .i64 y)) ∧ ∀ j, wr.frozen? ⟨g, j, none⟩ = false)) (fun _ v6 _ => m - (intOf v6).toNat)
  case atStart =>
    refine ⟨0, rfl, rfl, Nat.zero_le _, But.refl _ _, fun g off e _ hp => ?_⟩
    obtain ⟨g', off', e', _, _, hf, hc⟩ := HA.out hp
    rw [e] at e'
    cases e'
    exact ⟨fun j y _ hy => hc j y hy, hf⟩
  case round =>
    obtain ⟨i, rfl, rfl, hi, hq⟩ := hrel
    by_cases hlt : i < m
    · have zi : (i : Int) < (m : Int) := by omega
      have hp : 0 < L.length := by have := HM.out; omega
      obtain ⟨y, hy⟩ : ∃ y, L[i]? = some y := ⟨_, List.getElem?_eq_getElem (by have := HM.out; omega)⟩
      obtain ⟨g, off, rfl, hg, og, _, _⟩ := HA.out hp
      obtain ⟨bw, hcw⟩ := hq.out
      obtain ⟨hc, hf⟩ := hcw g off rfl og hp
      have hb1 := HB.out.but bw (fun b e1 e2 => HD.out b e2 e1)
      obtain ⟨bg, boff, rfl, hbl, hbo, hcs⟩ := hb1.at hp
      have cb := hcs i y hy
      have cg := hc i y (Nat.le_refl _) hy
      have fg := hf (off + i)
      have Q2 : Hid (∀ t, But O1 w ((wr.drewN t).setCell ⟨g, off + i, none⟩ (.int .i64 (-9))) ∧ ∀ g' off', some (⟨g, off, none⟩ : Addr) = some ⟨g', off', none⟩ → O1 g' → 0 < L.length → (∀ j y, i + 1 ≤ j → L[j]? = some y → ((wr.drewN t).setCell ⟨g, off + i, none⟩ (.int .i64 (-9))).cell? ⟨g', off' + j, none⟩ = some (.int .i64 y)) ∧ ∀ j, ((wr.drewN t).setCell ⟨g, off + i, none⟩ (.int .i64 (-9))).frozen? ⟨g', j, none⟩ = false) := fun t => by
        refine ⟨(bw.drewN t).setCell (p := ⟨g, off + i, none⟩) (.inr og) _, fun g' off' e _ _ => ?_⟩
        cases e
        refine ⟨fun j y' hj hy' => ?_, fun j => (World.frozen?_setCell ..).trans (hf j)⟩
        rw [setCell_out (by omega)]
        exact hc j y' (by omega) hy'
      clear hb1 hcs hq hy hc hf hcw bw
      go_upto_region 7 with fail
      go_quiet (fail)
      have Q3 := hide (Q2.out nq)
      clear Q2
      go_wp2
      go_roundw
      case rel => exact ⟨i + 1, rfl, by go_num, hlt, Q3.out⟩
      case measure => simp [intOf]; omega
    · obtain rfl : i = m := by omega
      have zi : ¬ (i : Int) < (i : Int) := by omega
      have F := hide hq.out.1
      clear hq
      go_wp2
      go_ret
      exact ⟨rfl, F.out⟩
end Go.Proofs.Ytdcpnjlldocdcaa
