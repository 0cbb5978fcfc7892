
/-
  Package ether: the contract of head.
-/
import Derived.Test.YtipebfaappangaaE5
import Derived.Laws.ResultCell
namespace Go.Proofs.Ytipebfaappangaa
open Go.RowKit

theorem IsF.drop {A : Nat → Prop} {W : World} {a : Option Addr} {n c : Nat} {L : List Int} (h : IsF A W (.slice a n c) L) (k : Nat) (hk : k ≤ L.length) :
    IsF A W (.slice (if c = k then a else Option.map (fun x => x.add k) a) (n - k) (c - k)) (L.drop k) := by
  obtain ⟨a2, c', e, hl, hn, hc⟩ := h
  simp only [Value.slice.injEq] at e
  obtain ⟨rfl, rfl, rfl⟩ := e
  refine ⟨if c = k then a else Option.map (fun x => x.add k) a, c - k, by rw [List.length_drop], by rw [List.length_drop]; omega, fun e => ?_, fun h0 => ?_⟩
  · split at e
    · omega
    · have : a = none := by simpa using e
      have := hn this
      omega
  · simp only [List.length_drop] at h0
    obtain ⟨b, off, rfl, hb, ha, hcs⟩ := hc (by omega)
    refine ⟨b, off + k, by rw [if_neg (by omega)]; simp [Addr.add_lit], hb, ha, fun j hj => ?_⟩
    simp only [List.length_drop] at hj
    rw [Nat.add_assoc, hcs (k + j) (by omega), List.getElem?_drop]
theorem nb_drop (bs : List Int) (k j : Nat) : nb (bs.drop k) j = nb bs (k + j) := by unfold nb; rw [List.getElem?_drop]
theorem macAt_drop (bs : List Int) (k : Nat) : macAt (bs.drop k) 0 = macAt bs k := by simp only [macAt, nb_drop]; rfl

set_option maxHeartbeats 4000000 in
theorem head_any {A : Nat → Prop} {w : World} {v : Value} {bs : List Int} (h : IsF A w v bs) (hB : Bytes bs) (hl : (bs.length : Int) ≤ 4611686018427387904) (h60 : 60 ≤ bs.length) :
    Calls Try.prog 18 #[v] w fun e w' => e = .returned (.tuple #[(hdF bs).val, .bool (hdU bs)]) ∧ Below w.heap.size w w' := by
  obtain ⟨b, off, cap, rfl, hcap⟩ : ∃ b off cap, v = .slice (some ⟨b, off, none⟩) bs.length cap ∧ bs.length ≤ cap := by
    obtain ⟨a, cap, e, hl, _, hc⟩ := h
    obtain ⟨b, off, e1, _⟩ := hc (by omega)
    exact ⟨b, off, cap, by rw [e, e1], hl⟩
  obtain ⟨z, e0⟩ : ∃ z : Fr, z = ⟨⟨0, 0, 0, 0, 0, 0⟩, ⟨0, 0, 0, 0, 0, 0⟩, false, 0, 0, 0⟩ := ⟨_, rfl⟩
  obtain ⟨n, hn⟩ : ∃ n, n = bs.length := ⟨_, rfl⟩
  have H := hide h
  rw [← hn] at H hcap ⊢
  have n60 : (60 : Int) ≤ (n : Int) := by omega
  have n6 : (6 : Int) ≤ (n : Int) := by omega
  have c6 : ¬ cap = 6 := by omega
  have n62 : (n : Int) ≤ 4611686018427387904 := by omega
  have HN := hide hn
  have HB := hide hB
  clear h hB hn h60 hl
  have F0 := FrAt.new w ⟨⟨0, 0, 0, 0, 0, 0⟩, ⟨0, 0, 0, 0, 0, 0⟩, false, 0, 0, 0⟩ 25
  have B0 := later_alloc w (.cells (Fr.cells ⟨⟨0, 0, 0, 0, 0, 0⟩, ⟨0, 0, 0, 0, 0, 0⟩, false, 0, 0, 0⟩) 25)
  simp only [Fr.cells] at F0 B0
  have C12 := hide (at_any (H.out.later B0) HB.out (by rw [← HN.out]; exact n62) 12 (by have := HN.out; omega))
  go_enter Try.func18, Try.ntmps18
  go_wp2_with fail
  refine C12.out.mono ?_
  rintro e w1 ⟨rfl, b1⟩
  clear C12
  obtain ⟨y, hy⟩ : ∃ y, w16 bs 12 = y := ⟨_, rfl⟩
  rw [hy]
  have HY := hide hy
  have F1 := hide ((F0.later b1).al (.cells (Fr.cells ⟨⟨0, 0, 0, 0, 0, 0⟩, ⟨0, 0, 0, 0, 0, 0⟩, false, 0, 0, y⟩) 25))
  have G1 := hide (FrAt.new w1 ⟨⟨0, 0, 0, 0, 0, 0⟩, ⟨0, 0, 0, 0, 0, 0⟩, false, 0, 0, y⟩ 25)
  have B1 := hide (later (later B0 b1) (later_alloc w1 (.cells (Fr.cells ⟨⟨0, 0, 0, 0, 0, 0⟩, ⟨0, 0, 0, 0, 0, 0⟩, false, 0, 0, y⟩) 25)))
  have Z1 : Hid (w.heap.size < w1.heap.size) := by have := b1.size; rw [World.size_alloc] at this; show _ < _; omega
  simp only [Fr.cells] at F1 G1 B1
  clear hy F0 B0 b1 e0 z
  go_upto_region 2 with fail
  obtain ⟨W2, e2⟩ : ∃ W2, w1.alloc (.cells #[.int .u8 0, .int .u8 0, .int .u8 0, .int .u8 0, .int .u8 0, .int .u8 0, .int .u8 0, .int .u8 0, .int .u8 0, .int .u8 0, .int .u8 0, .int .u8 0, .bool false, .int .i64 0, .int .i64 0, .int .i64 y] 25) = W2 := ⟨_, rfl⟩
  rw [e2] at F1 G1 B1 ⊢
  clear e2
  obtain ⟨s, hs⟩ : ∃ s, w1.heap.size = s := ⟨_, rfl⟩
  rw [hs] at G1 Z1 ⊢
  clear hs
  have cp := hide (mac_copy (H.out.later B1.out) (by have := HN.out; omega) G1.out 0 (by omega))
  go_wp2_with fail
  rw [cp.out]
  have G3 := hide (G1.out.setDst (macAt bs 0))
  have q3 := But.cells s (macAt bs 0).vals 0 W2
  have F3 := hide (F1.out.but q3 (fun e => by have e : w.heap.size = s := e; have := Z1.out; omega))
  have B3 := hide (B1.out.trans (q3.below B1.out.size (fun g hg e => by have e : g = s := e; have := Z1.out; omega)))
  clear cp q3 F1 G1 B1
  generalize W2.setCells s 0 (macAt bs 0).vals = W3 at *
  go_wp2
  have id6 := (B3.out |> fun q => H.out.later (later q (later_drew _))).drop 6 (by have := HN.out; omega)
  rw [if_neg c6, Option.map_some, Addr.add_lit] at id6
  have cp := mac_copy id6 (by rw [List.length_drop]; have := HN.out; omega) (G3.out.later (later_drew _)) 6 (by omega)
  rw [macAt_drop] at cp
  have HC := hide cp
  have G4 := hide ((G3.out.later (later_drew _)).setSrc (macAt bs 6))
  have q4 := But.cells s (macAt bs 6).vals 6 W3.drew
  have F4 := hide ((F3.out.later (later_drew _)).but q4 (fun e => by have e : w.heap.size = s := e; have := Z1.out; omega))
  have B4 := hide ((later B3.out (later_drew _)).trans (q4.below (Nat.le_trans B3.out.size (Nat.le_refl _)) (fun g hg e => by have e : g = s := e; have := Z1.out; omega)))
  clear cp id6 q4 F3 G3 B3
  generalize W3.drew.setCells s 6 (macAt bs 6).vals = W4 at *
  go_region_law (refine step_copy rfl _ _ 26 rfl _ _ (by simp [Act.eval, Act.put]) (by simp [Act.eval, Act.put]) HC.out ?_)
  clear HC
  obtain ⟨D, hD⟩ : ∃ D, macAt bs 0 = D := ⟨_, rfl⟩
  obtain ⟨S, hS⟩ : ∃ S, macAt bs 6 = S := ⟨_, rfl⟩
  rw [hD, hS] at G4
  have HD := hide hD
  have HS := hide hS
  clear hD hS
  obtain ⟨d0, d1, d2, d3, d4, d5⟩ := D
  obtain ⟨s0, s1, s2, s3, s4, s5⟩ := S
  obtain ⟨r, hr⟩ : ∃ r, w.heap.size = r := ⟨_, rfl⟩
  have Z := Z1.out
  rw [hr] at F4 Z ⊢
  have HR := hide hr
  clear hr
  have ne : ¬ r = s := by omega
  by_cases hy : y = 33024
  · have F := hide F4.out
    have G := hide G4.out
    have g15 : W4.cell? ⟨s, 15, none⟩ = some (.int .i64 y) := G4.out.c15
    have C14 := hide (at_any (H.out.later B4.out) HB.out (by rw [← HN.out]; exact n62) 14 (by have := HN.out; omega))
    go_wp2_with fail
    refine C14.out.mono ?_
    rintro e w5 ⟨rfl, b5⟩
    obtain ⟨x, hx⟩ : ∃ x, w16 bs 14 = x := ⟨_, rfl⟩
    have x0 : 0 ≤ x ∧ x ≤ 65535 := by
      have h1 := nb_bd HB.out 14
      have h2 := nb_bd HB.out 15
      rw [← hx]
      simp only [w16, Nat.reduceAdd]
      omega
    obtain ⟨x0, x1⟩ := x0
    rw [hx]
    have HX := hide hx
    clear hx C14
    have G5 := G.out.later b5
    have G6 := ((G5.set_tag true).set_vlan (x % 4096)).set_prio (x / 8192)
    have F5 := F.out.later b5
    have q5 : But (Only s) w5 (((w5.setCell ⟨s, 12, none⟩ (.bool true)).setCell ⟨s, 13, none⟩ (.int .i64 (x % 4096))).setCell ⟨s, 14, none⟩ (.int .i64 (x / 8192))) := (((But.refl _ _).cellb _ _).cellb _ _).cellb _ _
    have F6 := F5.but q5 ne
    have B6 := (later B4.out b5).trans (q5.below (Nat.le_trans B4.out.size b5.size) (fun g hg e => by have e : g = s := e; have := Z1.out; omega))
    have C16 := hide (at_any (H.out.later B6) HB.out (by rw [← HN.out]; exact n62) 16 (by have := HN.out; omega))
    have i12 := G5.c12
    have i13 := G5.c13
    have i14 := G5.c14
    have j12 := G5.fz 12
    have j13 := G5.fz 13
    have j14 := G5.fz 14
    simp only at i12 i13 i14
    have a1 := i64_and4095
    have a2 := i64_and4096
    have HG6 := hide G6
    have HF6 := hide F6
    have HB6 := hide B6
    clear G5 G6 F5 F6 B6 q5 b5 F G
    go_wp2_with fail
    refine C16.out.mono ?_
    rintro e w7 ⟨rfl, b7⟩
    obtain ⟨u, hu⟩ : ∃ u, w16 bs 16 = u := ⟨_, rfl⟩
    rw [hu]
    have HU := hide hu
    clear hu C16
    have G7 := HG6.out.later b7
    have q7 : But (Only s) w7 (w7.setCell ⟨s, 15, none⟩ (.int .i64 u)) := (But.refl _ _).cellb _ _
    have F8 := hide ((HF6.out.later b7).but q7 ne)
    have G8 := hide (G7.set_ty u)
    have B8 := hide ((later HB6.out b7).trans (q7.below (Nat.le_trans HB6.out.size b7.size) (fun g hg e => by have e : g = s := e; have := Z1.out; omega)))
    have i15 := G7.c15
    have j15 := G7.fz 15
    simp only at i15
    clear HG6 HF6 HB6 b7 G7 q7 i12 i13 i14 j12 j13 j14
    go_wp2_with (first | (refine wpList_load_fr rfl _ rfl s rfl _ G8.out ?_) | (refine wpList_store_fr rfl _ _ rfl r rfl _ _ rfl F8.out ?_))
    intro W9 F9 q9
    go_wp2
    refine bodyPost_ret (v := .tuple #[(hdF bs).val, .bool (hdU bs)]) (by rw [results_cell_tmp rfl]; simp [asAddr, F9.load]; exact ⟨by simp only [hdF, HY.out, hy, HD.out, HS.out, HX.out, HU.out, if_true], by simp only [hdU, HY.out, HX.out, hy]; rcases (show x / 4096 % 2 = 0 ∨ x / 4096 % 2 = 1 by omega) with h | h <;> simp [h]⟩) rfl ?_
    exact ⟨rfl, B8.out.trans (q9.below (Nat.le_trans B8.out.size (Nat.le_refl _)) (fun g hg e => by have e : g = r := e; have := HR.out; omega))⟩
  · have g15 : W4.cell? ⟨s, 15, none⟩ = some (.int .i64 y) := G4.out.c15
    go_wp2_with (first | (refine wpList_load_fr rfl _ rfl s rfl _ G4.out ?_) | (refine wpList_store_fr rfl _ _ rfl r rfl _ _ rfl F4.out ?_))
    intro W5 F5 q5
    go_wp2
    refine bodyPost_ret (v := .tuple #[(hdF bs).val, .bool (hdU bs)]) (by rw [results_cell_tmp rfl]; simp [asAddr, F5.load]; exact ⟨by simp only [hdF, HY.out, hy, HD.out, HS.out, if_false], by simp [hdU, HY.out, hy]⟩) rfl ?_
    exact ⟨rfl, B4.out.trans (q5.below (Nat.le_trans B4.out.size (Nat.le_refl _)) (fun g hg e => by have e : g = r := e; have := HR.out; omega))⟩

end Go.Proofs.Ytipebfaappangaa
