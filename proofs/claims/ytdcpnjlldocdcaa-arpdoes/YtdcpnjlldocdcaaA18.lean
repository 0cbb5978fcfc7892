
/-
  Package arp: slices.DeleteFunc of the one neighbour that has an address.
-/
import Derived.Test.YtdcpnjlldocdcaaA17
namespace Go.Proofs.Ytdcpnjlldocdcaa
open Go.RowKit

def nbl (L : List Nb) (V : Nat → Value) (q : Nat) : List Value := match L[q]? with
  | some x => x.cells (V q)
  | none => []
theorem nbl_at {L : List Nb} {V : Nat → Value} {q : Nat} {x : Nb} (h : L[q]? = some x) : nbl L V q = x.cells (V q) := by unfold nbl; rw [h]
theorem nbl_len {L : List Nb} {V : Nat → Value} {q : Nat} (h : q < L.length) : (nbl L V q).length = 15 := by rw [nbl_at (List.getElem?_eq_getElem h)]; rfl
def zN : List Value := [.int .u8 0, .int .u8 0, .int .u8 0, .int .u8 0, .int .i64 0, .int .u8 0, .int .u8 0, .int .u8 0, .int .u8 0, .int .u8 0, .int .u8 0, .int .i64 0, .int .i64 0, .int .i64 0, .slice none 0 0]
/-- after kx have been looked at: those behind the j-th have moved up -/
def dl (c : Nat → List Value) (j kx q : Nat) : List Value := if q < j then c q else if q + 1 < kx then c (q + 1) else c q

theorem run_clearN {w : World} {g n cap : Nat} {c : Nat → List Value} (ty : TypeId) (h : RowF 15 (Only g) w (.slice (some ⟨g, 0, none⟩) (n + 1) cap) (n + 1) c) (hn : ∀ q, q < n + 1 → (c q).length = 15) (cc : Nat) :
    (Builtin.clear_ #[41] ty #[.slice (some ⟨g, n * 15, none⟩) 1 cc]).run Try.prog w = .ok (.tuple #[]) (w.setCells g (n * 15) zN) := by
  obtain ⟨g', e, d3, d2, d5, d6⟩ := h.at (by omega)
  cases e
  have hz : (Builtin.zeroCells (Value.agg #[.int .u8 0, .int .u8 0, .int .u8 0, .int .u8 0, .int .i64 0, .int .u8 0, .int .u8 0, .int .u8 0, .int .u8 0, .int .u8 0, .int .u8 0, .int .i64 0, .int .i64 0, .int .i64 0, .slice none 0 0]).cells 1).toList = zN := by kernel_rfl
  have hst := run_storeCells_cells (P := Try.prog) g (n * 15) zN 0 w (fun j hj => by
    rw [Nat.add_zero]
    exact (d6 n (by omega)).is j (by rw [hn n (by omega)]; exact hj)) (fun j hj => d5 _) (by decide)
  simp only [Nat.add_zero] at hst
  simp [Builtin.clear_, run_underlying Try.underlying41, hz, hst]

theorem size_setCells (g : Nat) : ∀ (vs : List Value) (o : Nat) (w : World), (w.setCells g o vs).heap.size = w.heap.size
  | [], _, _ => rfl
  | v :: vs, o, w => (size_setCells g vs (o + 1) (w.setCell ⟨g, o, none⟩ v)).trans (by simp [World.setCell])
theorem CellsAt.stores {W : World} {s o : Nat} {vs ws : List Value} (h : CellsAt W s o ws) (hf : ∀ j, W.frozen? ⟨s, j, none⟩ = false) (h1 : ∀ u ∈ vs, u.oneCell' = true) (hl : vs.length = ws.length) : (storeCells ⟨s, o, none⟩ vs).run Try.prog W = .ok () (W.setCells s o vs) := by
  have hst := run_storeCells_cells (P := Try.prog) s o vs 0 W (fun j hj => by rw [Nat.add_zero]; exact h.is j (by omega)) (fun j hj => hf _) h1
  simp only [Nat.add_zero] at hst
  exact hst
/-- a new variable is stored -/
theorem store_new (w : World) (zs vs : List Value) (T : TypeId) (hl : vs.length = zs.length) (h1 : ∀ u ∈ vs, u.oneCell' = true) :
    ∃ w', (storeCells ⟨w.heap.size, 0, none⟩ vs).run Try.prog (w.alloc (.cells zs.toArray T)) = .ok () w' ∧ Below w.heap.size w w' ∧ CellsAt w' w.heap.size 0 vs ∧ (∀ j, w'.frozen? ⟨w.heap.size, j, none⟩ = false) ∧ w'.heap.size = w.heap.size + 1 := by
  have hc := CellsAt.new w zs T
  have hst := run_storeCells_cells (P := Try.prog) w.heap.size 0 vs 0 (w.alloc (.cells zs.toArray T)) (fun j hj => by rw [Nat.add_zero]; exact hc.is j (by omega)) (fun j hj => frozen_new w _ _ _) h1
  simp only [Nat.add_zero] at hst
  have hb := But.cells w.heap.size vs 0 (w.alloc (.cells zs.toArray T))
  have hsz : ((w.alloc (.cells zs.toArray T)).setCells w.heap.size 0 vs).heap.size = w.heap.size + 1 := by rw [size_setCells]; simp
  refine ⟨_, hst, ((Below.refl _ w).alloc (Nat.le_refl _) _).trans (hb.below (by simp) (fun g hg e => by have e : g = w.heap.size := e; omega)), hc.stored hl, fun j => ?_, hsz⟩
  rw [World.frozen?_setCells]
  exact frozen_new w _ _ _

set_option maxRecDepth 100000 in
set_option maxHeartbeats 4000000 in
theorem DeleteFunc_any {w : World} (g cap s n j : Nat) (L : List Nb) (V : Nat → Value) (ip : I4) (hL : L.length = n + 1) (hn8 : n ≤ 100) (hs : CellsAt w s 0 ip.vals) (hsg : s ≠ g) (hR : RowF 15 (Only g) w (.slice (some ⟨g, 0, none⟩) (n + 1) cap) (n + 1) (nbl L V)) (hV : ∀ q, (V q).oneCell' = true)
    (x : Nb) (hx : L[j]? = some x) (he : eqI x.ip ip = true) (hne : ∀ q y, q ≠ j → L[q]? = some y → eqI y.ip ip = false) :
    Calls Try.prog 47 #[.slice (some ⟨g, 0, none⟩) (n + 1) cap, .func (.func 48) #[] #[.pointer (some ⟨s, 0, none⟩)]] w fun e w' => e = .returned (.slice (some ⟨g, 0, none⟩) n cap) ∧ RowF 15 (Only g) w' (.slice (some ⟨g, 0, none⟩) n cap) n (fun q => if q < j then nbl L V q else nbl L V (q + 1)) ∧ But (Only g) w w' := by
  have hj : j < n + 1 := hL ▸ (List.getElem?_eq_some_iff.1 hx).1
  have hcap : n + 1 ≤ cap ∧ cap ≤ maxLen := by
    obtain ⟨a, cap', e, c2, c3, _⟩ := hR
    simp only [Value.slice.injEq] at e
    omega
  obtain ⟨g', e, hg, _, hfz, hcs⟩ := hR.at (by omega)
  cases e
  have IF := hide (IndexFunc_any (w := w) g cap s (some ⟨g, 0, none⟩) L V ip hs (fun k y hy => ⟨rfl, by have := hcs k (by have := (List.getElem?_eq_some_iff.1 hy).1; omega); rw [nbl_at hy] at this; exact this⟩) (by omega))
  have hidx : idxI ip L = (j : Int) := by unfold idxI; rw [fndI_some (fun q y hq hy => hne q y (by omega) hy) hx he]
  rw [hidx, hL] at IF
  have zc : ((n : Int) + 1) ≤ cap := by omega
  have zc2 : (cap : Int) ≤ 9223372036854775807 := by have := hcap.2; unfold maxLen at this; omega
  have zc3 : ¬ cap = n := by omega
  have zj : (j : Int) ≤ n := by omega
  have znj : ((j : Int) == -1) = false := by simp
  have zn : (n : Int) ≤ 100 := by omega
  have HR := hide hR
  have HS := hide hs
  have HSg := hide hsg
  have HLn := hide hL
  have HNE := hide hne
  have HV := hide hV
  have nl : Hid (∀ q, q < n + 1 → (nbl L V q).length = 15) := fun q hq => nbl_len (by omega)
  clear hR hs hcs hfz hL hne hx he hidx hcap hsg hV
  go_enter Try.func47, Try.ntmps47
  go_wp2_with fail
  refine IF.out.mono ?_
  rintro _ w1 ⟨rfl, hb1⟩
  have B1 : Hid (But (Only g) w w1) := But.of_below hb1
  have S1 : Hid (CellsAt w1 s 0 ip.vals) := HS.out.later (HS.out.lt (by simp [I4.vals])) hb1
  have R1 : Hid (RowF 15 (Only g) w1 (.slice (some ⟨g, 0, none⟩) (n + 1) cap) (n + 1) (dl (nbl L V) j (j + 1))) := (HR.out.later hb1).cong (fun q hq => by
    unfold dl
    split
    · rfl
    · rw [if_neg (by omega)])
  clear hb1 IF
  go_wp2
  go_loopw [5, 6] (fun v5 v6 wr => ∃ p : Nat, v6 = .int .i64 ((p : Int) + 1) ∧ v5 = .int .i64 (p : Int) ∧ j ≤ p ∧ p ≤ n ∧ Hid (But (Only g) w wr) ∧ Hid (CellsAt wr s 0 ip.vals) ∧ Hid (RowF 15 (Only g) wr (.slice (some ⟨g, 0, none⟩) (n + 1) cap) (n + 1) (dl (nbl L V) j (p + 1)))) (fun _ v6 _ => n + 1 - (intOf v6).toNat)
  case atStart => exact ⟨j, rfl, rfl, by omega, by omega, B1.out, S1.out, R1.out⟩
  case round =>
    obtain ⟨p, rfl, rfl, hk1, hk2, HB, HSr, HRr⟩ := hrel
    by_cases hlt : p < n
    · have zp : (p : Int) < n := by omega
      have zp1 : (p : Int) + 1 < (n : Int) + 1 := by omega
      have zp2 : (p : Int) < (n : Int) + 1 := by omega
      have zp0 : (0 : Int) ≤ (p : Int) + 1 := by omega
      obtain ⟨y, hy⟩ : ∃ y, L[p + 1]? = some y := ⟨_, List.getElem?_eq_getElem (by have := HLn.out; omega)⟩
      have EY := hide (HNE.out (p + 1) y (by omega) hy)
      obtain ⟨g', e, hg2, _, hfz, hcs⟩ := HRr.out.at (by omega)
      cases e
      have CY : Hid (CellsAt wr g ((p + 1) * 15) (y.cells (V (p + 1)))) := by
        have := hcs (p + 1) (by omega)
        unfold dl at this
        rw [if_neg (by omega), if_neg (by omega), nbl_at hy] at this
        exact this
      have HY := hide hy
      have HG2 := hide hg2
      clear hcs hfz hy hg2
      have L15 : Hid (∀ q, q < n + 1 → (dl (nbl L V) j (p + 1) q).length = 15) := fun q hq => by
        unfold dl
        split
        · exact nl.out q hq
        · split
          · exact nl.out _ (by omega)
          · exact nl.out q hq
      have LY : (y.cells (V (p + 1))).length = 15 := rfl
      have h1 := nb_one y (V (p + 1)) (HV.out _)
      obtain ⟨w2, hrun, hb2, hc2, hf2, hs2⟩ := store_new wr zN (y.cells (V (p + 1))) 66 rfl h1
      have HRN := hide hrun
      have B2 := hide (HB.out.trans (But.of_below (K := Only g) hb2))
      have S2 := hide (HSr.out.later (HSr.out.lt (by simp [I4.vals])) hb2)
      have R2 := hide (HRr.out.later hb2)
      have C2 := hide hc2
      have G2 : Hid (g < w2.heap.size) := by have := HG2.out; unfold Hid; omega
      have NS : Hid (wr.heap.size ≠ g) := by have := HG2.out; unfold Hid; omega
      obtain ⟨sv, hsv⟩ : ∃ sv, sv = wr.heap.size := ⟨_, rfl⟩
      rw [← hsv] at C2 NS HRN
      simp only [zN] at HRN
      have HSV := hide hsv
      clear hrun hb2 hc2 hf2 hs2
      go_wp2_with (refine wpList_loadA rfl 66 15 aggN sizN _ rfl g ((p + 1) * 15) rfl (y.cells (V (p + 1))) rfl CY.out ?_)
      rw [← hsv, HRN.out]
      clear hsv
      have X := hide (room1_any y (V (p + 1)) s ip S2.out)
      go_wp2_with (refine wpList_loadA rfl 66 15 aggN sizN _ rfl sv 0 rfl (y.cells (V (p + 1))) rfl C2.out ?_)
      refine X.out.mono ?_
      rintro _ w3 ⟨rfl, hb3⟩
      rw [EY.out]
      have B3 := hide (B2.out.trans (But.of_below (K := Only g) hb3))
      have S3 := hide (S2.out.later (S2.out.lt (by simp [I4.vals])) hb3)
      have R3 := R2.out.later hb3
      have C3 := hide (C2.out.later (C2.out.lt (by rw [LY]; omega)) hb3)
      have RS := R3.set L15.out (q := p) (by omega) (y.cells (V (p + 1))) rfl rfl
      obtain ⟨g', e, hg3, _, hfz, hcs⟩ := R3.at (by omega)
      cases e
      have C4 := hide (hcs p (by omega))
      have F4 := hide hfz
      have L4 := L15.out p (by omega)
      have bS := But.cells g (y.cells (V (p + 1))) (p * 15) w3
      have FIN : Hid (But (Only g) w (w3.setCells g (p * 15) (y.cells (V (p + 1)))) ∧ CellsAt (w3.setCells g (p * 15) (y.cells (V (p + 1)))) s 0 ip.vals ∧ RowF 15 (Only g) (w3.setCells g (p * 15) (y.cells (V (p + 1)))) (.slice (some ⟨g, 0, none⟩) (n + 1) cap) (n + 1) (dl (nbl L V) j (p + 1 + 1))) := by
        refine ⟨B3.out.trans bS, S3.out.but (S3.out.lt (by simp [I4.vals])) bS HSg.out, RS.cong (fun q hq => ?_)⟩
        by_cases e : q = p
        · subst e
          rw [if_pos rfl]
          unfold dl
          rw [if_neg (by omega), if_pos (by omega), nbl_at HY.out]
        · rw [if_neg e]
          unfold dl
          by_cases e2 : q < j
          · rw [if_pos e2, if_pos e2]
          · rw [if_neg e2, if_neg e2]
            by_cases e3 : q + 1 < p + 1
            · rw [if_pos e3, if_pos (by omega)]
            · rw [if_neg e3, if_neg (by omega)]
      clear hb3 X R3 RS hcs hfz hg3
      have HST := hide (C4.out.stores F4.out h1 (LY.trans L4.symm))
      obtain ⟨w4, hw4⟩ : ∃ w4, w4 = w3.setCells g (p * 15) (y.cells (V (p + 1))) := ⟨_, rfl⟩
      rw [← hw4] at FIN HST
      clear hw4 bS
      go_wp2_with (refine wpList_loadA rfl 66 15 aggN sizN _ rfl sv 0 rfl (y.cells (V (p + 1))) rfl C3.out ?_)
      rw [HST.out]
      go_wp2
      go_roundw
      case rel => exact ⟨p + 1, val_int (by omega), val_int (by omega), by omega, by omega, FIN.out⟩
      case measure => simp [intOf]; omega
    · have ep : p = n := by omega
      have zp1 : ¬ (p : Int) + 1 < (n : Int) + 1 := by omega
      subst ep
      have RC := hide (fun cc => run_clearN (w := wr) 0 HRr.out (fun q hq => by
        unfold dl
        split
        · exact nl.out q hq
        · split
          · exact nl.out _ (by omega)
          · exact nl.out q hq) cc)
      have FIN : Hid (RowF 15 (Only g) (wr.setCells g (p * 15) zN) (.slice (some ⟨g, 0, none⟩) p cap) p (fun q => if q < j then nbl L V q else nbl L V (q + 1)) ∧ But (Only g) w (wr.setCells g (p * 15) zN)) := by
        have bS := But.cells g zN (p * 15) wr
        obtain ⟨a, cap', e, c2, c3, c4, c5⟩ := HRr.out
        simp only [Value.slice.injEq] at e
        obtain ⟨rfl, _, rfl⟩ := e
        refine ⟨⟨_, _, rfl, by omega, c3, c4, fun ad e => ?_⟩, HB.out.trans bS⟩
        cases e
        obtain ⟨g', e', d2, d3, d4, d5, d6⟩ := c5 _ rfl
        cases e'
        refine ⟨g, rfl, d2, Nat.lt_of_lt_of_le d3 bS.size, fun q hq => is_setCells (fun i hi => d4 _ (by rw [show zN.length = 15 from rfl] at hi; omega)) q (d4 q hq), fun q => by rw [World.frozen?_setCells]; exact d5 q, fun q hq => ?_⟩
        have h6 := d6 q (by omega)
        have e6 : dl (nbl L V) j (p + 1) q = if q < j then nbl L V q else nbl L V (q + 1) := by
          unfold dl
          split
          · rfl
          · rw [if_pos (by omega)]
        rw [e6] at h6
        refine h6.other (.inl ?_)
        have l15 : (if q < j then nbl L V q else nbl L V (q + 1)).length = 15 := by
          split
          · exact nl.out q (by omega)
          · exact nl.out _ (by omega)
        rw [l15]
        omega
      obtain ⟨wz, hwz⟩ : ∃ wz, wz = wr.setCells g (p * 15) zN := ⟨_, rfl⟩
      have RC' : Hid (∀ cc, (Builtin.clear_ #[41] 0 #[.slice (some ⟨g, p * 15, none⟩) 1 cc]).run Try.prog wr = .ok (.tuple #[]) wz) := fun cc => by rw [hwz]; exact RC.out cc
      rw [← hwz] at FIN
      clear RC hwz
      have RCC := RC'.out
      go_wp2
      go_ret
      exact ⟨rfl, FIN.out⟩
end Go.Proofs.Ytdcpnjlldocdcaa
