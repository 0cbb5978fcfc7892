
/-
  Package arp: the contract of Encode.
-/
import Derived.Test.YtjaodjlgnclkhaaA28
import Derived.Test.YtjaodjlgnclkhaaAMem
namespace Go.Proofs.Ytjaodjlgnclkhaa
open Go.RowKit Go.Shelf

def mL (m : M6) : List Int := [m.a, m.b, m.c, m.d, m.e, m.f]
def iL (i : I4) : List Int := [i.a, i.b, i.c, i.d]
def hd8 (ans : Bool) : List Int := [0, 1, 8, 0, 6, 4, 0, if ans = true then 2 else 1]
/-- what is written -/
def arE (a : Ar) : Int := if a.sm.a % 2 = 1 then 1 else 0
def arT (a : Ar) : List Int := mL a.sm ++ (iL a.si ++ (mL a.dm ++ iL a.di))
def arB (a : Ar) : List Int := if a.sm.a % 2 = 1 then [] else hd8 a.ans ++ arT a
theorem arT_len (a : Ar) : (arT a).length = 20 := rfl
theorem hd8_len (b : Bool) : (hd8 b).length = 8 := rfl
def ByM (m : M6) : Prop := Bytes (mL m)
def EnEnd (w : World) (a : Ar) (e : Ending) (w' : World) : Prop := ∃ v, e = .returned (.tuple #[v, .int .i64 (arE a)]) ∧ Gro w.heap.size w' v (arB a) ∧ Below w.heap.size w w'

/-- bytes in the cells of a block -/
theorem IsF_cells {A : Nat → Prop} {W : World} {s o c : Nat} {bs : List Int} (h : CellsAt W s o (bs.map (Value.int .u8))) (hs : s < W.heap.size) (hA : ¬ A s) (hc : bs.length ≤ c) : IsF A W (.slice (some ⟨s, o, none⟩) bs.length c) bs :=
  ⟨_, _, rfl, hc, (fun e => by cases e), fun _ => ⟨s, o, rfl, hs, hA, fun j hj => by
    have := h j (.int .u8 bs[j]) (by simp [hj])
    rw [this]; simp [hj]⟩⟩
theorem ar_cells {W : World} {s : Nat} {a : Ar} (h : CellsAt W s 0 a.vals) : W.cell? ⟨s, 0, none⟩ = some (.bool a.ans) ∧ CellsAt W s 1 a.sm.vals ∧ CellsAt W s 7 a.si.vals ∧ CellsAt W s 11 a.dm.vals ∧ CellsAt W s 17 a.di.vals := by
  have h0 := h 0 (.bool a.ans) rfl
  have e : a.vals = [.bool a.ans] ++ (a.sm.vals ++ (a.si.vals ++ (a.dm.vals ++ a.di.vals))) := by simp [Ar.vals]
  rw [e] at h
  have h1 := CellsAt.append.1 (CellsAt.append.1 h).2
  have h2 := CellsAt.append.1 h1.2
  have h3 := CellsAt.append.1 h2.2
  exact ⟨h0, h1.1, h2.1, h3.1, h3.2⟩
theorem IsF.isB {A : Nat → Prop} {W : World} {v : Value} {bs : List Int} (h : IsF A W v bs) : IsB W.heap.size W v bs := by
  obtain ⟨a, cap, e, hl, hn, hc⟩ := h
  exact ⟨a, cap, e, hl, hn, fun h0 => let ⟨b, off, e1, hb, _, hcs⟩ := hc h0; ⟨b, off, e1, hb, hcs⟩⟩

theorem Gro.less {B B' : Nat} {W : World} {v : Value} {bs : List Int} (h : Gro B W v bs) (hB : B' ≤ B) : Gro B' W v bs := by
  obtain ⟨h1, h2 | ⟨g, cap, cur, rfl, hg, r⟩⟩ := h
  · exact ⟨h1, .inl h2⟩
  · exact ⟨h1, .inr ⟨g, cap, cur, rfl, by omega, r⟩⟩

set_option maxRecDepth 100000 in
set_option maxHeartbeats 4000000 in
theorem Encode_any (a : Ar) (h0 : 0 ≤ a.sm.a) (h1 : a.sm.a ≤ 255) (w : World) : Calls Try.prog 9 #[a.val] w (EnEnd w a) := by
  obtain ⟨s, hs⟩ : ∃ s, s = w.heap.size := ⟨_, rfl⟩
  obtain ⟨W1, hW1⟩ : ∃ W1, W1 = w.alloc (.cells a.vals.toArray 27) := ⟨_, rfl⟩
  have b1 : Below w.heap.size w W1 := by rw [hW1]; exact (Below.refl _ _).alloc (Nat.le_refl _) _
  have z1 : W1.heap.size = s + 1 := by rw [hW1, hs]; simp
  have c1 : CellsAt W1 s 0 a.vals := by rw [hW1, hs]; exact CellsAt.new w _ _
  have C1 := hide (ar_cells c1)
  have CA := hide c1
  have B1 := hide b1
  have Z1 := hide z1
  have HS := hide hs
  have KO := hide (isOfMany_any a.sm W1 h0 h1)
  simp only [M6.val] at KO
  rw [show a.val = .agg a.vals.toArray from rfl]
  have la : a.vals.length = 21 := rfl
  have hW1' := hW1.symm
  have hs' := hs.symm
  clear hW1 hs b1 z1 c1
  unfold EnEnd
  rw [hs']
  go_enter Try.func9, Try.ntmps9
  go_wp2_with (refine wpList_loadA rfl 23 6 aggM sizM _ rfl s 1 rfl a.sm.vals rfl C1.out.2.1 ?_)
  refine KO.out.mono ?_
  rintro _ w2 ⟨rfl, b2⟩
  have Z2 : Hid (s + 1 ≤ w2.heap.size) := by have := b2.size; have := Z1.out; unfold Hid; omega
  have B2 : Hid (Below s w w2) := by have := B1.out.trans (b2.mono B1.out.size); rw [← HS.out] at this; exact this
  have CA2 : Hid (CellsAt w2 s 0 a.vals) := CA.out.later (by have := Z1.out; omega) b2
  clear b2 KO C1 CA B1 Z1 hW1' hs'
  by_cases hm : a.sm.a % 2 = 1
  · have E1 : arE a = 1 := by unfold arE; rw [if_pos hm]
    have E2 : arB a = [] := by unfold arB; rw [if_pos hm]
    have hm' : decide (a.sm.a % 2 = 1) = true := decide_eq_true hm
    rw [hm']
    clear hm' hm
    go_wp2
    go_ret2
    exact ⟨.slice none 0 0, by rw [E1]; rfl, by rw [E2]; exact Gro.nil _ _, B2.out⟩
  · have E1 : Hid (arE a = 0) := by unfold Hid arE; rw [if_neg hm]
    have E2 : Hid (arB a = hd8 a.ans ++ arT a) := by unfold Hid arB; rw [if_neg hm]
    have hm' : decide (a.sm.a % 2 = 1) = false := decide_eq_false hm
    rw [hm']
    have an := (ar_cells CA2.out).1
    obtain ⟨an', han⟩ : ∃ an', an' = a.ans := ⟨_, rfl⟩
    have HAN := hide han
    rw [← han] at an
    have KH := hide (headOf_any an' w2)
    simp only [hdV] at KH
    clear hm' hm han
    go_wp2_with fail
    refine KH.out.mono ?_
    rintro _ w3 ⟨rfl, b3⟩
    have Z3 : Hid (s + 1 ≤ w3.heap.size) := by have := b3.size; have := Z2.out; unfold Hid; omega
    have B3 : Hid (Below s w w3) := B2.out.trans (b3.mono (by have := Z2.out; omega))
    have CA3 : Hid (CellsAt w3 s 0 a.vals) := CA2.out.later (by have := Z2.out; omega) b3
    obtain ⟨kd, hkd⟩ : ∃ kd : Int, kd = (if an' = true then 2 else 1) := ⟨_, rfl⟩
    have HKD := hide hkd
    rw [← hkd]
    clear b3 KH hkd an CA2 B2 Z2
    have HD8 : Hid (hd8 a.ans = [0, 1, 8, 0, 6, 4, 0, kd]) := by unfold Hid hd8; rw [HKD.out, HAN.out]
    have K2 : Hid (kd = 1 ∨ kd = 2) := by unfold Hid; rw [HKD.out]; cases an' <;> simp
    clear HKD HAN
    go_wp2_with fail
    go_loopw [4, 13] (fun v4 v13 wr => ∃ (ak : Option Addr) (ck : Nat) (LK : List Int) (k : Nat), v13 = .int .i64 (k : Int) ∧ v4 = .slice ak LK.length ck ∧ k ≤ 4 ∧ Hid (LK = [0, 1, 8, 0, 6, 4, 0, kd].take (2 * k)) ∧ Hid (Gro (s + 1) wr (.slice ak LK.length ck) LK) ∧ Hid (s + 1 ≤ wr.heap.size) ∧ Hid (Below s w wr) ∧ Hid (CellsAt wr s 0 a.vals)) (fun _ v13 _ => 4 - (intOf v13).toNat)
    case atStart => exact ⟨none, 0, [], 0, rfl, rfl, by omega, rfl, Gro.nil _ _, Z3.out, B3.out, CA3.out⟩
    case round =>
      clear Z3 B3 CA3
      obtain ⟨ak, ck, LK, k, rfl, rfl, hk, EK, G2, Z2, B2, CA2⟩ := hrel
      by_cases hlt : k < 4
      · have PT : ∀ n : Int, Hid (Calls Try.prog 25 #[.slice ak LK.length ck, .int .i64 n] wr fun e w' => ∃ v', e = .returned v' ∧ OwnB wr.heap.size w' v' (LK ++ put16 n) ∧ Below wr.heap.size wr w') := fun n => Put16_any _ LK n wr G2.out.isB (by rw [EK.out]; simp; omega)
        have NX : ∀ (n : Int) (v' : Value) (w' : World), OwnB wr.heap.size w' v' (LK ++ put16 n) → Below wr.heap.size wr w' → ∃ c4 : Nat, ∃ g4, v' = .slice g4 (LK ++ put16 n).length c4 ∧ Gro (s + 1) w' v' (LK ++ put16 n) ∧ s + 1 ≤ w'.heap.size ∧ Below s w w' ∧ CellsAt w' s 0 a.vals := fun n v' w' ho hb => by
          have h4 := (ho.mono Z2.out).gro (by rw [EK.out]; simp [put16, maxLen]; omega)
          obtain ⟨g, rfl, _⟩ := ho
          exact ⟨_, _, rfl, h4, Nat.le_trans Z2.out hb.size, B2.out.trans (hb.mono (by have := Z2.out; omega)), CA2.out.later (by have := Z2.out; omega) hb⟩
        have HNX := hide NX
        clear NX
        have i0 : ∀ w, (Instr.index 70 (.agg #[.int .i64 1, .int .i64 2048, .int .i64 1540, .int .i64 kd]) (.int .i64 0)).run Try.prog w = .ok (.int .i64 1) w := fun _ => by kernel_rfl
        have i1 : ∀ w, (Instr.index 70 (.agg #[.int .i64 1, .int .i64 2048, .int .i64 1540, .int .i64 kd]) (.int .i64 1)).run Try.prog w = .ok (.int .i64 2048) w := fun _ => by kernel_rfl
        have i2 : ∀ w, (Instr.index 70 (.agg #[.int .i64 1, .int .i64 2048, .int .i64 1540, .int .i64 kd]) (.int .i64 2)).run Try.prog w = .ok (.int .i64 1540) w := fun _ => by kernel_rfl
        have i3 : ∀ w, (Instr.index 70 (.agg #[.int .i64 1, .int .i64 2048, .int .i64 1540, .int .i64 kd]) (.int .i64 3)).run Try.prog w = .ok (.int .i64 kd) w := fun _ => by kernel_rfl
        have h4 : k = 0 ∨ k = 1 ∨ k = 2 ∨ k = 3 := by omega
        clear hk hlt
        rcases h4 with rfl | rfl | rfl | rfl
        · have PT0 := PT 1
          have EP : Hid (put16 1 = [0, 1]) := rfl
          clear PT
          rw [show ((0 : Nat) : Int) = 0 from rfl]
          go_wp2_with fail
          refine PT0.out.mono ?_
          rintro _ w4 ⟨v', rfl, ho, hb⟩
          obtain ⟨c4, g4, rfl, hG, hZ, hBb, hCC⟩ := HNX.out _ _ _ ho hb
          obtain ⟨LN, eN⟩ : ∃ LN, LN = LK ++ put16 1 := ⟨_, rfl⟩
          rw [← eN] at hG ⊢
          have EN : Hid (LN = [0, 1, 8, 0, 6, 4, 0, kd].take (2 * 1)) := by unfold Hid; rw [eN, EK.out, EP.out]; rfl
          have G4 := hide hG
          have Z4 := hide hZ
          have B4 := hide hBb
          have C4 := hide hCC
          clear ho hb eN hG hZ hBb hCC PT0 HNX G2 Z2 B2 CA2 EK EP
          go_wp2
          go_roundw
          case rel => exact ⟨g4, c4, LN, 1, rfl, rfl, by omega, EN.out, G4.out, Z4.out, B4.out, C4.out⟩
          case measure => simp [intOf]
        · have PT0 := PT 2048
          have EP : Hid (put16 2048 = [8, 0]) := rfl
          clear PT
          rw [show ((1 : Nat) : Int) = 1 from rfl]
          go_wp2_with fail
          refine PT0.out.mono ?_
          rintro _ w4 ⟨v', rfl, ho, hb⟩
          obtain ⟨c4, g4, rfl, hG, hZ, hBb, hCC⟩ := HNX.out _ _ _ ho hb
          obtain ⟨LN, eN⟩ : ∃ LN, LN = LK ++ put16 2048 := ⟨_, rfl⟩
          rw [← eN] at hG ⊢
          have EN : Hid (LN = [0, 1, 8, 0, 6, 4, 0, kd].take (2 * 2)) := by unfold Hid; rw [eN, EK.out, EP.out]; rfl
          have G4 := hide hG
          have Z4 := hide hZ
          have B4 := hide hBb
          have C4 := hide hCC
          clear ho hb eN hG hZ hBb hCC PT0 HNX G2 Z2 B2 CA2 EK EP
          go_wp2
          go_roundw
          case rel => exact ⟨g4, c4, LN, 2, rfl, rfl, by omega, EN.out, G4.out, Z4.out, B4.out, C4.out⟩
          case measure => simp [intOf]
        · have PT0 := PT 1540
          have EP : Hid (put16 1540 = [6, 4]) := rfl
          clear PT
          rw [show ((2 : Nat) : Int) = 2 from rfl]
          go_wp2_with fail
          refine PT0.out.mono ?_
          rintro _ w4 ⟨v', rfl, ho, hb⟩
          obtain ⟨c4, g4, rfl, hG, hZ, hBb, hCC⟩ := HNX.out _ _ _ ho hb
          obtain ⟨LN, eN⟩ : ∃ LN, LN = LK ++ put16 1540 := ⟨_, rfl⟩
          rw [← eN] at hG ⊢
          have EN : Hid (LN = [0, 1, 8, 0, 6, 4, 0, kd].take (2 * 3)) := by unfold Hid; rw [eN, EK.out, EP.out]; rfl
          have G4 := hide hG
          have Z4 := hide hZ
          have B4 := hide hBb
          have C4 := hide hCC
          clear ho hb eN hG hZ hBb hCC PT0 HNX G2 Z2 B2 CA2 EK EP
          go_wp2
          go_roundw
          case rel => exact ⟨g4, c4, LN, 3, rfl, rfl, by omega, EN.out, G4.out, Z4.out, B4.out, C4.out⟩
          case measure => simp [intOf]
        · have PT0 := PT kd
          have EP : Hid (put16 kd = [0, kd]) := by unfold put16; rcases K2.out with e | e <;> rw [e] <;> rfl
          clear PT
          rw [show ((3 : Nat) : Int) = 3 from rfl]
          go_wp2_with fail
          refine PT0.out.mono ?_
          rintro _ w4 ⟨v', rfl, ho, hb⟩
          obtain ⟨c4, g4, rfl, hG, hZ, hBb, hCC⟩ := HNX.out _ _ _ ho hb
          obtain ⟨LN, eN⟩ : ∃ LN, LN = LK ++ put16 kd := ⟨_, rfl⟩
          rw [← eN] at hG ⊢
          have EN : Hid (LN = [0, 1, 8, 0, 6, 4, 0, kd].take (2 * 4)) := by unfold Hid; rw [eN, EK.out, EP.out]; rfl
          have G4 := hide hG
          have Z4 := hide hZ
          have B4 := hide hBb
          have C4 := hide hCC
          clear ho hb eN hG hZ hBb hCC PT0 HNX G2 Z2 B2 CA2 EK EP
          go_wp2
          go_roundw
          case rel => exact ⟨g4, c4, LN, 4, rfl, rfl, by omega, EN.out, G4.out, Z4.out, B4.out, C4.out⟩
          case measure => simp [intOf]
      · obtain rfl : k = 4 := by omega
        rw [show ((4 : Nat) : Int) = 4 from rfl]
        obtain ⟨L0, hL0⟩ : ∃ L0, L0 = LK := ⟨_, rfl⟩
        have EL0 : Hid (L0 = [0, 1, 8, 0, 6, 4, 0, kd]) := by unfold Hid; rw [hL0]; exact EK.out
        have l0 : Hid (L0.length = 8) := by unfold Hid; rw [EL0.out]; rfl
        rw [← hL0] at G2 ⊢
        clear hL0 EK hlt hk
        obtain ⟨L5, e5⟩ : ∃ L5, L0 ++ mL a.sm = L5 := ⟨_, rfl⟩
        have E5 := hide e5
        have l5 : Hid (L5.length = 14) := by unfold Hid; rw [← e5, List.length_append, l0.out]; rfl
        have I5 : Hid (IsF (fun _ => False) _ (.slice (some ⟨s, 1, none⟩) 6 6) (mL a.sm)) := IsF_cells (bs := mL a.sm) (ar_cells CA2.out).2.1 (by have := Z2.out; omega) id (Nat.le_refl _)
        clear e5
        go_upto_region 10 with (at_builtin; refine wpList_grow rfl _ _ rfl rfl (s + 1) (fun _ => False) _ _ L0 (mL a.sm) rfl rfl G2.out I5.out Z2.out (by rw [l0.out]; simp [mL]) L5 E5.out ?_)
        intro a5 c5 w5 hc5 g5 b5
        have C5 : Hid (CellsAt w5 s 0 a.vals) := CA2.out.but (K := fun g => s + 1 ≤ g) (by have := Z2.out; omega) ⟨b5.os, b5.tape, b5.output, b5.size, fun i hi hn => b5.block i (by omega)⟩ (by omega)
        have G5 := hide g5
        have Z5 := hide (Nat.le_trans Z2.out b5.size)
        have B5 : Hid (Below s w w5) := B2.out.trans (b5.mono (by omega))
        clear g5 b5 G2 Z2 B2 CA2 hc5 I5
        obtain ⟨L6, e6⟩ : ∃ L6, L5 ++ iL a.si = L6 := ⟨_, rfl⟩
        have E6 := hide e6
        have l6 : Hid (L6.length = 18) := by unfold Hid; rw [← e6, List.length_append, l5.out]; rfl
        have I6 : Hid (IsF (fun _ => False) _ (.slice (some ⟨s, 7, none⟩) 4 4) (iL a.si)) := IsF_cells (bs := iL a.si) (ar_cells C5.out).2.2.1 (by have := Z5.out; omega) id (Nat.le_refl _)
        clear e6
        go_upto_region 11 with (at_builtin; refine wpList_grow rfl _ _ rfl rfl (s + 1) (fun _ => False) _ _ L5 (iL a.si) rfl rfl G5.out I6.out Z5.out (by rw [l5.out]; simp [iL]) L6 E6.out ?_)
        intro a6 c6 w6 hc6 g6 b6
        have C6 : Hid (CellsAt w6 s 0 a.vals) := C5.out.but (K := fun g => s + 1 ≤ g) (by have := Z5.out; omega) ⟨b6.os, b6.tape, b6.output, b6.size, fun i hi hn => b6.block i (by omega)⟩ (by omega)
        have G6 := hide g6
        have Z6 := hide (Nat.le_trans Z5.out b6.size)
        have B6 : Hid (Below s w w6) := B5.out.trans (b6.mono (by omega))
        clear g6 b6 G5 Z5 B5 C5 hc6 I6
        obtain ⟨L7, e7⟩ : ∃ L7, L6 ++ mL a.dm = L7 := ⟨_, rfl⟩
        have E7 := hide e7
        have l7 : Hid (L7.length = 24) := by unfold Hid; rw [← e7, List.length_append, l6.out]; rfl
        have I7 : Hid (IsF (fun _ => False) _ (.slice (some ⟨s, 11, none⟩) 6 6) (mL a.dm)) := IsF_cells (bs := mL a.dm) (ar_cells C6.out).2.2.2.1 (by have := Z6.out; omega) id (Nat.le_refl _)
        clear e7
        go_upto_region 12 with (at_builtin; refine wpList_grow rfl _ _ rfl rfl (s + 1) (fun _ => False) _ _ L6 (mL a.dm) rfl rfl G6.out I7.out Z6.out (by rw [l6.out]; simp [mL]) L7 E7.out ?_)
        intro a7 c7 w7 hc7 g7 b7
        have C7 : Hid (CellsAt w7 s 0 a.vals) := C6.out.but (K := fun g => s + 1 ≤ g) (by have := Z6.out; omega) ⟨b7.os, b7.tape, b7.output, b7.size, fun i hi hn => b7.block i (by omega)⟩ (by omega)
        have G7 := hide g7
        have Z7 := hide (Nat.le_trans Z6.out b7.size)
        have B7 : Hid (Below s w w7) := B6.out.trans (b7.mono (by omega))
        clear g7 b7 G6 Z6 B6 C6 hc7 I7
        obtain ⟨L8, e8⟩ : ∃ L8, L7 ++ iL a.di = L8 := ⟨_, rfl⟩
        have E8 := hide e8
        have l8 : Hid (L8.length = 28) := by unfold Hid; rw [← e8, List.length_append, l7.out]; rfl
        have I8 : Hid (IsF (fun _ => False) _ (.slice (some ⟨s, 17, none⟩) 4 4) (iL a.di)) := IsF_cells (bs := iL a.di) (ar_cells C7.out).2.2.2.2 (by have := Z7.out; omega) id (Nat.le_refl _)
        clear e8
        go_upto_region 13 with (at_builtin; refine wpList_grow rfl _ _ rfl rfl (s + 1) (fun _ => False) _ _ L7 (iL a.di) rfl rfl G7.out I8.out Z7.out (by rw [l7.out]; simp [iL]) L8 E8.out ?_)
        intro a8 c8 w8 hc8 g8 b8
        have C8 : Hid (CellsAt w8 s 0 a.vals) := C7.out.but (K := fun g => s + 1 ≤ g) (by have := Z7.out; omega) ⟨b8.os, b8.tape, b8.output, b8.size, fun i hi hn => b8.block i (by omega)⟩ (by omega)
        have G8 := hide g8
        have Z8 := hide (Nat.le_trans Z7.out b8.size)
        have B8 : Hid (Below s w w8) := B7.out.trans (b8.mono (by omega))
        clear g8 b8 G7 Z7 B7 C7 hc8 I8
        go_wp2
        go_ret2
        refine ⟨.slice a8 L8.length c8, by rw [E1.out]; rfl, ?_, B8.out⟩
        have e : arB a = L8 := by
          rw [E2.out, HD8.out, ← E8.out, ← E7.out, ← E6.out, ← E5.out, EL0.out]
          simp [arT]
        rw [e]
        exact Gro.less G8.out (by omega)
end Go.Proofs.Ytjaodjlgnclkhaa
