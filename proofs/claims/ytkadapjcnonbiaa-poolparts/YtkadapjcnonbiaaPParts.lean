
/-
  PoolParts: its walk.
-/
import Derived.Test.YtkadapjcnonbiaaPLaw
namespace Go.Proofs.Ytkadapjcnonbiaa
open Go.RowKit

theorem fo_data {n : Nat} {B : Nat → Buf} (id : Int) (bs : List Int) (k : Nat) : (foB n B id bs k).data = (B k).data := by
  unfold foB; split
  · by_cases e : k = id.toNat
    · subst e; rw [upd_same]
    · rw [upd_other _ _ _ _ e]
  · rfl
theorem owE_one {n : Nat} {B : Nat → Buf} (hn : 0 < n) (h : (B 0).refs = 1) : owE n B 0 = 0 := by
  show owE n B ((0 : Nat) : Int) = 0
  unfold owE
  rw [usd_nat hn (by omega), if_pos rfl, Int.toNat_natCast, if_neg (by omega)]
theorem strB_data (bs : List Int) : ∀ r : ByteArray, (bs.foldl (fun r n => r.push (UInt8.ofNat n.toNat)) r).data = r.data ++ (bs.map (fun n => UInt8.ofNat n.toNat)).toArray := by
  induction bs with
  | nil => intro r; simp
  | cons x l ih => intro r; rw [List.foldl_cons, ih]; simp [ByteArray.push]
theorem strB_append (a b : List Int) : strB (a ++ b) = strB a ++ strB b := by
  apply ByteArray.ext
  rw [ByteArray.data_append]
  unfold strB
  rw [strB_data, strB_data, strB_data]
  simp
theorem strB_size (a : List Int) : (strB a).size = a.length := by
  show (strB a).data.size = _
  unfold strB
  rw [strB_data]
  simp

/-- bytes cut out of a row -/
theorem Gro.cutF {s : Nat} {w : World} {a : Option Addr} {c : Nat} {A : List Int} (h : Gro s w (.slice a A.length c) A) (f k : Nat) (hfk : f + k ≤ A.length) (a' : Option Addr)
    (ha : f < c → ∃ g, a = some ⟨g, 0, none⟩ ∧ a' = some ⟨g, f, none⟩) (hn : a' = none → a = none) (X : Nat → Prop) (hX : ∀ g, s ≤ g → ¬ X g) : IsF X w (.slice a' (A.length - k - f) (c - f)) (cut A f k) := by
  have hl := cut_len A f k hfk
  obtain ⟨a0, c0, e0, hle, hnn, hcs⟩ := h.isF hX
  simp only [Value.slice.injEq, true_and] at e0
  obtain ⟨rfl, rfl⟩ := e0
  refine ⟨a', c - f, by rw [hl], by omega, fun e => ?_, fun h0 => ?_⟩
  · have := hnn (hn e); omega
  · rw [hl] at h0
    obtain ⟨g, off, e1, hlt, hXg, hc⟩ := hcs (by omega)
    obtain ⟨g', e2, e3⟩ := ha (by omega)
    rw [e1] at e2
    simp only [Option.some.injEq, Addr.mk.injEq, and_true] at e2
    obtain ⟨rfl, rfl⟩ := e2
    refine ⟨g, f, e3, hlt, hXg, fun j hj => ?_⟩
    rw [hl] at hj
    have := hc (f + j) (by omega)
    rw [Nat.zero_add] at this
    rw [this, cut_get A f k j hfk hj]

set_option maxRecDepth 100000 in
set_option maxHeartbeats 4000000 in
theorem Parts_walk (v : Value) (l : List (Value × List Int)) (hv : Value) (hh : List Int) (front back : Int) (W : World) (hI : IsL W.heap.size W v l) (hl : l.length ≤ 5864062014634) (hH : IsF (fun g => W.heap.size ≤ g) W hv hh) (_ : hh.length ≤ 140737488351232) (_ : -9223372036854775808 ≤ front) (_ : front ≤ 9223372036854775807) (_ : -9223372036854775808 ≤ back) (_ : back ≤ 9223372036854775807) :
    Calls Try.prog 6 #[v, hv, .int .i64 front, .int .i64 back] W fun e W' => e = .returned (.bool true) ∧ Below W.heap.size W W' := by
  have HI := hide hI
  obtain ⟨a, cap, rfl, _, _⟩ := hI
  obtain ⟨va, vc, rfl, _, _⟩ := hH.shape
  have VH := hide hH
  clear hH
  have cv := conv_same
  go_enter Try.func6, Try.ntmps6
  go_wp2_with fail
  refine (awake_any W).mono ?_
  rintro e w1 ⟨rfl, hb1⟩
  go_wp2_with fail
  refine (show Calls Try.prog 8 #[.int .i64 3] w1 _ from New_yes w1 3 (by omega) (by omega)).mono ?_
  rintro e w2 ⟨b, rfl, p2, hb2, hgb⟩
  obtain ⟨g, hg⟩ : ∃ g, g = w1.heap.size := ⟨_, rfl⟩
  rw [← hg] at p2 hgb
  have HW : Hid (W.heap.size ≤ g) := by have := hb1.size; show _ ≤ _; omega
  have B2 := hide (hb1.trans (hb2.mono hb1.size))
  have P2 := hide p2
  have HGB := hide hgb
  clear hb1 hb2 p2 hg hgb
  go_wp2_with fail
  refine (show Calls Try.prog 15 #[.pointer (some ⟨b, 0, none⟩)] w2 (fun e w' => e = .returned (.tuple #[.int .i64 0, .int .i64 0]) ∧ PoolAt w' b g 3 a1 ∧ But (Only g) w2 w') from Get_yes P2.out 0 (by omega) rfl (fun j hj => absurd hj (Nat.not_lt_zero _))).mono ?_
  rintro e w3 ⟨rfl, p3, b3⟩
  obtain ⟨s0, hs0⟩ : ∃ s0, s0 = w3.heap.size := ⟨_, rfl⟩
  have SG : Hid (g < s0 ∧ b < s0 ∧ W.heap.size ≤ s0) := by have h1 := p3.glt; have h2 := p3.blt; have h3 := HW.out; exact ⟨by omega, by omega, by omega⟩
  have KP : Hid (∀ X Y : World, Below W.heap.size W X → But (fun x => x = g ∨ s0 ≤ x) X Y → Below W.heap.size W Y) := fun X Y h k => h.trans (k.below h.size (fun x hx e => by have h1 := HW.out; have h2 := SG.out; omega))
  have P3 := hide p3
  have B3 := hide (KP.out _ _ B2.out (b3.mono (fun x e => .inl e)))
  have G3 : Hid (Gro s0 w3 (.slice none 0 0) []) := Gro.nil _ _
  have Z3 : Hid (s0 ≤ w3.heap.size) := Nat.le_of_eq hs0
  clear P2 B2 p3 b3 hs0
  go_wp2
  go_loopw [14, 15] (fun v14 v15 wr => ∃ (i : Nat) (A : List Int) (a : Option Addr) (c : Nat) (B : Nat → Buf), v15 = .int .i64 i ∧ v14 = .slice a A.length c ∧ i ≤ l.length ∧ Hid (PoolAt wr b g 3 B) ∧ Hid ((B 0).refs = 1) ∧ Hid ((B 0).data = A) ∧ Hid (Gro s0 wr (.slice a A.length c) A) ∧ Hid (Below W.heap.size W wr) ∧ Hid (s0 ≤ wr.heap.size)) (fun _ v15 _ => l.length - (intOf v15).toNat)
  case atStart => exact ⟨0, [], none, 0, a1, rfl, rfl, Nat.zero_le _, P3.out, rfl, rfl, G3.out, B3.out, Z3.out⟩
  case round =>
    obtain ⟨i, A, a, c, B, rfl, rfl, hi, hP, hR, hD, hG, hB, hZ⟩ := hrel
    clear P3 B3 G3 Z3
    have hA288 : Hid (A.length ≤ 288) := by have := (hP.out.buf 0 (by omega)).dle; rw [hD.out] at this; exact this
    by_cases hlt : i < l.length
    · obtain ⟨a', cap', e', hc, hf⟩ := HI.out.below hB.out
      simp only [Value.slice.injEq] at e'
      obtain ⟨rfl, _, rfl⟩ := e'
      obtain ⟨gl, off, rfl, hgl, hcs⟩ := hc (by omega)
      obtain ⟨o, ho⟩ : ∃ o, l[i]? = some o := ⟨l[i], List.getElem?_eq_getElem hlt⟩
      have q0 := hcs i o ho
      obtain ⟨hbv, hbl⟩ := hf o (List.mem_of_getElem? ho)
      obtain ⟨odv, ods⟩ := o
      simp only at q0 hbv hbl
      obtain ⟨dd, dc, rfl, _, _⟩ := hbv.shape
      have HV := hide hbv
      have HGL := hide hgl
      clear hcs hf hc ho hbv hgl
      have AP := hide (Append_any hP.out 0 _ ods HV.out)
      have hm : ods.length ≤ 140737488351232 := hbl
      obtain ⟨m, em⟩ : ∃ m, m = ods.length := ⟨_, rfl⟩
      obtain ⟨k, ek⟩ : ∃ k, k = A.length := ⟨_, rfl⟩
      have k288 : k ≤ 288 := by have := hA288.out; omega
      by_cases fit : ods.length + A.length ≤ 288
      · have E0 : apE 3 B 0 ods = 0 := by
          unfold apE
          rw [owE_one (by omega) hR.out, if_pos rfl, show (0 : Int).toNat = 0 from rfl, hD.out, if_neg (by omega)]
        have E1 : Hid (apB 3 B 0 ods = upd B 0 { B 0 with data := A ++ ods }) := by
          show _ = _
          unfold apB; rw [if_pos E0, show (0 : Int).toNat = 0 from rfl, hD.out]
        rw [E0] at AP
        have z1 : (k : Int) + m ≤ 288 := by omega
        go_wp2_with fail
        refine AP.out.mono ?_
        rintro e w4 ⟨rfl, p4, b4⟩
        rw [E1.out] at p4
        have q1 := (b4.cell (p := ⟨gl, off + i, none⟩) (World.block_lt_of_cell? _ _ q0) (by unfold Only; have h1 := HGL.out; have h2 := HW.out; show ¬ gl = g; omega)).trans q0
        have P4 := hide p4
        have G4 := hide (hG.out.keep b4 (fun x e1 e2 => by have h1 := (hG.out.blk x e1).1; have h2 := SG.out; have e2 : x = g := e2; omega))
        have B4 := hide (KP.out _ _ hB.out (b4.mono (fun x e => .inl e)))
        have V4 := hide (HV.out.below (show Below W.heap.size _ w4 from b4.below hB.out.size (fun x hx e => by have h1 := HW.out; have e : x = g := e; omega)))
        have Z4 := hide (Nat.le_trans hZ.out b4.size)
        have EM := hide em
        have EK := hide ek
        rw [← em] at V4 q1 ⊢
        rw [← ek] at G4 ⊢
        clear AP p4 b4 em ek q0 fit hbl
        obtain ⟨L, eL⟩ : ∃ L, L = A ++ ods := ⟨_, rfl⟩
        rw [← eL] at P4
        have EL := hide eL
        clear eL
        go_wp2_with (at_builtin; refine wpList_grow rfl _ _ rfl rfl s0 (fun g => W.heap.size ≤ g) _ _ A ods rfl rfl ?g1 ?g2 ?g3 ?g4 L EL.out.symm ?_)
        · have := G4.out; exact this
        · exact V4.out
        · exact Z4.out
        · have h1 := EK.out; have h2 := EM.out; omega
        intro a5 c5 w5 hc5 hG5 hB5
        have P5 := hide (P4.out.but (K := fun x => s0 ≤ x) ⟨hB5.os, hB5.tape, hB5.output, hB5.size, fun x hx e => hB5.block x (by omega)⟩ (by have := SG.out; omega) (by have := SG.out; omega))
        have G5 := hide hG5
        have B5 := hide (KP.out _ _ B4.out ⟨hB5.os, hB5.tape, hB5.output, hB5.size, fun x hx e => hB5.block x (by omega)⟩)
        have VB5 := hide (B5.out)
        have Z5 := hide (Nat.le_trans Z4.out hB5.size)
        have R5 : Hid ((upd B 0 { B 0 with data := L } 0).refs = 1) := by show _ = _; rw [upd_same]; exact hR.out
        have D5 : Hid ((upd B 0 { B 0 with data := L } 0).data = L) := by show _ = _; rw [upd_same]
        clear hG5 hB5 P4 G4 B4 V4
        have FO := hide (Front_any P5.out 0 _ hh (VH.out.below VB5.out))
        cases e2 : ((i : Int) % 2 == 0) with
        | true =>
          go_wp2_with fail
          refine FO.out.mono ?_
          rintro e w9 ⟨rfl, p9, b9⟩
          have P9 := hide p9
          have G9 := hide (G5.out.keep b9 (fun k e1 e2 => by have h1 := (G5.out.blk k e1).1; have h2 := SG.out; have e2 : k = g := e2; omega))
          have s9 := b9.size
          have B9 := hide (KP.out _ _ B5.out (b9.mono (fun x e => .inl e)))
          clear FO p9 b9
          go_wp2
          go_roundw
          case rel => exact ⟨i + 1, L, a5, c5, foB 3 (upd B 0 { B 0 with data := L }) 0 hh, by go_num, rfl, by omega, P9.out, by show _ = _; rw [fo_refs]; exact R5.out, by show _ = _; rw [fo_data]; exact D5.out, G9.out, B9.out, Nat.le_trans Z5.out (by assumption)⟩
          case measure => simp [intOf]; omega
        | false =>
          clear FO
          go_wp2
          go_roundw
          case rel => exact ⟨i + 1, L, a5, c5, (upd B 0 { B 0 with data := L }), by go_num, rfl, by omega, P5.out, R5.out, D5.out, G5.out, B5.out, Z5.out⟩
          case measure => simp [intOf]; omega
      · have E0 : apE 3 B 0 ods = 2 := by
          unfold apE
          rw [owE_one (by omega) hR.out, if_pos rfl, show (0 : Int).toNat = 0 from rfl, hD.out, if_pos (by omega)]
        have E1 : Hid (apB 3 B 0 ods = B) := by
          show _ = _
          unfold apB; rw [E0, if_neg (by omega)]
        rw [E0] at AP
        have z1 : 288 < (A.length : Int) + m := by omega
        have z2 : (m : Int) ≤ 140737488351232 := by omega
        have z3 : (A.length : Int) ≤ 288 := by omega
        go_wp2_with fail
        refine AP.out.mono ?_
        rintro e w4 ⟨rfl, p4, b4⟩
        rw [E1.out] at p4
        have q1 := (b4.cell (p := ⟨gl, off + i, none⟩) (World.block_lt_of_cell? _ _ q0) (by unfold Only; have h1 := HGL.out; have h2 := HW.out; show ¬ gl = g; omega)).trans q0
        have P5 := hide p4
        have G5 := hide (hG.out.keep b4 (fun x e1 e2 => by have h1 := (hG.out.blk x e1).1; have h2 := SG.out; have e2 : x = g := e2; omega))
        have B5 := hide (KP.out _ _ hB.out (b4.mono (fun x e => .inl e)))
        have Z5 := hide (Nat.le_trans hZ.out b4.size)
        have R5 := hR
        have D5 := hD
        have EM := hide em
        rw [← em] at q1 ⊢
        clear AP p4 b4 em ek q0 fit hbl
        have FO := hide (Front_any P5.out 0 _ hh (VH.out.below B5.out))
        cases e2 : ((i : Int) % 2 == 0) with
        | true =>
          go_wp2_with fail
          refine FO.out.mono ?_
          rintro e w9 ⟨rfl, p9, b9⟩
          have P9 := hide p9
          have G9 := hide (G5.out.keep b9 (fun k e1 e2 => by have h1 := (G5.out.blk k e1).1; have h2 := SG.out; have e2 : k = g := e2; omega))
          have s9 := b9.size
          have B9 := hide (KP.out _ _ B5.out (b9.mono (fun x e => .inl e)))
          clear FO p9 b9
          go_wp2
          go_roundw
          case rel => exact ⟨i + 1, A, a, c, foB 3 B 0 hh, by go_num, rfl, by omega, P9.out, by show _ = _; rw [fo_refs]; exact R5.out, by show _ = _; rw [fo_data]; exact D5.out, G9.out, B9.out, Nat.le_trans Z5.out (by assumption)⟩
          case measure => simp [intOf]; omega
        | false =>
          clear FO
          go_wp2
          go_roundw
          case rel => exact ⟨i + 1, A, a, c, B, by go_num, rfl, by omega, P5.out, R5.out, D5.out, G5.out, B5.out, Z5.out⟩
          case measure => simp [intOf]; omega
    · obtain rfl : i = l.length := by omega
      have TR := hide (Trim_any hP.out 0 front back)
      obtain ⟨x, ex⟩ : ∃ x, x = trE 3 B 0 front back := ⟨_, rfl⟩
      obtain ⟨m, em⟩ : ∃ m, m = decide (0 ≤ front ∧ 0 ≤ back ∧ front + back ≤ A.length) := ⟨_, rfl⟩
      have h0 : trE 3 B 0 front back = if 0 ≤ front ∧ 0 ≤ back ∧ front + back ≤ A.length then 0 else 1 := by
        unfold trE; rw [owE_one (by omega) hR.out, if_pos rfl, show (0 : Int).toNat = 0 from rfl, hD.out]
      have hq : (x == 0) = m := by
        rw [ex, em, h0]
        split
        · rename_i h; simp [h]
        · rename_i h; simp [h]
      have CB : Hid ((m = true → trB 3 B 0 front back = upd B 0 { B 0 with data := cut A front back }) ∧ (m = false → trB 3 B 0 front back = B)) := by
        refine ⟨fun h => ?_, fun h => ?_⟩
        · rw [em] at h
          unfold trB; rw [h0, if_pos (of_decide_eq_true h), if_pos rfl, show (0 : Int).toNat = 0 from rfl, hD.out]
        · rw [em] at h
          unfold trB; rw [h0, if_neg (of_decide_eq_false h), if_neg (by omega)]
      have EM := hide em
      rw [← ex] at TR
      clear ex em h0
      have hAl := hA288.out
      go_wp2_with fail
      refine TR.out.mono ?_
      rintro e w4 ⟨rfl, p4, b4⟩
      have P4 := hide p4
      have G4 := hide (hG.out.keep b4 (fun x e1 e2 => by have h1 := (hG.out.blk x e1).1; have h2 := SG.out; have e2 : x = g := e2; omega))
      have B4 := hide (KP.out _ _ hB.out (b4.mono (fun x e => .inl e)))
      have Z4 := hide (Nat.le_trans hZ.out b4.size)
      clear TR p4 b4
      go_upto_region 18 with fail
      go_cut [18] (fun v18 wc => w4 = wc ∧ v18 = .bool m)
      case first =>
        by_cases h1 : front < 0
        · go_wp2
          go_meet
          case rel => exact ⟨rfl, by rw [EM.out]; simp; omega⟩
        · by_cases h2 : back < 0
          · go_wp2
            go_meet
            case rel => exact ⟨rfl, by rw [EM.out]; simp; omega⟩
          · by_cases h3 : (A.length : Int) < front
            · go_wp2
              go_meet
              case rel => exact ⟨rfl, by rw [EM.out]; simp; omega⟩
            · by_cases h4 : (A.length : Int) - front < back
              · have h5 : ¬ back ≤ (A.length : Int) - front := by omega
                go_wp2
                go_meet
                case rel => exact ⟨rfl, by rw [EM.out]; exact congrArg _ (decide_eq_false (fun h => by omega)).symm⟩
              · have h5 : back ≤ (A.length : Int) - front := by omega
                go_wp2
                go_meet
                case rel => exact ⟨rfl, by rw [EM.out]; exact congrArg _ (decide_eq_true ⟨by omega, by omega, by omega⟩).symm⟩
      case rest =>
        obtain ⟨hw4, rfl⟩ := hcut
        subst hw4
        go_upto_if 111 with fail
        go_cut [14, 18] (fun v14 _ wc => w4 = wc ∧ ∃ (a' : Option Addr) (c' : Nat) (A' : List Int), v14 = .slice a' A'.length c' ∧ A'.length ≤ 288 ∧ Hid (IsF (Only g) w4 (.slice a' A'.length c') A') ∧ Hid (∃ hd, trB 3 B 0 front back 0 = ⟨1, hd, A'⟩))
        case first =>
          cases hm : m with
          | false =>
            have EB := CB.out.2 hm
            go_wp2
            go_meet
            case rel =>
              refine ⟨rfl, a, c, A, rfl, hAl, G4.out.isF (fun x hx e => by have h2 := SG.out; have e : x = g := e; omega), (B 0).head, ?_⟩
              rw [EB, ← hR.out, ← hD.out]
          | true =>
            have EB := CB.out.1 hm
            have hc := EM.out
            rw [hm] at hc
            obtain ⟨h1, h2, h3⟩ := of_decide_eq_true hc.symm
            obtain ⟨f, rfl⟩ : ∃ f : Nat, front = f := ⟨front.toNat, by omega⟩
            obtain ⟨k, rfl⟩ : ∃ k : Nat, back = k := ⟨back.toNat, by omega⟩
            have hfk : f + k ≤ A.length := by omega
            have XF : ∀ g', s0 ≤ g' → ¬ Only g g' := fun x hx e => by have h2 := SG.out; have e : x = g := e; omega
            have hrow := G4.out
            have hFB : Hid (∃ hd, trB 3 B 0 (f : Int) (k : Int) 0 = ⟨1, hd, cut A f k⟩) := ⟨(B 0).head, by rw [EB, upd_same, ← hR.out]⟩
            have hcl := cut_len A f k hfk
            have z1 : (f : Int) ≤ A.length := by omega
            have z2 : (k : Int) ≤ (A.length : Int) - f := by omega
            obtain ⟨h, hh2⟩ : ∃ h : Nat, h = A.length - k := ⟨_, rfl⟩
            have z3 : (A.length : Int) - (k : Int) = (h : Int) := by omega
            have z4 : (f : Int) ≤ (h : Int) := by omega
            have z5 : (h : Int) ≤ (A.length : Int) := by omega
            obtain ⟨_, ⟨e1, e2⟩ | ⟨gg, cp, cur, e1, hgg, hhp, hnc, hcm, _⟩⟩ := hrow
            · simp only [Value.slice.injEq] at e1
              obtain ⟨rfl, _, rfl⟩ := e1
              have hf0 : f = 0 := by omega
              have hk0 : k = 0 := by omega
              have hA0 : A = [] := List.eq_nil_of_length_eq_zero e2
              subst hf0 hk0 hA0
              have hh0 : h = 0 := by simpa using hh2
              subst hh0
              have HG4 := G4.out.isF XF
              have EH := hide HG4
              clear hc hq z1 z2 z3 z4 z5 hh2 e2 hcl EB hfk
              go_wp2
              go_meet
              case rel => exact ⟨rfl, none, 0, [], rfl, by simp, EH.out, hFB.out⟩
            · simp only [Value.slice.injEq, true_and] at e1
              obtain ⟨rfl, rfl⟩ := e1
              have XR : Hid (IsF (Only g) w4 (.slice (some (if c = f then ⟨gg, 0, none⟩ else ⟨gg, f, none⟩)) (A.length - k - f) (c - f)) (cut A f k)) :=
                G4.out.cutF f k hfk _ (fun hlt => ⟨gg, rfl, by rw [if_neg (by omega)]⟩) (fun e => by cases e) (Only g) XF
              have hle : (cut A f k).length ≤ 288 := by omega
              have z6 : (A.length : Int) ≤ c := by omega
              have z7 : (h : Int) ≤ c := by omega
              have z8 : (c : Int) ≤ 9223372036854775807 := by unfold maxLen at hcm; omega
              rw [← hh2] at XR hcl
              rw [← hcl] at XR
              have HCL := hide hcl
              have HLE := hide hle
              clear hc hq hcl hle hh2 EB hhp hnc hcm
              by_cases ecf : c = f
              · subst ecf
                rw [if_pos rfl, Nat.sub_self] at XR
                go_wp2
                go_meet
                case rel => exact ⟨rfl, _, _, cut A c k, by rw [HCL.out], HLE.out, XR.out, hFB.out⟩
              · rw [if_neg ecf] at XR
                go_wp2
                go_meet
                case rel => exact ⟨rfl, _, _, cut A f k, by rw [HCL.out], HLE.out, XR.out, hFB.out⟩
        case rest =>
          obtain ⟨hw4, a', c', A', rfl, hA', hF4, hB4⟩ := hcut
          subst hw4
          obtain ⟨hd, hB0⟩ := hB4.out
          have S := See_yes P4.out 0 (by omega) (by rw [hB0]; exact Nat.one_pos)
          rw [hB0] at S
          have HS := hide S
          have HB0 := hide hB0
          clear S hB0 hB4
          go_wp2_with fail
          refine (show Calls Try.prog 19 #[.pointer (some ⟨b, 0, none⟩), .int .i64 0] w4 _ from HS.out).mono ?_
          rintro e w5 ⟨ha, hc, da, dc, rfl, sn, b5⟩
          simp only at sn ⊢
          have bA := b5.alloc b5.size (.cells #[.int .i64 1, .slice ha hd.length hc, .slice da A'.length dc] 43)
          have P6 := hide (P4.out.later bA)
          have F6 := hide ((hF4.out.avoid (A' := fun x => x = g ∨ w4.heap.size ≤ x) (fun x hx e => e.elim id (fun e => by omega))).but (K := fun _ => False) (But.of_below bA) (fun _ e => e.elim))
          have D6 := hide ((sn.d.isF (A := Only g) (fun x hx e => by have h1 := P4.out.glt; have e : x = g := e; omega)).alloc (.cells #[.int .i64 1, .slice ha hd.length hc, .slice da A'.length dc] 43))
          have T6 := Tell.new w5 1 (.slice ha hd.length hc) (.slice da A'.length dc) 43
          have B6 := hide (KP.out _ _ B4.out (But.of_below bA))
          have NS : Hid (¬ Only g w5.heap.size) := fun e => by have h1 := P4.out.glt; have h2 := b5.size; have e : w5.heap.size = g := e; omega
          have WS : Hid (W.heap.size ≤ w5.heap.size ∧ w4.heap.size ≤ w5.heap.size ∧ s0 ≤ w5.heap.size) := by have h1 := B4.out.size; have h2 := b5.size; have h3 := Z4.out; exact ⟨by omega, by omega, by omega⟩
          clear sn b5 bA HS P4 B4 G4 hF4
          go_upto_region 24 with fail
          obtain ⟨s, hs⟩ : ∃ s, s = w5.heap.size := ⟨_, rfl⟩
          rw [← hs] at T6 NS WS ⊢
          clear hs
          generalize w5.alloc (.cells #[.int .i64 1, .slice ha hd.length hc, .slice da A'.length dc] 43) = w6 at *
          have cx := conv_str D6.out
          have cy := conv_str F6.out
          have hsz : (strB A').size ≤ 288 := by rw [strB_size]; exact hA'
          have SA : ∀ X, strB (A' ++ X) = strB A' ++ strB X := fun X => strB_append A' X
          obtain ⟨t0, t1, t2, _⟩ := T6
          have T6' := hide (show Tell w6 s 1 (.slice ha hd.length hc) (.slice da A'.length dc) from ⟨t0, t1, t2, by assumption⟩)
          obtain ⟨sA, esA⟩ : ∃ sA, strB A' = sA := ⟨_, rfl⟩
          rw [esA] at cx cy hsz SA
          have ESA := hide esA
          have SA := hide SA
          clear esA
          clear D6
          by_cases h279 : 279 < A'.length
          · have h279' : (279 : Int) < (A'.length : Int) := by omega
            go_wp2
            go_ret
            exact ⟨rfl, B6.out⟩
          · have h279' : (A'.length : Int) ≤ 279 := by omega
            have AP := hide (Append_any (A := fun _ => False) (P6.out.al (.cells #[.int .u8 97, .int .u8 110, .int .u8 100, .int .u8 32, .int .u8 109, .int .u8 111, .int .u8 114, .int .u8 101, .int .u8 46] 5 (9, 10))) 0 _ [97, 110, 100, 32, 109, 111, 114, 101, 46] (lit_F w6 [97, 110, 100, 32, 109, 111, 114, 101, 46] _ id _))
            have EA : apE 3 (trB 3 B 0 front back) 0 [97, 110, 100, 32, 109, 111, 114, 101, 46] = 0 := by
              unfold apE
              rw [owE_one (by omega) (by rw [HB0.out]), if_pos rfl, show (0 : Int).toNat = 0 from rfl, HB0.out, if_neg (by simp; omega)]
            have EB : Hid (apB 3 (trB 3 B 0 front back) 0 [97, 110, 100, 32, 109, 111, 114, 101, 46] 0 = ⟨1, hd, A' ++ [97, 110, 100, 32, 109, 111, 114, 101, 46]⟩) := by
              show _ = _
              unfold apB; rw [if_pos EA, show (0 : Int).toNat = 0 from rfl, upd_same, HB0.out]
            rw [EA] at AP
            clear EA
            go_wp2_with fail
            refine AP.out.mono ?_
            rintro e w7 ⟨rfl, p7, b7⟩
            have P7 := hide p7
            have bL : But (Only g) w6 w7 := ((But.refl (Only g) w6).alloc _).trans b7
            have F7 := hide (F6.out.but bL (fun _ e => .inl e))
            have T7 := hide (T6'.out.but bL NS.out)
            have B7 := hide (KP.out _ _ B6.out (bL.mono (fun x e => .inl e)))
            clear AP p7 b7 bL F6 T6' B6 P6 t0 t1 t2 cx cy
            have S := See_yes P7.out 0 (by omega) (by rw [EB.out]; exact Nat.one_pos)
            rw [EB.out] at S
            have HS := hide S
            clear S
            go_wp2_with fail
            refine (show Calls Try.prog 19 #[.pointer (some ⟨b, 0, none⟩), .int .i64 0] w7 _ from HS.out).mono ?_
            rintro e w8 ⟨ha2, hc2, da2, dc2, rfl, sn, b8⟩
            simp only at sn ⊢
            obtain ⟨t0, t1, t2, tf⟩ := T7.out.but (K := fun _ => False) (But.of_below b8) id
            have tf0 := tf 0
            have tf1 := tf 1
            have tf2 := tf 2
            obtain ⟨L, eL⟩ : ∃ L, L = A' ++ [97, 110, 100, 32, 109, 111, 114, 101, 46] := ⟨_, rfl⟩
            rw [← eL] at sn ⊢
            have bS : But (Only s) w8 (((w8.setCell ⟨s, 0, none⟩ (.int .i64 1)).setCell ⟨s, 1, none⟩ (.slice ha2 hd.length hc2)).setCell ⟨s, 2, none⟩ (.slice da2 L.length dc2)) := (((But.refl _ w8).cellb _ _).cellb _ _).cellb _ _
            have hsl := T7.out.lt
            have cy := conv_str (((F7.out.but (K := fun _ => False) (But.of_below b8) (fun _ e => e.elim))).but bS (fun x e => .inr (by have h1 := WS.out; have e : x = s := e; omega)))
            have cx := conv_str ((sn.d.isF (A := Only s) (fun x hx e => by have e : x = s := e; omega)).but bS (fun _ e => e))
            rw [ESA.out] at cy
            rw [eL, SA.out, show strB [97, 110, 100, 32, 109, 111, 114, 101, 46] = { data := #[97, 110, 100, 32, 109, 111, 114, 101, 46] } from by decide, ← eL] at cx
            have B9 := hide (KP.out _ _ B7.out ((But.of_below (K := fun x => x = g ∨ s0 ≤ x) b8).trans (bS.mono (fun x e => .inr (by have h1 := WS.out; have e : x = s := e; omega)))))
            have c2 : (((w8.setCell ⟨s, 0, none⟩ (.int .i64 1)).setCell ⟨s, 1, none⟩ (.slice ha2 hd.length hc2)).setCell ⟨s, 2, none⟩ (.slice da2 L.length dc2)).cell? ⟨s, 2, none⟩ = some (.slice da2 L.length dc2) :=
              World.cell?_setCell_same' _ _ _ (by rw [setCell_out (by omega), setCell_out (by omega), t2]; rfl)
            clear sn b8 bS eL HS P7 F7 T7 B7 tf hsl SA
            go_upto_region 30 with fail
            generalize ((w8.setCell ⟨s, 0, none⟩ (.int .i64 1)).setCell ⟨s, 1, none⟩ (.slice ha2 hd.length hc2)).setCell ⟨s, 2, none⟩ (.slice da2 L.length dc2) = w9 at *
            go_wp2
            go_ret
            exact ⟨rfl, B9.out⟩

end Go.Proofs.Ytkadapjcnonbiaa
