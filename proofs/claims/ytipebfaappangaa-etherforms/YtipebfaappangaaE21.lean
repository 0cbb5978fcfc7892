
/-
  The document's Decode, walked.
-/
import Derived.Test.YtipebfaappangaaE20
namespace Go.Proofs.Ytipebfaappangaa
open Go.RowKit

def RdEnd (A : Nat → Prop) (w : World) (bs : List Int) (e : Ending) (w' : World) : Prop :=
  ∃ a c, e = .returned (.tuple #[(deF bs).val, .slice a (deB bs).length c, .int .i64 (deE bs)]) ∧ IsF A w' (.slice a (deB bs).length c) (deB bs) ∧ Below w.heap.size w w'

theorem RdEnd.no {A : Nat → Prop} {w w' : World} {bs : List Int} (k : Int) (hk : k ≠ 0) (h : deE bs = k) (hb : Below w.heap.size w w') : RdEnd A w bs (.returned (.tuple #[zFr.val, .slice none 0 0, .int .i64 k])) w' := by
  have h0 : ¬ deE bs = 0 := by rw [h]; exact hk
  refine ⟨none, 0, ?_, ?_, hb⟩
  · rw [deF, deB, if_neg h0, if_neg h0, h]; rfl
  · rw [deB, if_neg h0]; exact IsF.nil _ _

set_option maxHeartbeats 4000000 in
theorem rDecode_short {w : World} {v : Value} {A : Nat → Prop} {bs : List Int} (h : IsF A w v bs) (h60 : bs.length < 60) : Calls Try.prog 12 #[v] w (RdEnd A w bs) := by
  obtain ⟨a, cap, rfl, hcap, -⟩ := h.shape
  have F0 := hide (FrAt.new w zFr 25)
  have B0 := hide (later_alloc w (.cells zFr.cells 25))
  simp only [zFr, Fr.cells] at F0 B0
  have E := hide (show deE bs = 3 from by unfold deE; rw [if_pos h60])
  have l1 : (bs.length : Int) < 60 := by omega
  clear h h60
  go_enter Try.func12, Try.ntmps12
  go_wp2_with (refine wpList_store_fr rfl _ _ rfl w.heap.size rfl zFr zFr rfl F0.out ?_)
  intro W1 F1 q1
  go_wp2
  refine bodyPost_ret (v := .tuple #[zFr.val, .slice none 0 0, .int .i64 3]) (by rw [results_cell_tmp2 rfl]; simp [asAddr, F1.load]) rfl ?_
  exact RdEnd.no 3 (by decide) E.out (B0.out.trans (q1.below B0.out.size (fun g hg e => by have e : g = w.heap.size := e; omega)))

/-- the head in block s, the answer's in block r -/
structure RSt (w : World) (s r : Nat) (f : Fr) (W : World) : Prop where
  g : FrAt W s f
  z : FrAt W r zFr
  b : Below w.heap.size w W
theorem RSt.turn {w : World} {s r : Nat} {f f' : Fr} {W W' : World} (h : RSt w s r f W) (hs : w.heap.size = r ∧ r + 1 = s) (hq : But (Only s) W W') (hg : FrAt W' s f') : RSt w s r f' W' :=
  ⟨hg, h.z.but hq (fun e => by have e : r = s := e; omega), h.b.trans (hq.below h.b.size (fun g _ e => by have e : g = s := e; omega))⟩
theorem RSt.drew {w : World} {s r : Nat} {f : Fr} {W : World} (h : RSt w s r f W) : RSt w s r f W.drew := ⟨h.g.later (later_drew _), h.z.later (later_drew _), later h.b (later_drew _)⟩

set_option maxRecDepth 100000 in
set_option maxHeartbeats 8000000 in
theorem rDecode_long {w : World} {v : Value} {A : Nat → Prop} {bs : List Int} (h : IsF A w v bs) (hB : Bytes bs) (hl : (bs.length : Int) ≤ 140737488355328) (h60 : 60 ≤ bs.length) : Calls Try.prog 12 #[v] w (RdEnd A w bs) := by
  obtain ⟨b, off, cap, rfl, hcap, hbw, hcs⟩ : ∃ b off cap, v = .slice (some ⟨b, off, none⟩) bs.length cap ∧ bs.length ≤ cap ∧ b < w.heap.size ∧ ∀ j, j < bs.length → w.cell? ⟨b, off + j, none⟩ = some (.int .u8 (nb bs j)) := by
    obtain ⟨a, cap, e, hl, _, hc⟩ := h
    obtain ⟨b, off, e1, hb, _, hcs⟩ := hc (by omega)
    exact ⟨b, off, cap, by rw [e, e1], hl, hb, hcs⟩
  have E := hide (rE_eq hB h60)
  have RF := hide (rF_eq hB)
  have BY := hide (nb_bd hB)
  have H := hide h
  obtain ⟨n, hn⟩ : ∃ n, n = bs.length := ⟨_, rfl⟩
  rw [← hn] at H hcap hcs ⊢
  have HC : Hid (∀ W, Below w.heap.size w W → ∀ j, j < n → W.cell? ⟨b, off + j, none⟩ = some (.int .u8 (nb bs j))) := fun W hW j hj => (hW.cell (p := ⟨b, off + j, none⟩) hbw).trans (hcs j hj)
  have n60 : (60 : Int) ≤ (n : Int) := by omega
  have n47 : (n : Int) ≤ 140737488355328 := by omega
  have HN := hide hn
  have HBW := hide hbw
  have F0 := hide ((FrAt.new w zFr 25).al (.cells zFr.cells 25))
  have G0 := hide (FrAt.new (w.alloc (.cells zFr.cells 25)) zFr 25)
  have B0 := hide (later (later_alloc w (.cells zFr.cells 25)) (later_alloc _ (.cells zFr.cells 25)))
  rw [World.size_alloc] at G0
  have zz : (⟨dk bs 0 0, dk bs 6 0, false, 0, 0, 0⟩ : Fr) = zFr := rfl
  rw [← zz] at G0
  have hz : zFr.cells = #[.int .u8 0, .int .u8 0, .int .u8 0, .int .u8 0, .int .u8 0, .int .u8 0, .int .u8 0, .int .u8 0, .int .u8 0, .int .u8 0, .int .u8 0, .int .u8 0, .bool false, .int .i64 0, .int .i64 0, .int .i64 0] := rfl
  rw [hz] at F0 B0
  rw [show (Fr.cells ⟨dk bs 0 0, dk bs 6 0, false, 0, 0, 0⟩) = zFr.cells from rfl, hz] at G0
  clear h hB hn h60 hl hcs zz hz hbw
  obtain ⟨x12, h12⟩ : ∃ x, nb bs 12 = x := ⟨_, rfl⟩
  obtain ⟨x13, h13⟩ : ∃ x, nb bs 13 = x := ⟨_, rfl⟩
  obtain ⟨x14, h14⟩ : ∃ x, nb bs 14 = x := ⟨_, rfl⟩
  obtain ⟨x15, h15⟩ : ∃ x, nb bs 15 = x := ⟨_, rfl⟩
  have H12 := hide h12
  have H13 := hide h13
  have H14 := hide h14
  have H15 := hide h15
  clear h12 h13 h14 h15
  go_enter Try.func12, Try.ntmps12
  go_wp2
  obtain ⟨W1, e1⟩ : ∃ W1, (w.alloc (.cells #[.int .u8 0, .int .u8 0, .int .u8 0, .int .u8 0, .int .u8 0, .int .u8 0, .int .u8 0, .int .u8 0, .int .u8 0, .int .u8 0, .int .u8 0, .int .u8 0, .bool false, .int .i64 0, .int .i64 0, .int .i64 0] 25)).alloc (.cells #[.int .u8 0, .int .u8 0, .int .u8 0, .int .u8 0, .int .u8 0, .int .u8 0, .int .u8 0, .int .u8 0, .int .u8 0, .int .u8 0, .int .u8 0, .int .u8 0, .bool false, .int .i64 0, .int .i64 0, .int .i64 0] 25) = W1 := ⟨_, rfl⟩
  rw [e1] at F0 G0 B0 ⊢
  clear e1
  obtain ⟨r, hr⟩ : ∃ r, w.heap.size = r := ⟨_, rfl⟩
  obtain ⟨s, hs⟩ : ∃ s, r + 1 = s := ⟨_, rfl⟩
  rw [hr, hs] at G0 ⊢
  rw [hr] at F0 HBW
  have HRS : Hid (w.heap.size = r ∧ r + 1 = s) := ⟨hr, hs⟩
  clear hr hs
  go_loopw [6] (fun v6 wr => ∃ k : Nat, v6 = .int .i64 (k : Int) ∧ k ≤ 6 ∧ Hid (FrAt wr s ⟨dk bs 0 k, dk bs 6 k, false, 0, 0, 0⟩) ∧ Hid (FrAt wr r zFr) ∧ Hid (Below w.heap.size w wr)) (fun v6 _ => 6 - (intOf v6).toNat)
  case atStart => exact ⟨0, rfl, Nat.zero_le _, G0.out, F0.out, B0.out⟩
  case round =>
    obtain ⟨k, rfl, hk, G1, F1, B1⟩ := hrel
    by_cases hlt : k < 6
    · have k1 : (k : Int) < 6 := by omega
      have kn : (k : Int) < (n : Int) := by omega
      have kn2 : 6 + (k : Int) < (n : Int) := by omega
      have a1 := HC.out wr B1.out k (by omega)
      have q1 : But (Only s) wr (wr.setCell ⟨s, k, none⟩ (.int .u8 (nb bs k))) := (But.refl _ _).cellb _ _
      have G2 := G1.out.set_dst k hlt (nb bs (0 + k))
      rw [Nat.zero_add] at G2
      have B2 : Below w.heap.size w (wr.setCell ⟨s, k, none⟩ (.int .u8 (nb bs k))) := B1.out.trans (q1.below B1.out.size (fun g hg e => by have e : g = s := e; have := HRS.out; omega))
      have a2 := HC.out _ B2 (6 + k) (by omega)
      have q2 := q1.cellb (6 + k) (.int .u8 (nb bs (6 + k)))
      have G3 := hide (G2.set_src k hlt (nb bs (6 + k)))
      have B3 : Hid (Below w.heap.size w ((wr.setCell ⟨s, k, none⟩ (.int .u8 (nb bs k))).setCell ⟨s, 6 + k, none⟩ (.int .u8 (nb bs (6 + k))))) := B1.out.trans (q2.below B1.out.size (fun g hg e => by have e : g = s := e; have := HRS.out; omega))
      have F3 := hide (F1.out.but q2 (fun e => by have e : r = s := e; have := HRS.out; omega))
      have c1 := G1.out.dst k hlt
      have f1 := G1.out.fz k
      have c2 := G2.src k hlt
      have f2 := G2.fz (6 + k)
      simp only at c1 c2
      have EK := hide (And.intro (dk_succ bs 0 k hlt) (dk_succ bs 6 k hlt))
      rw [Nat.zero_add] at EK
      generalize nb bs k = x0 at *
      generalize nb bs (6 + k) = x6 at *
      generalize (dk bs 0 k).at k = z0 at *
      generalize (dk bs 6 k).at k = z6 at *
      clear q1 q2 G2 B2 hk G1 F1 B1
      go_wp2
      go_roundw
      case rel => exact ⟨k + 1, by go_num, by omega, by rw [← EK.out.1, ← EK.out.2]; exact G3.out, F3.out, B3.out⟩
      case measure => simp [intOf]; omega
    · obtain rfl : k = 6 := by omega
      rw [dk_six, dk_six] at G1
      rw [show ((6 : Nat) : Int) = 6 from rfl]
      have S1 : Hid (RSt w s r ⟨macAt bs 0, macAt bs 6, false, 0, 0, 0⟩ wr) := ⟨G1.out, F1.out, B1.out⟩
      clear G1 F1 B1 G0 F0 B0 hk hlt
      obtain ⟨m0, hm0⟩ : ∃ m, macAt bs 0 = m := ⟨_, rfl⟩
      obtain ⟨m6, hm6⟩ : ∃ m, macAt bs 6 = m := ⟨_, rfl⟩
      rw [hm0, hm6] at S1
      obtain ⟨T, hT⟩ : ∃ T, rT bs = T := ⟨_, rfl⟩
      have ET : Hid (T = (decide (x12 = 129) && decide (x13 = 0))) := by show _ = _; rw [← hT, rT, H12.out, H13.out]
      have HT := hide hT
      have HM := hide (And.intro hm0 hm6)
      clear hT hm0 hm6
      have b12 := HC.out wr S1.out.b 12 (by omega)
      have b13 := HC.out wr S1.out.b 13 (by omega)
      rw [H12.out] at b12
      rw [H13.out] at b13
      have c12 := S1.out.g.c12
      have f12 := S1.out.g.fz 12
      simp only at c12
      have n12 : (12 : Int) < (n : Int) := by omega
      have n13 : (13 : Int) < (n : Int) := by omega
      have n14 : (14 : Int) < (n : Int) := by omega
      have n15 : (15 : Int) < (n : Int) := by omega
      go_upto_region 10 with fail
      go_cut [41] (fun _ wc => Hid (RSt w s r ⟨m0, m6, T, 0, 0, 0⟩ wc))
      case first =>
        have key : ∀ t : Bool, T = t → RSt w s r ⟨m0, m6, T, 0, 0, 0⟩ (wr.setCell ⟨s, 12, none⟩ (.bool t)) := fun t ht => by
          rw [ht]
          exact S1.out.turn HRS.out ((But.refl _ _).cellb _ _) (S1.out.g.set_tag t)
        have KEY := hide key
        clear key
        by_cases e12 : x12 = 129
        · have q12 : (x12 == 129) = true := by rw [beq_dec]; exact decide_eq_true e12
          by_cases e13 : x13 = 0
          · have q13 : (x13 == 0) = true := by rw [beq_dec]; exact decide_eq_true e13
            go_wp2
            go_meet
            case rel => exact KEY.out true (by rw [ET.out, decide_eq_true e12, decide_eq_true e13]; rfl)
          · have q13 : (x13 == 0) = false := by rw [beq_dec]; exact decide_eq_false e13
            go_wp2
            go_meet
            case rel => exact KEY.out false (by rw [ET.out, decide_eq_false e13, Bool.and_false])
        · have q12 : (x12 == 129) = false := by rw [beq_dec]; exact decide_eq_false e12
          go_wp2
          go_meet
          case rel => exact KEY.out false (by rw [ET.out, decide_eq_false e12, Bool.false_and])
      case rest =>
        have S2 : Hid (RSt w s r ⟨m0, m6, T, 0, 0, 0⟩ wc) := hcut
        obtain ⟨w2, hw2⟩ : ∃ w2, w2 = wc := ⟨_, rfl⟩
        rw [← hw2] at S2 ⊢
        clear hcut hw2 b12 b13 c12 f12 S1
        obtain ⟨Lg, hLg⟩ : ∃ L, rLong bs = L := ⟨_, rfl⟩
        have EL : Hid (Lg = (decide (274 < n) || (decide (270 < n) && !T))) := by show _ = _; rw [← hLg, rLong, HT.out, ← HN.out]
        rw [hLg] at E
        clear hLg
        have c12 := S2.out.g.c12
        simp only at c12
        go_upto_region 11 with fail
        go_cut [55] (fun c wc => c = .bool Lg ∧ w2 = wc)
        case first =>
          by_cases h1 : 274 < n
          · have h2 : (274 : Int) < (n : Int) := by omega
            go_wp2
            go_meet
            case rel => exact ⟨by rw [EL.out, decide_eq_true h1]; rfl, rfl⟩
          · have h2 : (n : Int) ≤ 274 := by omega
            by_cases h3 : 270 < n
            · have h4 : (270 : Int) < (n : Int) := by omega
              cases T
              · go_wp2
                go_meet
                case rel => exact ⟨by rw [EL.out, decide_eq_false h1, decide_eq_true h3]; rfl, rfl⟩
              · go_wp2
                go_meet
                case rel => exact ⟨by rw [EL.out, decide_eq_false h1, decide_eq_true h3, show decide ((274 : Int) < (n : Int)) = false from decide_eq_false (by omega)]; rfl, rfl⟩
            · have h4 : (n : Int) ≤ 270 := by omega
              go_wp2
              go_meet
              case rel => exact ⟨by rw [EL.out, decide_eq_false h1, decide_eq_false h3, show decide ((274 : Int) < (n : Int)) = false from decide_eq_false (by omega)]; rfl, rfl⟩
        case rest =>
          obtain ⟨rfl, hw2⟩ := hcut
          subst hw2
          cases Lg
          · replace E : Hid (deE bs = if rBad bs = true then 4 else 0) := E.out
            obtain ⟨q, hq⟩ : ∃ q, rAt bs = q := ⟨_, rfl⟩
            obtain ⟨V, hV⟩ : ∃ V, (if T = true then x14 % 16 * 256 + x15 else 0) = V := ⟨_, rfl⟩
            obtain ⟨P, hP⟩ : ∃ P, (if T = true then x14 / 32 else 0) = P := ⟨_, rfl⟩
            have HQ : Hid (q = if T = true then 16 else 12) := by show _ = _; rw [← hq, rAt, HT.out]
            have HVP := hide (And.intro hV hP)
            have EQ := hide hq
            clear hq hV hP
            have X14 := BY.out 14
            have X15 := BY.out 15
            rw [H14.out] at X14
            rw [H15.out] at X15
            obtain ⟨p1, p2⟩ := X14
            obtain ⟨p3, p4⟩ := X15
            have b14 := HC.out w2 S2.out.b 14 (by omega)
            rw [H14.out] at b14
            have c14 := S2.out.g.c14
            have f14 := S2.out.g.fz 14
            simp only at c14
            go_upto_if 58 with fail
            go_cut [7] (fun v7 wc => v7 = .int .i64 (q : Int) ∧ Hid (RSt w s r ⟨m0, m6, T, V, P, 0⟩ wc))
            case first =>
              cases T
              · obtain rfl : q = 12 := HQ.out
                obtain ⟨rfl, rfl⟩ := HVP.out
                go_wp2
                go_meet
                case rel => exact ⟨rfl, S2.out⟩
              · obtain rfl : q = 16 := HQ.out
                obtain ⟨hV, hP⟩ := HVP.out
                have S3 := S2.out.turn HRS.out ((But.refl _ _).cellb 14 _) (S2.out.g.set_prio (x14 / 32))
                have g14 := HC.out _ S3.b 14 (by omega)
                have g15 := HC.out _ S3.b 15 (by omega)
                rw [H14.out] at g14
                rw [H15.out] at g15
                have c13 := S3.g.c13
                have f13 := S3.g.fz 13
                simp only at c13
                have HS3 := hide S3
                have SV := hide (HS3.out.turn HRS.out ((But.refl _ _).cellb 13 _) (HS3.out.g.set_vlan (x14 % 16 * 256 + x15)))
                have HVP2 : Hid (x14 % 16 * 256 + x15 = V ∧ x14 / 32 = P) := ⟨hV, hP⟩
                clear S3 hV hP HVP
                go_upto_region 15 with fail
                generalize w2.setCell ⟨s, 14, none⟩ (.int .i64 (x14 / 32)) = W3 at *
                go_region
                all_goals go_wp2
                all_goals go_meet
                all_goals exact ⟨rfl, by rw [← HVP2.out.1, ← HVP2.out.2]; exact SV.out.drew⟩
            case rest =>
              obtain ⟨rfl, S3⟩ := hcut
              obtain ⟨w4, hw4⟩ : ∃ w4, w4 = wc := ⟨_, rfl⟩
              rw [← hw4] at S3 ⊢
              clear hw4 S2 b14 c14 f14 c12
              have q1 : 12 ≤ q ∧ q ≤ 16 := by rw [HQ.out]; split <;> omega
              obtain ⟨q1, q2⟩ := q1
              have nq1 : (q : Int) < (n : Int) := by omega
              have nq2 : (q : Int) + 1 < (n : Int) := by omega
              have wq1 : IntKind.i64.wrap ((q : Int) + 1) = (q : Int) + 1 := by rw [IntKind.wrap_i64]; omega
              have y1 := HC.out w4 S3.out.b q (by omega)
              have y2 := HC.out w4 S3.out.b (q + 1) (by omega)
              obtain ⟨xq, hxq⟩ : ∃ x, nb bs q = x := ⟨_, rfl⟩
              obtain ⟨xr, hxr⟩ : ∃ x, nb bs (q + 1) = x := ⟨_, rfl⟩
              have X1 := BY.out q
              have X2 := BY.out (q + 1)
              rw [hxq] at y1 X1
              rw [hxr] at y2 X2
              obtain ⟨x1, x2⟩ := X1
              obtain ⟨x3, x4⟩ := X2
              have HXQ := hide (And.intro hxq hxr)
              have c15 := S3.out.g.c15
              have f15 := S3.out.g.fz 15
              simp only at c15
              have S4 := hide (S3.out.turn HRS.out ((But.refl _ _).cellb 15 _) (S3.out.g.set_ty (256 * xq + xr))).drew
              clear hxq hxr
              go_upto_region 17 with fail
              go_cut [89] (fun _ wc => Hid (RSt w s r ⟨m0, m6, T, V, P, 256 * xq + xr⟩ wc))
              case first =>
                go_region
                all_goals go_wp2
                all_goals go_meet
                all_goals exact S4.out
              case rest =>
                have S5 : Hid (RSt w s r ⟨m0, m6, T, V, P, 256 * xq + xr⟩ wc) := hcut
                obtain ⟨w5, hw5⟩ : ∃ w5, w5 = wc := ⟨_, rfl⟩
                rw [← hw5] at S5 ⊢
                clear hw5 hcut S3 S4 c15 f15 y1 y2
                obtain ⟨y, hy⟩ : ∃ y, 256 * xq + xr = y := ⟨_, rfl⟩
                rw [hy] at S5
                have HY := hide hy
                clear hy
                obtain ⟨Bd, hBd⟩ : ∃ B, rBad bs = B := ⟨_, rfl⟩
                have RFE : Hid (rF bs = ⟨m0, m6, T, V, P, y⟩) := by
                  show _ = _
                  rw [rF, HM.out.1, HM.out.2, HT.out, H14.out, H15.out, HVP.out.1, HVP.out.2, EQ.out, HXQ.out.1, HXQ.out.2, HY.out]
                have EB : Hid (Bd = (decide (y < 1536) || (T && (decide (x14 / 16 % 2 = 1) || decide (y = 33024))))) := by show _ = _; rw [← hBd, rBad, RFE.out, HT.out, H14.out]
                rw [hBd] at E
                clear hBd
                have c15 := S5.out.g.c15
                have c12 := S5.out.g.c12
                have b14 := HC.out w5 S5.out.b 14 (by omega)
                rw [H14.out] at b14
                simp only at c15 c12
                go_upto_region 18 with fail
                go_cut [111] (fun c wc => c = .bool Bd ∧ w5 = wc)
                case first =>
                  by_cases h1 : y < 1536
                  · go_wp2
                    go_meet
                    case rel => exact ⟨by rw [EB.out, decide_eq_true h1]; rfl, rfl⟩
                  · cases T
                    · go_wp2
                      go_meet
                      case rel => exact ⟨by rw [EB.out, decide_eq_false (show ¬ y < 1536 by omega)]; simp, rfl⟩
                    · by_cases h2 : x14 / 16 % 2 = 1
                      · have h3 : (x14 / 16 % 2 == 1) = true := by rw [beq_dec]; exact decide_eq_true h2
                        go_wp2
                        go_meet
                        case rel => exact ⟨by rw [EB.out, decide_eq_false (show ¬ y < 1536 by omega), decide_eq_true h2]; rfl, rfl⟩
                      · have h3 : (x14 / 16 % 2 == 1) = false := by rw [beq_dec]; exact decide_eq_false h2
                        by_cases h4 : y = 33024
                        · have h5 : (y == 33024) = true := by rw [beq_dec]; exact decide_eq_true h4
                          go_wp2
                          go_meet
                          case rel => exact ⟨by rw [EB.out, decide_eq_false (show ¬ y < 1536 by omega), decide_eq_true h4]; simp, rfl⟩
                        · have h5 : (y == 33024) = false := by rw [beq_dec]; exact decide_eq_false h4
                          go_wp2
                          go_meet
                          case rel => exact ⟨by rw [EB.out, decide_eq_false (show ¬ y < 1536 by omega), decide_eq_false h4, decide_eq_false h2]; rfl, rfl⟩
                case rest =>
                  obtain ⟨rfl, hw5⟩ := hcut
                  subst hw5
                  cases Bd
                  · replace E : Hid (deE bs = 0) := E.out
                    have F : Hid (deF bs = ⟨m0, m6, T, V, P, y⟩ ∧ deB bs = bs.drop (q + 2)) := by
                      have e : hsz (hdF bs).tag = q + 2 := by
                        rw [RF.out, RFE.out, HQ.out]
                        unfold hsz
                        cases T <;> rfl
                      exact ⟨by rw [deF, if_pos E.out, RF.out, RFE.out], by rw [deB, if_pos E.out, e]⟩
                    have nq3 : (q : Int) + 2 ≤ (n : Int) := by omega
                    have wq2 : IntKind.i64.wrap ((q : Int) + 2) = (q : Int) + 2 := by rw [IntKind.wrap_i64]; omega
                    have cq : ¬ cap = q + 2 := by omega
                    have zq : (0 : Int) ≤ (q : Int) + 2 := by omega
                    have tq : ((q : Int) + 2).toNat = q + 2 := by omega
                    have D5 := (H.out.later (later S5.out.b (later_drew _))).drop (q + 2) (by have := HN.out; omega)
                    rw [if_neg cq, Option.map_some, Addr.add_lit] at D5
                    have HD := hide D5
                    clear D5
                    go_upto_region 20 with fail
                    refine wp_region_any (by kernel_rfl) ?_
                    change wpAny _ _ _ _ _ _ _ (World.drew _)
                    refine wpAny_take (i := 1) (v := ?v1) rfl (by kernel_rfl) (by kernel_rfl) (by kernel_rfl) (fun _ _ _ h => h) (Or.inl ⟨by rfl, ?h1⟩) ?_
                    case h1 => intro w; go_simp; with_reducible rfl
                    refine wpAny_take (i := 2) (v := ?v2) rfl (by kernel_rfl) (by kernel_rfl) (by kernel_rfl) (fun _ _ _ h => h) (Or.inl ⟨by rfl, ?h2⟩) ?_
                    case h2 => intro w; go_simp; with_reducible rfl
                    refine wpAny_take (i := 3) (v := ?v3) rfl (by kernel_rfl) (by kernel_rfl) (by kernel_rfl) (fun _ _ _ h => h) (Or.inl ⟨by rfl, ?h3⟩) ?_
                    case h3 => intro w; go_simp; with_reducible rfl
                    refine wpAny_take (i := 4) (v := ?v4) rfl (by kernel_rfl) (by kernel_rfl) (by kernel_rfl) (fun _ _ _ h => h) (Or.inl ⟨by rfl, ?h4⟩) ?_
                    case h4 => intro w; go_simp; with_reducible rfl
                    simp only [Act.put, List.getElem_toArray, List.getElem_cons_succ, List.getElem_cons_zero, List.setIfInBounds_toArray, List.set_cons_succ, List.set_cons_zero]
                    refine wpAny_ready (rs := [0]) (by kernel_rfl) (by simp) ?_
                    refine AllReady.cons (o := { dst := some 113, op := Op.load 25 (Operand.tmp 5), type := 25, pos := "ref.go:59", after := #[], guard := none }) rfl (fun K hK => ?_) AllReady.nil
                    refine step_load_fr rfl _ rfl s rfl ⟨m0, m6, T, V, P, y⟩ (S5.out.g.later (later_drew _)) (hK _ _ ?_)
                    clear hK K
                    simp only [Act.put, List.setIfInBounds_toArray, List.set_cons_succ, List.set_cons_zero]
                    refine wpAny_ready (rs := [5]) (by kernel_rfl) (by simp) ?_
                    refine AllReady.cons (o := { dst := none, op := Op.store 25 (Operand.tmp 2) (Operand.tmp 113), type := 0, pos := "ref.go:59", after := #[{ on := 0, ground := Ground.data }, { on := 0, ground := Ground.phase }, { on := 1, ground := Ground.textOnly Departure.lateStores }, { on := 2, ground := Ground.textOnly Departure.lateStores }, { on := 3, ground := Ground.textOnly Departure.lateStores }, { on := 4, ground := Ground.textOnly Departure.lateStoresUnsure }], guard := none }) rfl (fun K hK => ?_) AllReady.nil
                    refine step_store_fr rfl _ _ rfl r rfl ⟨m0, m6, T, V, P, y⟩ zFr rfl (S5.out.z.later (later_drew _)) ?_
                    intro W7 F7 q7
                    refine hK _ _ ?_
                    clear hK K
                    refine wpAny_ready (rs := [6]) (by kernel_rfl) (by simp) ?_
                    refine AllReady.cons rfl (fun K hK => ?_) AllReady.nil
                    go_simp
                    refine hK _ _ ?_
                    clear hK K
                    refine wpAny_ready (rs := [7]) (by kernel_rfl) (by simp) ?_
                    refine AllReady.cons rfl (fun K hK => ?_) AllReady.nil
                    go_simp
                    refine hK _ _ ?_
                    clear hK K
                    refine wpAny_done (by kernel_rfl) ?_ _
                    go_wp2
                    refine bodyPost_ret (v := .tuple #[Fr.val ⟨m0, m6, T, V, P, y⟩, .slice (some ⟨b, off + (q + 2), none⟩) (n - (q + 2)) (cap - (q + 2)), .int .i64 0]) (by rw [results_cell_tmp2 rfl]; simp [asAddr, F7.load]) rfl ?_
                    have e9 : n - (q + 2) = (bs.drop (q + 2)).length := by rw [List.length_drop, ← HN.out]
                    refine ⟨some ⟨b, off + (q + 2), none⟩, cap - (q + 2), ?_, ?_, ?_⟩
                    · rw [F.out.1, F.out.2, E.out, ← e9]
                    · rw [F.out.2, ← e9]
                      obtain ⟨a', c', e, k1, k2, k3⟩ := HD.out
                      refine ⟨a', c', e, k1, k2, fun h0 => ?_⟩
                      obtain ⟨b', o', rfl, h5, h6, h7⟩ := k3 h0
                      simp only [Value.slice.injEq, Option.some.injEq, Addr.mk.injEq] at e
                      have hb' : b' < r := by have := HBW.out; omega
                      refine ⟨b', o', rfl, Nat.lt_of_lt_of_le h5 q7.size, h6, fun j hj => (q7.cell (p := ⟨b', o' + j, none⟩) h5 (fun e => by have e : b' = r := e; omega)).trans (h7 j hj)⟩
                    · exact (later S5.out.b (later_drew _)).trans (q7.below S5.out.b.size (fun g hg e => by have e : g = r := e; have := HRS.out; omega))
                  · go_wp2_with (refine wpList_store_fr rfl _ _ rfl r rfl zFr zFr rfl S5.out.z ?_)
                    intro W4 F4 q4
                    go_wp2
                    refine bodyPost_ret (v := .tuple #[zFr.val, .slice none 0 0, .int .i64 4]) (by rw [results_cell_tmp2 rfl]; simp [asAddr, F4.load]) rfl ?_
                    exact RdEnd.no 4 (by decide) (by rw [E.out]; rfl) (S5.out.b.trans (q4.below S5.out.b.size (fun g hg e => by have e : g = r := e; have := HRS.out; omega)))
          · go_wp2_with (refine wpList_store_fr rfl _ _ rfl r rfl zFr zFr rfl S2.out.z ?_)
            intro W4 F4 q4
            go_wp2
            refine bodyPost_ret (v := .tuple #[zFr.val, .slice none 0 0, .int .i64 2]) (by rw [results_cell_tmp2 rfl]; simp [asAddr, F4.load]) rfl ?_
            exact RdEnd.no 2 (by decide) (by rw [E.out]; rfl) (S2.out.b.trans (q4.below S2.out.b.size (fun g hg e => by have e : g = r := e; have := HRS.out; omega)))

theorem rDecode_any {w : World} {v : Value} {A : Nat → Prop} {bs : List Int} (h : IsF A w v bs) (hB : Bytes bs) (hl : (bs.length : Int) ≤ 140737488355328) : Calls Try.prog 12 #[v] w (RdEnd A w bs) := by
  by_cases h60 : bs.length < 60
  · exact rDecode_short h h60
  · exact rDecode_long h hB hl (by omega)

end Go.Proofs.Ytipebfaappangaa
