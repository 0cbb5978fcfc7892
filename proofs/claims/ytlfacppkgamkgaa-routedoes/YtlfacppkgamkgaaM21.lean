
/-
  RouteWhere: the walk.
-/
import Derived.Test.YtlfacppkgamkgaaM20
namespace Go.Proofs.Ytlfacppkgamkgaa
open Go.RowKit Go.Shelf

/-- THE SLICE VALUE v HOLDS THE WAYS l, all of it below n₀ -/
def IsW (n₀ : Nat) (W : World) (v : Value) (l : List Wy) : Prop :=
  ∃ a cap, v = .slice a l.length cap ∧ (0 < l.length → ∃ g off, a = some ⟨g, off, none⟩ ∧ g < n₀ ∧ ∀ i o, l[i]? = some o → CellsAt W g (off + i * 10) o.cells) ∧ ∀ o ∈ l, o.Ok
theorem IsW.below {n₀ : Nat} {W W' : World} {v : Value} {l : List Wy} (h : IsW n₀ W v l) (hb : Below n₀ W W') : IsW n₀ W' v l := by
  obtain ⟨a, cap, e, hc, hf⟩ := h
  refine ⟨a, cap, e, fun h0 => ?_, hf⟩
  obtain ⟨g, off, e1, hg, hcs⟩ := hc h0
  exact ⟨g, off, e1, hg, fun i o hi j v hv => (hb.cell (p := ⟨g, off + i * 10 + j, none⟩) hg).trans (hcs i o hi j v hv)⟩
section
variable {o : Oper} {w : World} {ev : Operand → Value}
theorem exec_ixW (x y : Operand) (g n c : Nat) (k : Nat) (ho : o.op = .indexAddr 27 x y) (hx : ev x = .slice (some ⟨g, 0, none⟩) n c) (hy : ev y = .int .i64 (k : Int)) (hk : k < n) : (execOp ev o).run Try.prog w = .ok (.value (.pointer (some ⟨g, k * 10, none⟩))) w := by
  have hki : (k : Int) < n := by omega
  unfold execOp
  simp [ho, hx, hy, go_sem, hki]
theorem exec_ixWo (x y : Operand) (g off n c : Nat) (k : Nat) (ho : o.op = .indexAddr 27 x y) (hx : ev x = .slice (some ⟨g, off, none⟩) n c) (hy : ev y = .int .i64 (k : Int)) (hk : k < n) : (execOp ev o).run Try.prog w = .ok (.value (.pointer (some ⟨g, off + k * 10, none⟩))) w := by
  have hki : (k : Int) < n := by omega
  unfold execOp
  simp [ho, hx, hy, go_sem, hki]
theorem exec_eqe (x y : Operand) (t : TypeId) (a b : Int) (r : Bool) (ho : o.op = .binOp .eql 36 x y t) (hx : ev x = .int .i64 a) (hy : ev y = .int .i64 b) (hr : (a == b) = r) : (execOp ev o).run Try.prog w = .ok (.value (.bool r)) w := by
  subst hr
  unfold execOp
  simp [ho, hx, hy, go_sem]
end
/-- does a way tell this neighbour? -/
def cnd (E : Int) (A ip : I4) (x : Wy) : Bool := (E == 0) && ((x.via && eqI x.gate A) || (!x.via && eqI ip A))
theorem fdN_mem {ws : List Wy} {ip : I4} : ∀ {m : Nat} {x : Wy}, fdN ws ip m = some x → x ∈ ws
  | 0, x, h => by cases h
  | m + 1, x, h => by
    unfold fdN at h
    split at h
    · rename_i y hy
      cases h
      exact List.mem_of_find?_eq_some hy
    · exact fdN_mem h
theorem found_all {ws : List Wy} {ip : I4} (h : fdE ws ip = 0) : ws.any (cnd 0 (fdA ws ip) ip) = true := by
  unfold fdE at h
  cases hx : fdN ws ip 33 with
  | none => rw [hx] at h; simp at h
  | some x =>
    refine List.any_eq_true.2 ⟨x, fdN_mem hx, ?_⟩
    unfold cnd fdA
    rw [hx]
    cases hv : x.via <;> simp [hv, eqI_self]
theorem fdE_cases (ws : List Wy) (ip : I4) : fdE ws ip = 0 ∨ fdE ws ip = 100 := by
  unfold fdE; split <;> simp
theorem fdE_nil (ip : I4) : fdE [] ip = 100 := by
  have : ∀ m, fdN [] ip m = none := fun m => by
    induction m with
    | zero => rfl
    | succ m ih => unfold fdN; exact ih
  unfold fdE
  rw [if_pos (this 33)]
theorem fdA_nil (ip : I4) : fdA [] ip = zI := by
  have : ∀ m, fdN [] ip m = none := fun m => by
    induction m with
    | zero => rfl
    | succ m ih => unfold fdN; exact ih
  unfold fdA
  rw [this 33]
theorem fdA_ok {ws : List Wy} {ip : I4} (hi : ip.Ok) (h : ∀ x ∈ ws, x.Ok) : (fdA ws ip).Ok := by
  unfold fdA
  split
  · rename_i x hx
    split
    · exact (h x (fdN_mem hx)).gate
    · exact hi
  · exact lit_ok rfl
theorem dr_head (x : Wy) (ws : List Wy) : drE (x :: ws) x.net x.bits = 0 ∧ drL (x :: ws) x.net x.bits = ws := by
  have e : ix x.net x.bits (x :: ws) = some 0 := by unfold ix; rw [if_pos ⟨rfl, rfl⟩]
  constructor
  · unfold drE; rw [e]; simp
  · unfold drL; rw [e]; rfl
theorem Rt.facts {W : World} {rt b : Nat} {ws : List Wy} {N : Int} (h : Rt W rt b ws N) : ws.length ≤ 8 ∧ ∀ x ∈ ws, x.Ok := by
  obtain ⟨L, ck, bh, k1, k2, k3, k4, k5⟩ := h
  subst k3
  refine ⟨by rw [List.length_map]; exact k2.len, fun x hx => ?_⟩
  obtain ⟨r, hr, rfl⟩ := List.mem_map.1 hx
  exact k2.ok r hr
set_option maxRecDepth 100000 in
set_option maxHeartbeats 8000000 in
theorem Where_walk (lv : Value) (l : List Wy) (ip : I4) (w : World) (hl : IsW w.heap.size w lv l) (ll : l.length ≤ 5864062014634) (hip : ip.Ok) :
    Calls Try.prog 5 #[lv, ip.val] w fun e w' => e = .returned (.bool true) ∧ Below w.heap.size w w' := by
  obtain ⟨la, lc, rfl, hlc, hlo⟩ := hl
  obtain ⟨n, hn⟩ : ∃ n, n = l.length := ⟨_, rfl⟩
  rw [← hn] at hlc ll ⊢
  obtain ⟨s, hs⟩ : ∃ s, s = w.heap.size := ⟨_, rfl⟩
  obtain ⟨V, hV⟩ : ∃ V, V = ip.vals := ⟨_, rfl⟩
  obtain ⟨w1, hw1⟩ : ∃ w1, w1 = w.alloc (.cells V.toArray 31) := ⟨_, rfl⟩
  have b1 : Below w.heap.size w w1 := by rw [hw1]; exact (Below.refl _ w).alloc (Nat.le_refl _) _
  have c1 : CellsAt w1 s 0 V := by rw [hw1, hs]; exact CellsAt.new w V 31
  have LV : Hid (V.length = 4) := by rw [hV]; exact (rfl : ip.vals.length = 4)
  have EV : Hid (ip.val = .agg V.toArray) := by rw [hV]; exact rfl
  have l1 : s < w1.heap.size := c1.lt (by rw [LV.out]; decide)
  rw [EV.out]
  have HB1 := hide b1
  have C1 := hide c1
  have HV := hide hV
  have HIP := hide hip
  have HLC := hide hlc
  have HLO := hide hlo
  have HN := hide hn
  have HS := hide hs
  have lz : (n : Int) ≤ 5864062014634 := by omega
  have hw1' := hw1.symm
  have hs' := hs.symm
  clear b1 c1 hV hip hlc hlo hn hw1 hs
  go_enter Try.func5, Try.ntmps5
  go_wp2_with fail
  clear hw1' hs'
  refine (awake_any w1).mono ?_
  rintro _ w2 ⟨rfl, b2⟩
  have HB2 : Hid (Below w.heap.size w w2) := later HB1.out b2
  have C2 := hide (C1.out.later l1 b2)
  have l2 : s < w2.heap.size := Nat.lt_of_lt_of_le l1 b2.size
  have NW := hide (New_any w2)
  obtain ⟨rb, hrb⟩ : ∃ rb, rb = w2.heap.size := ⟨_, rfl⟩
  rw [← hrb] at NW
  have HRB := hide hrb
  clear b2 C1 HB1 l1 hrb
  go_wp2_with fail
  refine NW.out.mono ?_
  rintro _ w3 ⟨rfl, r3, b3⟩
  have HB3 : Hid (Below w.heap.size w w3) := HB2.out.trans (b3.mono (by have := HB2.out.size; have := HRB.out; omega))
  have R3 := hide r3
  have C3 := hide (C2.out.but (K := fun _ => False) l2 ⟨b3.os, b3.tape, b3.output, b3.size, fun k hk _ => b3.block k (by have := HRB.out; omega)⟩ id)
  have l3 : s < w3.heap.size := Nat.lt_of_lt_of_le l2 b3.size
  have sb : s < rb := by have := HRB.out; omega
  clear b3 r3 NW C2 HB2 l2
  go_wp2
  go_loopw [7] (fun vi wr => ∃ (i : Nat) (ws : List Wy), vi = .int .i64 (i : Int) ∧ i ≤ n ∧ Hid (Rt wr (rb + 1) rb ws (i : Int)) ∧ Hid (But (Two (rb + 1) rb) w3 wr)) (fun vi _ => n - (intOf vi).toNat)
  case atStart => exact ⟨0, [], rfl, Nat.zero_le _, R3.out, But.refl _ _⟩
  case round =>
    obtain ⟨i, ws, rfl, hi, RI, BI⟩ := hrel
    have HBI : Hid (Below w.heap.size w wr) := HB3.out.trans (BI.out.below HB3.out.size (fun g hg e => by have := HS.out; rcases e with e | e <;> omega))
    by_cases hlt : i < n
    · obtain ⟨lg, off, rfl, hg, hcs⟩ := HLC.out (by omega)
      obtain ⟨x, hx⟩ : ∃ x, l[i]? = some x := ⟨_, List.getElem?_eq_getElem (by rw [← HN.out]; exact hlt)⟩
      have cx := (hcs i x hx).later hg HBI.out
      have xo := HLO.out x (List.mem_of_getElem? hx)
      have AD := hide (Add_any x xo RI.out (by omega))
      obtain ⟨X, hX⟩ : ∃ X, X = x.cells := ⟨_, rfl⟩
      have EX : Hid (x.val = .agg X.toArray) := by rw [hX]; exact rfl
      have LX : Hid (X.length = 10) := by rw [hX]; exact (rfl : x.cells.length = 10)
      rw [EX.out] at AD
      have CX : Hid (CellsAt wr lg (off + i * 10) X) := by rw [hX]; exact cx
      have iz : (i : Int) < (n : Int) := by omega
      clear hcs cx hX
      go_wp2_with (refine wpList_loadA rfl 33 10 aggW sizW _ rfl lg (off + i * 10) rfl X LX.out CX.out ?_)
      refine AD.out.mono ?_
      rintro _ w4 ⟨rfl, r4, b4⟩
      have R4 := hide r4
      have B4 := hide (BI.out.trans b4)
      clear r4 b4 AD CX
      go_wp2
      go_roundw
      case rel => exact ⟨i + 1, _, by go_num, by omega, (by unfold Hid; rw [show ((i + 1 : Nat) : Int) = (i : Int) + 1 by omega]; exact R4.out), B4.out⟩
      case measure => simp [intOf]; omega
    · obtain ⟨wp, rfl⟩ : ∃ wp, wp = wr := ⟨_, rfl⟩
      have ein : n = i := by omega
      subst ein
      have CP := hide (C3.out.but l3 BI.out (fun e => by rcases e with e | e <;> omega))
      have lp : s < wp.heap.size := Nat.lt_of_lt_of_le l3 BI.out.size
      have FD := Find_any ip HIP.out RI.out
      rw [EV.out] at FD
      obtain ⟨fok1, fok2⟩ := RI.out.facts
      obtain ⟨A, hA⟩ : ∃ A, A = fdA ws ip := ⟨_, rfl⟩
      obtain ⟨E, hE⟩ : ∃ E, E = fdE ws ip := ⟨_, rfl⟩
      rw [← hA, ← hE] at FD
      have HFD := hide FD
      have HA := hide hA
      have HE := hide hE
      obtain ⟨AV, hAV⟩ : ∃ AV, AV = A.vals := ⟨_, rfl⟩
      have LA : Hid (AV.length = 4) := by rw [hAV]; exact (rfl : A.vals.length = 4)
      have OA : Hid (∀ u ∈ AV, u.oneCell' = true) := by rw [hAV]; exact ip_one A
      have HAV := hide hAV
      have EA : Hid (A.val = .agg AV.toArray) := by rw [hAV]; exact rfl
      rw [EA.out] at HFD
      clear FD hA hE hAV hi hlt
      go_wp2_with (refine wpList_loadA rfl 31 4 aggI sizI _ rfl s 0 rfl V LV.out CP.out ?_)
      refine HFD.out.mono ?_
      rintro _ w4 ⟨rfl, b4⟩
      obtain ⟨u5, w5, hu5, hw5, cu5, fu5, c5, b5, l5⟩ := newV w4 31 zI.vals AV (by rw [LA.out]; rfl)
      obtain ⟨sg, hsg⟩ : ∃ sg, sg = w4.heap.size := ⟨_, rfl⟩
      rw [← hsg] at hw5 cu5 fu5 c5 l5
      have b45 := later b4 b5
      have CU := hide cu5
      have FU := hide fu5
      have C5 := hide c5
      have C5s := hide (CP.out.later lp b45)
      have l5s : s < w5.heap.size := Nat.lt_of_lt_of_le lp b45.size
      have R5 := hide (RI.out.later b45)
      have HB5 : Hid (Below w.heap.size w w5) := later HBI.out b45
      have SG : Hid (rb + 1 < sg) := by have h1 := RI.out.lt.1; have h2 := b4.size; unfold Hid; omega
      have AL := hide (All_any R5.out)
      have hu5' := hu5.symm
      simp only [zI, I4.vals] at hu5'
      have hw5' := hw5.symm
      have hsg' := hsg.symm
      clear hu5 hw5 hsg cu5 fu5 c5 b4 b5 b45 HFD CP lp BI HBI RI
      go_upto_region 10 with (refine wpList_storeA rfl 31 4 sizI _ _ rfl sg 0 rfl AV zI.vals rfl LA.out rfl CU.out FU.out OA.out ?_; intro _; rw [hw5'])
      clear hu5' hw5' hsg' CU FU
      go_wp2_with fail
      refine AL.out.mono ?_
      rintro _ w6 ⟨v, rfl, rv, b6⟩
      obtain ⟨va, vc, rfl⟩ := rv.shape
      obtain ⟨m, hm⟩ : ∃ m, m = ws.length := ⟨_, rfl⟩
      rw [← hm] at rv ⊢
      obtain ⟨ga, hga⟩ : ∃ ga, 0 < m → va = some ⟨ga, 0, none⟩ ∧ w5.heap.size ≤ ga ∧ ga < w6.heap.size ∧ ∀ q, q < m → CellsAt w6 ga (q * 10) (wyc ws q) := by
        by_cases e : 0 < m
        · obtain ⟨g, h1, h2, h3, h4, h5⟩ := rv.at e
          exact ⟨g, fun _ => ⟨h1, h3, h2, h5⟩⟩
        · exact ⟨0, fun e' => absurd e' e⟩
      have GA := hide hga
      have C6 := hide (C5.out.later l5 b6)
      have C6s := hide (C5s.out.later l5s b6)
      have l6 : sg < w6.heap.size := Nat.lt_of_lt_of_le l5 b6.size
      have l6s : s < w6.heap.size := Nat.lt_of_lt_of_le l5s b6.size
      have R6 := hide (R5.out.later b6)
      have HB6 : Hid (Below w.heap.size w w6) := later HB5.out b6
      have N6 : Hid (sg < w5.heap.size) := l5
      have N7 : Hid (rb + 1 < w5.heap.size) := R5.out.lt.1
      have m8 : (m : Int) ≤ 8 := by omega
      have HM := hide hm
      have FOK := hide fok2
      have EC := fdE_cases ws ip
      rw [← HE.out] at EC
      have ENil : m = 0 → E = 100 := fun h0 => by
        have : ws = [] := List.eq_nil_of_length_eq_zero (by omega)
        rw [HE.out, this]; exact fdE_nil ip
      clear rv b6 AL hga C5 C5s l5 l5s R5 HB5 hm fok1 fok2
      have g11 : ¬ (8 : Int) < (m : Int) := by omega
      go_upto_region 11 with fail
      go_cut [55] (fun c wc => c = .bool false ∧ w6 = wc)
      case first =>
        rcases Nat.eq_zero_or_pos m with h0 | h0
        · have e1 := ENil h0
          subst e1 h0
          go_wp2
          go_meet
          case rel => exact ⟨rfl, rfl⟩
        · have z0 : ((m : Int) == 0) = false := by simp; omega
          go_wp2
          go_meet
          case rel => exact ⟨by rw [decide_eq_false (show ¬ (8 : Int) < (m : Int) by omega)], rfl⟩
      case rest =>
        obtain ⟨rfl, hwc⟩ := hcut
        subst hwc
        clear ENil g11
        go_wp2
        go_loopw [11, 12] (fun vf vi wr => ∃ (i : Nat) (f : Bool), vf = .bool f ∧ vi = .int .i64 (i : Int) ∧ i ≤ m ∧ Hid (f = (ws.take i).any (cnd E A ip)) ∧ Hid (Rt wr (rb + 1) rb (ws.drop i) (n : Int)) ∧ Hid (But (Two (rb + 1) rb) w6 wr)) (fun _ vi _ => m - (intOf vi).toNat)
        case atStart => exact ⟨0, false, rfl, rfl, Nat.zero_le _, rfl, R6.out, But.refl _ _⟩
        case round =>
          obtain ⟨i, f, rfl, rfl, hi, HF, RI, BI⟩ := hrel
          have CI := hide (C6.out.but l6 BI.out (fun e => by have := SG.out; rcases e with e | e <;> omega))
          have CIs := hide (C6s.out.but l6s BI.out (fun e => by rcases e with e | e <;> omega))
          have li : sg < wr.heap.size := Nat.lt_of_lt_of_le l6 BI.out.size
          have lis : s < wr.heap.size := Nat.lt_of_lt_of_le l6s BI.out.size
          have HBI : Hid (Below w.heap.size w wr) := HB6.out.trans (BI.out.below HB6.out.size (fun g hg e => by have := HS.out; rcases e with e | e <;> omega))
          by_cases hlt : i < m
          · obtain ⟨ea, hg1, hg2, hgc⟩ := GA.out (by omega)
            subst ea
            obtain ⟨x, hx⟩ : ∃ x, ws[i]? = some x := ⟨_, List.getElem?_eq_getElem (by rw [← HM.out]; exact hlt)⟩
            have ng : ¬ Two (rb + 1) rb ga := fun e => by have := N7.out; rcases e with e | e <;> omega
            have cx : CellsAt wr ga (i * 10) x.cells := by
              have h := (hgc i hlt).but hg2 BI.out ng
              unfold wyc at h
              rw [hx] at h
              exact h
            have xo := FOK.out x (List.mem_of_getElem? hx)
            have gl : ga < wr.heap.size := Nat.lt_of_lt_of_le hg2 BI.out.size
            have PX : ∀ W, Below wr.heap.size wr W → CellsAt W ga (i * 10) x.net.vals ∧ W.cell? ⟨ga, i * 10 + 4, none⟩ = some (.int .i64 x.bits) ∧ CellsAt W ga (i * 10 + 5) x.gate.vals ∧ W.cell? ⟨ga, i * 10 + 9, none⟩ = some (.bool x.via) := fun W hW => Wy.parts (cx.later gl hW)
            have GX : ∀ W, Below wr.heap.size wr W → CellsAt W sg 0 A.vals := fun W hW => by rw [← HAV.out]; exact CI.out.later li hW
            have IX : ∀ W, Below wr.heap.size wr W → CellsAt W s 0 ip.vals := fun W hW => by rw [← HV.out]; exact CIs.out.later lis hW
            have iz : (i : Int) < (m : Int) := by omega
            obtain ⟨q, hq⟩ : ∃ q, q = cnd E A ip x := ⟨_, rfl⟩
            have HQ := hide hq
            go_upto_region 17 with fail
            go_cut [92] (fun c wc => c = .bool q ∧ Hid (Below wr.heap.size wr wc))
            case first =>
              cases e0 : (E == 0) with
              | false =>
                refine region_quiet_C (fun W => Below wr.heap.size wr W) (by kernel_rfl) (by kernel_rfl) (later_drew _) ?_
                go_big_quiet_step (fail)
                go_big_quiet_want
                refine quiet_pure (.bool false) (fun W hW => exec_eqe _ _ _ _ _ _ rfl rfl rfl e0) ?_
                go_big_quiet_on
                simp only [Act.put, List.setIfInBounds_toArray, List.set_cons_succ, List.set_cons_zero]
                go_big_quiet_step (fail)
                go_big_quiet_step (fail)
                go_big_quiet_step (fail)
                go_big_quiet_step (fail)
                go_big_quiet_step (fail)
                go_big_quiet_step (fail)
                go_big_quiet_step (fail)
                go_big_quiet_step (fail)
                go_big_quiet_step (fail)
                go_big_quiet_step (fail)
                go_big_quiet_step (fail)
                go_big_quiet_step (fail)
                go_big_quiet_step (fail)
                go_big_quiet_step (fail)
                go_big_quiet_step (fail)
                go_big_quiet_step (fail)
                go_big_quiet_step (fail)
                go_big_quiet_step (fail)
                go_big_quiet_step (fail)
                go_big_quiet_step (fail)
                go_big_quiet_step (fail)
                go_big_quiet_step (fail)
                go_big_quiet_step (fail)
                go_big_quiet_step (fail)
                go_big_quiet_step (fail)
                go_big_quiet_step (fail)
                go_big_quiet_step (fail)
                go_big_quiet_step (fail)
                go_big_quiet_want
                refine quiet_pure (.bool false) (fun W hW => exec_pick _ _ _ false _ rfl rfl rfl) ?_
                go_big_quiet_on
                simp only [Act.put, List.setIfInBounds_toArray, List.set_cons_succ, List.set_cons_zero]
                refine wpQuiet_nil ?_
                intro wq bq
                go_wp2
                go_meet
                case rel => exact ⟨by rw [HQ.out]; unfold cnd; simp [e0], bq⟩
              | true =>
                cases hv : x.via with
                | true =>
                  cases e1 : eqI x.gate A with
                  | true =>
                    refine region_quiet_C (fun W => Below wr.heap.size wr W) (by kernel_rfl) (by kernel_rfl) (later_drew _) ?_
                    go_big_quiet_step (fail)
                    go_big_quiet_want
                    refine quiet_pure (.bool true) (fun W hW => exec_eqe _ _ _ _ _ _ rfl rfl rfl e0) ?_
                    go_big_quiet_on
                    simp only [Act.put, List.setIfInBounds_toArray, List.set_cons_succ, List.set_cons_zero]
                    go_big_quiet_step (fail)
                    go_big_quiet_step (fail)
                    go_big_quiet_step (fail)
                    go_big_quiet_want
                    refine quiet_pure (.pointer (some ⟨ga, i * 10, none⟩)) (fun W hW => exec_ixW _ _ ga m vc i rfl rfl rfl hlt) ?_
                    go_big_quiet_on
                    simp only [Act.put, List.setIfInBounds_toArray, List.set_cons_succ, List.set_cons_zero]
                    go_big_quiet_want
                    refine quiet_pure (.pointer (some ⟨ga, i * 10 + 9, none⟩)) (fun W hW => exec_fieldO 33 _ 3 ga (i * 10) (i * 10 + 9) rfl rfl (fun w => by kernel_rfl)) ?_
                    go_big_quiet_on
                    simp only [Act.put, List.setIfInBounds_toArray, List.set_cons_succ, List.set_cons_zero]
                    go_big_quiet_want
                    refine quiet_pure (.bool true) (fun W hW => exec_load1 4 oneB _ rfl ga (i * 10 + 9) rfl (.bool true) (by rw [← hv]; exact (PX W hW).2.2.2)) ?_
                    go_big_quiet_on
                    simp only [Act.put, List.setIfInBounds_toArray, List.set_cons_succ, List.set_cons_zero]
                    go_big_quiet_step (fail)
                    go_big_quiet_step (fail)
                    go_big_quiet_step (fail)
                    go_big_quiet_want
                    refine quiet_pure (.pointer (some ⟨ga, i * 10, none⟩)) (fun W hW => exec_ixW _ _ ga m vc i rfl rfl rfl hlt) ?_
                    go_big_quiet_on
                    simp only [Act.put, List.setIfInBounds_toArray, List.set_cons_succ, List.set_cons_zero]
                    go_big_quiet_want
                    refine quiet_pure (.pointer (some ⟨ga, i * 10 + 5, none⟩)) (fun W hW => exec_fieldO 33 _ 2 ga (i * 10) (i * 10 + 5) rfl rfl (fun w => by kernel_rfl)) ?_
                    go_big_quiet_on
                    simp only [Act.put, List.setIfInBounds_toArray, List.set_cons_succ, List.set_cons_zero]
                    go_big_quiet_want
                    refine quiet_pure (.agg (x.gate.vals).toArray) (fun W hW => exec_loadA 31 4 aggI sizI _ rfl ga (i * 10 + 5) rfl (x.gate.vals) rfl ((PX W hW).2.2.1)) ?_
                    go_big_quiet_on
                    simp only [Act.put, List.setIfInBounds_toArray, List.set_cons_succ, List.set_cons_zero]
                    go_big_quiet_want
                    refine quiet_pure (.agg (A.vals).toArray) (fun W hW => exec_loadA 31 4 aggI sizI _ rfl sg 0 rfl (A.vals) rfl (GX W hW)) ?_
                    go_big_quiet_on
                    simp only [Act.put, List.setIfInBounds_toArray, List.set_cons_succ, List.set_cons_zero]
                    go_big_quiet_want
                    refine quiet_pure (.bool true) (fun W hW => exec_eqI _ _ _ _ _ _ rfl rfl rfl e1) ?_
                    go_big_quiet_on
                    simp only [Act.put, List.setIfInBounds_toArray, List.set_cons_succ, List.set_cons_zero]
                    go_big_quiet_want
                    refine quiet_pure (.bool true) (fun W hW => exec_pick _ _ _ true _ rfl rfl rfl) ?_
                    go_big_quiet_on
                    simp only [Act.put, List.setIfInBounds_toArray, List.set_cons_succ, List.set_cons_zero]
                    go_big_quiet_step (fail)
                    go_big_quiet_step (fail)
                    go_big_quiet_step (fail)
                    go_big_quiet_step (fail)
                    go_big_quiet_step (fail)
                    go_big_quiet_step (fail)
                    go_big_quiet_step (fail)
                    go_big_quiet_step (fail)
                    go_big_quiet_step (fail)
                    go_big_quiet_step (fail)
                    go_big_quiet_step (fail)
                    go_big_quiet_step (fail)
                    go_big_quiet_want
                    refine quiet_pure (.bool true) (fun W hW => exec_pick _ _ _ true _ rfl rfl rfl) ?_
                    go_big_quiet_on
                    simp only [Act.put, List.setIfInBounds_toArray, List.set_cons_succ, List.set_cons_zero]
                    go_big_quiet_want
                    refine quiet_pure (.bool true) (fun W hW => exec_pick _ _ _ true _ rfl rfl rfl) ?_
                    go_big_quiet_on
                    simp only [Act.put, List.setIfInBounds_toArray, List.set_cons_succ, List.set_cons_zero]
                    refine wpQuiet_nil ?_
                    intro wq bq
                    go_wp2
                    go_meet
                    case rel => exact ⟨by rw [HQ.out]; unfold cnd; simp [e0, hv, e1], bq⟩
                  | false =>
                    refine region_quiet_C (fun W => Below wr.heap.size wr W) (by kernel_rfl) (by kernel_rfl) (later_drew _) ?_
                    go_big_quiet_step (fail)
                    go_big_quiet_want
                    refine quiet_pure (.bool true) (fun W hW => exec_eqe _ _ _ _ _ _ rfl rfl rfl e0) ?_
                    go_big_quiet_on
                    simp only [Act.put, List.setIfInBounds_toArray, List.set_cons_succ, List.set_cons_zero]
                    go_big_quiet_step (fail)
                    go_big_quiet_step (fail)
                    go_big_quiet_step (fail)
                    go_big_quiet_want
                    refine quiet_pure (.pointer (some ⟨ga, i * 10, none⟩)) (fun W hW => exec_ixW _ _ ga m vc i rfl rfl rfl hlt) ?_
                    go_big_quiet_on
                    simp only [Act.put, List.setIfInBounds_toArray, List.set_cons_succ, List.set_cons_zero]
                    go_big_quiet_want
                    refine quiet_pure (.pointer (some ⟨ga, i * 10 + 9, none⟩)) (fun W hW => exec_fieldO 33 _ 3 ga (i * 10) (i * 10 + 9) rfl rfl (fun w => by kernel_rfl)) ?_
                    go_big_quiet_on
                    simp only [Act.put, List.setIfInBounds_toArray, List.set_cons_succ, List.set_cons_zero]
                    go_big_quiet_want
                    refine quiet_pure (.bool true) (fun W hW => exec_load1 4 oneB _ rfl ga (i * 10 + 9) rfl (.bool true) (by rw [← hv]; exact (PX W hW).2.2.2)) ?_
                    go_big_quiet_on
                    simp only [Act.put, List.setIfInBounds_toArray, List.set_cons_succ, List.set_cons_zero]
                    go_big_quiet_step (fail)
                    go_big_quiet_step (fail)
                    go_big_quiet_step (fail)
                    go_big_quiet_want
                    refine quiet_pure (.pointer (some ⟨ga, i * 10, none⟩)) (fun W hW => exec_ixW _ _ ga m vc i rfl rfl rfl hlt) ?_
                    go_big_quiet_on
                    simp only [Act.put, List.setIfInBounds_toArray, List.set_cons_succ, List.set_cons_zero]
                    go_big_quiet_want
                    refine quiet_pure (.pointer (some ⟨ga, i * 10 + 5, none⟩)) (fun W hW => exec_fieldO 33 _ 2 ga (i * 10) (i * 10 + 5) rfl rfl (fun w => by kernel_rfl)) ?_
                    go_big_quiet_on
                    simp only [Act.put, List.setIfInBounds_toArray, List.set_cons_succ, List.set_cons_zero]
                    go_big_quiet_want
                    refine quiet_pure (.agg (x.gate.vals).toArray) (fun W hW => exec_loadA 31 4 aggI sizI _ rfl ga (i * 10 + 5) rfl (x.gate.vals) rfl ((PX W hW).2.2.1)) ?_
                    go_big_quiet_on
                    simp only [Act.put, List.setIfInBounds_toArray, List.set_cons_succ, List.set_cons_zero]
                    go_big_quiet_want
                    refine quiet_pure (.agg (A.vals).toArray) (fun W hW => exec_loadA 31 4 aggI sizI _ rfl sg 0 rfl (A.vals) rfl (GX W hW)) ?_
                    go_big_quiet_on
                    simp only [Act.put, List.setIfInBounds_toArray, List.set_cons_succ, List.set_cons_zero]
                    go_big_quiet_want
                    refine quiet_pure (.bool false) (fun W hW => exec_eqI _ _ _ _ _ _ rfl rfl rfl e1) ?_
                    go_big_quiet_on
                    simp only [Act.put, List.setIfInBounds_toArray, List.set_cons_succ, List.set_cons_zero]
                    go_big_quiet_want
                    refine quiet_pure (.bool false) (fun W hW => exec_pick _ _ _ true _ rfl rfl rfl) ?_
                    go_big_quiet_on
                    simp only [Act.put, List.setIfInBounds_toArray, List.set_cons_succ, List.set_cons_zero]
                    go_big_quiet_step (fail)
                    go_big_quiet_step (fail)
                    go_big_quiet_step (fail)
                    go_big_quiet_want
                    refine quiet_pure (.pointer (some ⟨ga, i * 10, none⟩)) (fun W hW => exec_ixW _ _ ga m vc i rfl rfl rfl hlt) ?_
                    go_big_quiet_on
                    simp only [Act.put, List.setIfInBounds_toArray, List.set_cons_succ, List.set_cons_zero]
                    go_big_quiet_want
                    refine quiet_pure (.pointer (some ⟨ga, i * 10 + 9, none⟩)) (fun W hW => exec_fieldO 33 _ 3 ga (i * 10) (i * 10 + 9) rfl rfl (fun w => by kernel_rfl)) ?_
                    go_big_quiet_on
                    simp only [Act.put, List.setIfInBounds_toArray, List.set_cons_succ, List.set_cons_zero]
                    go_big_quiet_want
                    refine quiet_pure (.bool true) (fun W hW => exec_load1 4 oneB _ rfl ga (i * 10 + 9) rfl (.bool true) (by rw [← hv]; exact (PX W hW).2.2.2)) ?_
                    go_big_quiet_on
                    simp only [Act.put, List.setIfInBounds_toArray, List.set_cons_succ, List.set_cons_zero]
                    go_big_quiet_want
                    refine quiet_pure (.bool false) (fun W hW => exec_not _ _ true rfl rfl) ?_
                    go_big_quiet_on
                    simp only [Act.put, List.setIfInBounds_toArray, List.set_cons_succ, List.set_cons_zero]
                    go_big_quiet_step (fail)
                    go_big_quiet_step (fail)
                    go_big_quiet_step (fail)
                    go_big_quiet_step (fail)
                    go_big_quiet_want
                    refine quiet_pure (.bool false) (fun W hW => exec_pick _ _ _ false _ rfl rfl rfl) ?_
                    go_big_quiet_on
                    simp only [Act.put, List.setIfInBounds_toArray, List.set_cons_succ, List.set_cons_zero]
                    go_big_quiet_want
                    refine quiet_pure (.bool false) (fun W hW => exec_pick _ _ _ false _ rfl rfl rfl) ?_
                    go_big_quiet_on
                    simp only [Act.put, List.setIfInBounds_toArray, List.set_cons_succ, List.set_cons_zero]
                    go_big_quiet_want
                    refine quiet_pure (.bool false) (fun W hW => exec_pick _ _ _ true _ rfl rfl rfl) ?_
                    go_big_quiet_on
                    simp only [Act.put, List.setIfInBounds_toArray, List.set_cons_succ, List.set_cons_zero]
                    refine wpQuiet_nil ?_
                    intro wq bq
                    go_wp2
                    go_meet
                    case rel => exact ⟨by rw [HQ.out]; unfold cnd; simp [e0, hv, e1], bq⟩
                | false =>
                  cases e1 : eqI ip A with
                  | true =>
                    refine region_quiet_C (fun W => Below wr.heap.size wr W) (by kernel_rfl) (by kernel_rfl) (later_drew _) ?_
                    go_big_quiet_step (fail)
                    go_big_quiet_want
                    refine quiet_pure (.bool true) (fun W hW => exec_eqe _ _ _ _ _ _ rfl rfl rfl e0) ?_
                    go_big_quiet_on
                    simp only [Act.put, List.setIfInBounds_toArray, List.set_cons_succ, List.set_cons_zero]
                    go_big_quiet_step (fail)
                    go_big_quiet_step (fail)
                    go_big_quiet_step (fail)
                    go_big_quiet_want
                    refine quiet_pure (.pointer (some ⟨ga, i * 10, none⟩)) (fun W hW => exec_ixW _ _ ga m vc i rfl rfl rfl hlt) ?_
                    go_big_quiet_on
                    simp only [Act.put, List.setIfInBounds_toArray, List.set_cons_succ, List.set_cons_zero]
                    go_big_quiet_want
                    refine quiet_pure (.pointer (some ⟨ga, i * 10 + 9, none⟩)) (fun W hW => exec_fieldO 33 _ 3 ga (i * 10) (i * 10 + 9) rfl rfl (fun w => by kernel_rfl)) ?_
                    go_big_quiet_on
                    simp only [Act.put, List.setIfInBounds_toArray, List.set_cons_succ, List.set_cons_zero]
                    go_big_quiet_want
                    refine quiet_pure (.bool false) (fun W hW => exec_load1 4 oneB _ rfl ga (i * 10 + 9) rfl (.bool false) (by rw [← hv]; exact (PX W hW).2.2.2)) ?_
                    go_big_quiet_on
                    simp only [Act.put, List.setIfInBounds_toArray, List.set_cons_succ, List.set_cons_zero]
                    go_big_quiet_step (fail)
                    go_big_quiet_step (fail)
                    go_big_quiet_step (fail)
                    go_big_quiet_step (fail)
                    go_big_quiet_step (fail)
                    go_big_quiet_step (fail)
                    go_big_quiet_step (fail)
                    go_big_quiet_step (fail)
                    go_big_quiet_want
                    refine quiet_pure (.bool false) (fun W hW => exec_pick _ _ _ false _ rfl rfl rfl) ?_
                    go_big_quiet_on
                    simp only [Act.put, List.setIfInBounds_toArray, List.set_cons_succ, List.set_cons_zero]
                    go_big_quiet_step (fail)
                    go_big_quiet_step (fail)
                    go_big_quiet_step (fail)
                    go_big_quiet_want
                    refine quiet_pure (.pointer (some ⟨ga, i * 10, none⟩)) (fun W hW => exec_ixW _ _ ga m vc i rfl rfl rfl hlt) ?_
                    go_big_quiet_on
                    simp only [Act.put, List.setIfInBounds_toArray, List.set_cons_succ, List.set_cons_zero]
                    go_big_quiet_want
                    refine quiet_pure (.pointer (some ⟨ga, i * 10 + 9, none⟩)) (fun W hW => exec_fieldO 33 _ 3 ga (i * 10) (i * 10 + 9) rfl rfl (fun w => by kernel_rfl)) ?_
                    go_big_quiet_on
                    simp only [Act.put, List.setIfInBounds_toArray, List.set_cons_succ, List.set_cons_zero]
                    go_big_quiet_want
                    refine quiet_pure (.bool false) (fun W hW => exec_load1 4 oneB _ rfl ga (i * 10 + 9) rfl (.bool false) (by rw [← hv]; exact (PX W hW).2.2.2)) ?_
                    go_big_quiet_on
                    simp only [Act.put, List.setIfInBounds_toArray, List.set_cons_succ, List.set_cons_zero]
                    go_big_quiet_want
                    refine quiet_pure (.bool true) (fun W hW => exec_not _ _ false rfl rfl) ?_
                    go_big_quiet_on
                    simp only [Act.put, List.setIfInBounds_toArray, List.set_cons_succ, List.set_cons_zero]
                    go_big_quiet_step (fail)
                    go_big_quiet_want
                    refine quiet_pure (.agg (ip.vals).toArray) (fun W hW => exec_loadA 31 4 aggI sizI _ rfl s 0 rfl (ip.vals) rfl (IX W hW)) ?_
                    go_big_quiet_on
                    simp only [Act.put, List.setIfInBounds_toArray, List.set_cons_succ, List.set_cons_zero]
                    go_big_quiet_want
                    refine quiet_pure (.agg (A.vals).toArray) (fun W hW => exec_loadA 31 4 aggI sizI _ rfl sg 0 rfl (A.vals) rfl (GX W hW)) ?_
                    go_big_quiet_on
                    simp only [Act.put, List.setIfInBounds_toArray, List.set_cons_succ, List.set_cons_zero]
                    go_big_quiet_want
                    refine quiet_pure (.bool true) (fun W hW => exec_eqI _ _ _ _ _ _ rfl rfl rfl e1) ?_
                    go_big_quiet_on
                    simp only [Act.put, List.setIfInBounds_toArray, List.set_cons_succ, List.set_cons_zero]
                    go_big_quiet_want
                    refine quiet_pure (.bool true) (fun W hW => exec_pick _ _ _ true _ rfl rfl rfl) ?_
                    go_big_quiet_on
                    simp only [Act.put, List.setIfInBounds_toArray, List.set_cons_succ, List.set_cons_zero]
                    go_big_quiet_want
                    refine quiet_pure (.bool true) (fun W hW => exec_pick _ _ _ false _ rfl rfl rfl) ?_
                    go_big_quiet_on
                    simp only [Act.put, List.setIfInBounds_toArray, List.set_cons_succ, List.set_cons_zero]
                    go_big_quiet_want
                    refine quiet_pure (.bool true) (fun W hW => exec_pick _ _ _ true _ rfl rfl rfl) ?_
                    go_big_quiet_on
                    simp only [Act.put, List.setIfInBounds_toArray, List.set_cons_succ, List.set_cons_zero]
                    refine wpQuiet_nil ?_
                    intro wq bq
                    go_wp2
                    go_meet
                    case rel => exact ⟨by rw [HQ.out]; unfold cnd; simp [e0, hv, e1], bq⟩
                  | false =>
                    refine region_quiet_C (fun W => Below wr.heap.size wr W) (by kernel_rfl) (by kernel_rfl) (later_drew _) ?_
                    go_big_quiet_step (fail)
                    go_big_quiet_want
                    refine quiet_pure (.bool true) (fun W hW => exec_eqe _ _ _ _ _ _ rfl rfl rfl e0) ?_
                    go_big_quiet_on
                    simp only [Act.put, List.setIfInBounds_toArray, List.set_cons_succ, List.set_cons_zero]
                    go_big_quiet_step (fail)
                    go_big_quiet_step (fail)
                    go_big_quiet_step (fail)
                    go_big_quiet_want
                    refine quiet_pure (.pointer (some ⟨ga, i * 10, none⟩)) (fun W hW => exec_ixW _ _ ga m vc i rfl rfl rfl hlt) ?_
                    go_big_quiet_on
                    simp only [Act.put, List.setIfInBounds_toArray, List.set_cons_succ, List.set_cons_zero]
                    go_big_quiet_want
                    refine quiet_pure (.pointer (some ⟨ga, i * 10 + 9, none⟩)) (fun W hW => exec_fieldO 33 _ 3 ga (i * 10) (i * 10 + 9) rfl rfl (fun w => by kernel_rfl)) ?_
                    go_big_quiet_on
                    simp only [Act.put, List.setIfInBounds_toArray, List.set_cons_succ, List.set_cons_zero]
                    go_big_quiet_want
                    refine quiet_pure (.bool false) (fun W hW => exec_load1 4 oneB _ rfl ga (i * 10 + 9) rfl (.bool false) (by rw [← hv]; exact (PX W hW).2.2.2)) ?_
                    go_big_quiet_on
                    simp only [Act.put, List.setIfInBounds_toArray, List.set_cons_succ, List.set_cons_zero]
                    go_big_quiet_step (fail)
                    go_big_quiet_step (fail)
                    go_big_quiet_step (fail)
                    go_big_quiet_step (fail)
                    go_big_quiet_step (fail)
                    go_big_quiet_step (fail)
                    go_big_quiet_step (fail)
                    go_big_quiet_step (fail)
                    go_big_quiet_want
                    refine quiet_pure (.bool false) (fun W hW => exec_pick _ _ _ false _ rfl rfl rfl) ?_
                    go_big_quiet_on
                    simp only [Act.put, List.setIfInBounds_toArray, List.set_cons_succ, List.set_cons_zero]
                    go_big_quiet_step (fail)
                    go_big_quiet_step (fail)
                    go_big_quiet_step (fail)
                    go_big_quiet_want
                    refine quiet_pure (.pointer (some ⟨ga, i * 10, none⟩)) (fun W hW => exec_ixW _ _ ga m vc i rfl rfl rfl hlt) ?_
                    go_big_quiet_on
                    simp only [Act.put, List.setIfInBounds_toArray, List.set_cons_succ, List.set_cons_zero]
                    go_big_quiet_want
                    refine quiet_pure (.pointer (some ⟨ga, i * 10 + 9, none⟩)) (fun W hW => exec_fieldO 33 _ 3 ga (i * 10) (i * 10 + 9) rfl rfl (fun w => by kernel_rfl)) ?_
                    go_big_quiet_on
                    simp only [Act.put, List.setIfInBounds_toArray, List.set_cons_succ, List.set_cons_zero]
                    go_big_quiet_want
                    refine quiet_pure (.bool false) (fun W hW => exec_load1 4 oneB _ rfl ga (i * 10 + 9) rfl (.bool false) (by rw [← hv]; exact (PX W hW).2.2.2)) ?_
                    go_big_quiet_on
                    simp only [Act.put, List.setIfInBounds_toArray, List.set_cons_succ, List.set_cons_zero]
                    go_big_quiet_want
                    refine quiet_pure (.bool true) (fun W hW => exec_not _ _ false rfl rfl) ?_
                    go_big_quiet_on
                    simp only [Act.put, List.setIfInBounds_toArray, List.set_cons_succ, List.set_cons_zero]
                    go_big_quiet_step (fail)
                    go_big_quiet_want
                    refine quiet_pure (.agg (ip.vals).toArray) (fun W hW => exec_loadA 31 4 aggI sizI _ rfl s 0 rfl (ip.vals) rfl (IX W hW)) ?_
                    go_big_quiet_on
                    simp only [Act.put, List.setIfInBounds_toArray, List.set_cons_succ, List.set_cons_zero]
                    go_big_quiet_want
                    refine quiet_pure (.agg (A.vals).toArray) (fun W hW => exec_loadA 31 4 aggI sizI _ rfl sg 0 rfl (A.vals) rfl (GX W hW)) ?_
                    go_big_quiet_on
                    simp only [Act.put, List.setIfInBounds_toArray, List.set_cons_succ, List.set_cons_zero]
                    go_big_quiet_want
                    refine quiet_pure (.bool false) (fun W hW => exec_eqI _ _ _ _ _ _ rfl rfl rfl e1) ?_
                    go_big_quiet_on
                    simp only [Act.put, List.setIfInBounds_toArray, List.set_cons_succ, List.set_cons_zero]
                    go_big_quiet_want
                    refine quiet_pure (.bool false) (fun W hW => exec_pick _ _ _ true _ rfl rfl rfl) ?_
                    go_big_quiet_on
                    simp only [Act.put, List.setIfInBounds_toArray, List.set_cons_succ, List.set_cons_zero]
                    go_big_quiet_want
                    refine quiet_pure (.bool false) (fun W hW => exec_pick _ _ _ false _ rfl rfl rfl) ?_
                    go_big_quiet_on
                    simp only [Act.put, List.setIfInBounds_toArray, List.set_cons_succ, List.set_cons_zero]
                    go_big_quiet_want
                    refine quiet_pure (.bool false) (fun W hW => exec_pick _ _ _ true _ rfl rfl rfl) ?_
                    go_big_quiet_on
                    simp only [Act.put, List.setIfInBounds_toArray, List.set_cons_succ, List.set_cons_zero]
                    refine wpQuiet_nil ?_
                    intro wq bq
                    go_wp2
                    go_meet
                    case rel => exact ⟨by rw [HQ.out]; unfold cnd; simp [e0, hv, e1], bq⟩
            case rest =>
              obtain ⟨rfl, hwc⟩ := hcut
              have RC := hide (RI.out.later hwc.out)
              have BC := hide (BI.out.trans (But.of_below hwc.out))
              have PC : ∀ W, Below wc.heap.size wc W → CellsAt W ga (i * 10) x.net.vals ∧ W.cell? ⟨ga, i * 10 + 4, none⟩ = some (.int .i64 x.bits) := fun W hW => ⟨(PX W (later hwc.out hW)).1, (PX W (later hwc.out hW)).2.1⟩
              have HDR : Hid (ws.drop i = x :: ws.drop (i + 1)) := by
                unfold Hid
                rw [List.drop_eq_getElem_cons (by rw [← HM.out]; exact hlt)]
                have := (List.getElem?_eq_some_iff.1 hx).2
                rw [this]
              have FX : Hid ((f || q) = (ws.take (i + 1)).any (cnd E A ip)) := by
                unfold Hid
                rw [List.take_add_one, hx, List.any_append, HF.out, HQ.out]
                simp
              have hwz : Hid (wr.heap.size ≤ wc.heap.size) := hwc.out.size
              clear PX GX IX hwc HF HQ hq RI BI CI CIs cx hx
              have dh := dr_head x (ws.drop (i + 1))
              have DR : Hid (Calls Try.prog 10 #[.pointer (some ⟨rb + 1, 0, none⟩), .agg x.net.vals.toArray, .int .i64 x.bits] wc.drew fun e w' => e = .returned (.int .i64 0) ∧ Rt w' (rb + 1) rb (ws.drop (i + 1)) (n : Int) ∧ But (Two (rb + 1) rb) wc.drew w') := by
                have h := Drop_any x.net x.bits xo.net (RC.out.later (later_drew wc))
                rw [HDR.out, dh.1, dh.2] at h
                exact h
              have hzc : wr.heap.size ≤ wc.heap.size := hwz.out
              clear dh HDR
              cases q with
              | true =>
                go_upto_region 19 with fail
                have Sd : CellsAt wc.drew ga (i * 10) x.net.vals ∧ wc.drew.cell? ⟨ga, i * 10 + 4, none⟩ = some (.int .i64 x.bits) := PC _ (later_drew _)
                refine wp_region_held (S := fun W => CellsAt W ga (i * 10) x.net.vals ∧ W.cell? ⟨ga, i * 10 + 4, none⟩ = some (.int .i64 x.bits)) (by kernel_rfl) ?_
                refine takeD (i := 0) (v := .pointer (some ⟨rb + 1, 0, none⟩)) 93 rfl rfl (by kernel_rfl) (by kernel_rfl) (by kernel_rfl) (fun _ _ _ h => h) (.inl ⟨by rfl, fun W hW => exec_move _ _ rfl rfl⟩) (Sd) ?_
                try simp only [Act.put, List.setIfInBounds_toArray, List.set_cons_zero, List.set_cons_succ]
                refine takeD (i := 1) (v := .slice (some ⟨ga, 0, none⟩) m vc) 94 rfl rfl (by kernel_rfl) (by kernel_rfl) (by kernel_rfl) (fun _ _ _ h => h) (.inl ⟨by rfl, fun W hW => exec_move _ _ rfl rfl⟩) (Sd) ?_
                try simp only [Act.put, List.setIfInBounds_toArray, List.set_cons_zero, List.set_cons_succ]
                refine takeD (i := 2) (v := .int .i64 (i : Int)) 95 rfl rfl (by kernel_rfl) (by kernel_rfl) (by kernel_rfl) (fun _ _ _ h => h) (.inl ⟨by rfl, fun W hW => exec_move _ _ rfl rfl⟩) (Sd) ?_
                try simp only [Act.put, List.setIfInBounds_toArray, List.set_cons_zero, List.set_cons_succ]
                refine takeD (i := 3) (v := .pointer (some ⟨ga, i * 10, none⟩)) 96 rfl rfl (by kernel_rfl) (by kernel_rfl) (by kernel_rfl) (fun _ _ _ h => h) (.inl ⟨by rfl, fun W hW => exec_ixW _ _ ga m vc i rfl rfl rfl hlt⟩) (Sd) ?_
                try simp only [Act.put, List.setIfInBounds_toArray, List.set_cons_zero, List.set_cons_succ]
                refine takeD (i := 4) (v := .pointer (some ⟨ga, i * 10, none⟩)) 97 rfl rfl (by kernel_rfl) (by kernel_rfl) (by kernel_rfl) (fun _ _ _ h => h) (.inl ⟨by rfl, fun W hW => exec_fieldO 33 _ 0 ga (i * 10) (i * 10) rfl rfl (fun w => by kernel_rfl)⟩) (Sd) ?_
                try simp only [Act.put, List.setIfInBounds_toArray, List.set_cons_zero, List.set_cons_succ]
                refine takeD (i := 5) (v := .agg (x.net.vals).toArray) 98 rfl rfl (by kernel_rfl) (by kernel_rfl) (by kernel_rfl) (fun _ _ _ h => h) (.inl ⟨by rfl, fun W hW => exec_loadA 31 4 aggI sizI _ rfl ga (i * 10) rfl (x.net.vals) rfl (hW.1)⟩) (Sd) ?_
                try simp only [Act.put, List.setIfInBounds_toArray, List.set_cons_zero, List.set_cons_succ]
                refine takeD (i := 6) (v := .slice (some ⟨ga, 0, none⟩) m vc) 99 rfl rfl (by kernel_rfl) (by kernel_rfl) (by kernel_rfl) (fun _ _ _ h => h) (.inl ⟨by rfl, fun W hW => exec_move _ _ rfl rfl⟩) (Sd) ?_
                try simp only [Act.put, List.setIfInBounds_toArray, List.set_cons_zero, List.set_cons_succ]
                refine takeD (i := 7) (v := .int .i64 (i : Int)) 100 rfl rfl (by kernel_rfl) (by kernel_rfl) (by kernel_rfl) (fun _ _ _ h => h) (.inl ⟨by rfl, fun W hW => exec_move _ _ rfl rfl⟩) (Sd) ?_
                try simp only [Act.put, List.setIfInBounds_toArray, List.set_cons_zero, List.set_cons_succ]
                refine takeD (i := 8) (v := .pointer (some ⟨ga, i * 10, none⟩)) 101 rfl rfl (by kernel_rfl) (by kernel_rfl) (by kernel_rfl) (fun _ _ _ h => h) (.inl ⟨by rfl, fun W hW => exec_ixW _ _ ga m vc i rfl rfl rfl hlt⟩) (Sd) ?_
                try simp only [Act.put, List.setIfInBounds_toArray, List.set_cons_zero, List.set_cons_succ]
                refine takeD (i := 9) (v := .pointer (some ⟨ga, i * 10 + 4, none⟩)) 102 rfl rfl (by kernel_rfl) (by kernel_rfl) (by kernel_rfl) (fun _ _ _ h => h) (.inl ⟨by rfl, fun W hW => exec_fieldO 33 _ 1 ga (i * 10) (i * 10 + 4) rfl rfl (fun w => by kernel_rfl)⟩) (Sd) ?_
                try simp only [Act.put, List.setIfInBounds_toArray, List.set_cons_zero, List.set_cons_succ]
                refine takeD (i := 10) (v := .int .i64 x.bits) 103 rfl rfl (by kernel_rfl) (by kernel_rfl) (by kernel_rfl) (fun _ _ _ h => h) (.inl ⟨by rfl, fun W hW => exec_load1 3 one1 _ rfl ga (i * 10 + 4) rfl (.int .i64 x.bits) (hW.2)⟩) (Sd) ?_
                try simp only [Act.put, List.setIfInBounds_toArray, List.set_cons_zero, List.set_cons_succ]
                refine callD 11 104 (by kernel_rfl) rfl rfl rfl 10 #[.pointer (some ⟨rb + 1, 0, none⟩), .agg x.net.vals.toArray, .int .i64 x.bits] (exec_callF _ _ _ _ rfl (map3 rfl rfl rfl) (enters_of Try.func10 (by kernel_rfl) rfl)) (fun v w7 => v = .int .i64 0 ∧ Rt w7 (rb + 1) rb (ws.drop (i + 1)) (n : Int) ∧ But (Two (rb + 1) rb) wc.drew w7) (DR.out.mono fun e w7 h => ⟨_, h.1, rfl, h.2⟩) ?_
                rintro _ w7 ⟨rfl, r7, b7⟩
                have S7 : CellsAt w7 ga (i * 10) x.net.vals ∧ w7.cell? ⟨ga, i * 10 + 4, none⟩ = some (.int .i64 x.bits) := ⟨Sd.1.but (Nat.lt_of_lt_of_le gl hzc) b7 ng, (b7.cell (p := ⟨ga, i * 10 + 4, none⟩) (Nat.lt_of_lt_of_le gl hzc) ng).trans Sd.2⟩
                refine ⟨S7, ?_⟩
                try simp only [Act.put, List.setIfInBounds_toArray, List.set_cons_zero, List.set_cons_succ]
                refine takeD (i := 12) (v := .int .i64 0) 13 rfl rfl (by kernel_rfl) (by kernel_rfl) (by kernel_rfl) (fun _ _ _ h => h) (.inl ⟨by rfl, fun W _ => exec_assign _ _ rfl rfl⟩) S7 ?_
                try simp only [Act.put, List.setIfInBounds_toArray, List.set_cons_zero, List.set_cons_succ]
                refine wpAnyH_done (by kernel_rfl) ?_ _
                have R7 := hide r7
                have B7 := hide ((BC.out.drew).trans b7)
                clear r7 b7 S7 Sd
                go_wp2
                go_roundw
                case rel => exact ⟨i + 1, true, rfl, by go_num, by omega, (by unfold Hid; rw [← FX.out]; simp), R7.out, B7.out⟩
                case measure => simp [intOf]; omega
              | false =>
                go_upto_region 19 with fail
                have Sd : CellsAt wc.drew ga (i * 10) x.net.vals ∧ wc.drew.cell? ⟨ga, i * 10 + 4, none⟩ = some (.int .i64 x.bits) := PC _ (later_drew _)
                refine wp_region_held (S := fun W => CellsAt W ga (i * 10) x.net.vals ∧ W.cell? ⟨ga, i * 10 + 4, none⟩ = some (.int .i64 x.bits)) (by kernel_rfl) ?_
                refine takeD (i := 0) (v := .pointer (some ⟨rb + 1, 0, none⟩)) 93 rfl rfl (by kernel_rfl) (by kernel_rfl) (by kernel_rfl) (fun _ _ _ h => h) (.inl ⟨by rfl, fun W hW => exec_move _ _ rfl rfl⟩) (Sd) ?_
                try simp only [Act.put, List.setIfInBounds_toArray, List.set_cons_zero, List.set_cons_succ]
                refine takeD (i := 1) (v := .slice (some ⟨ga, 0, none⟩) m vc) 94 rfl rfl (by kernel_rfl) (by kernel_rfl) (by kernel_rfl) (fun _ _ _ h => h) (.inl ⟨by rfl, fun W hW => exec_move _ _ rfl rfl⟩) (Sd) ?_
                try simp only [Act.put, List.setIfInBounds_toArray, List.set_cons_zero, List.set_cons_succ]
                refine takeD (i := 2) (v := .int .i64 (i : Int)) 95 rfl rfl (by kernel_rfl) (by kernel_rfl) (by kernel_rfl) (fun _ _ _ h => h) (.inl ⟨by rfl, fun W hW => exec_move _ _ rfl rfl⟩) (Sd) ?_
                try simp only [Act.put, List.setIfInBounds_toArray, List.set_cons_zero, List.set_cons_succ]
                refine takeD (i := 3) (v := .pointer (some ⟨ga, i * 10, none⟩)) 96 rfl rfl (by kernel_rfl) (by kernel_rfl) (by kernel_rfl) (fun _ _ _ h => h) (.inl ⟨by rfl, fun W hW => exec_ixW _ _ ga m vc i rfl rfl rfl hlt⟩) (Sd) ?_
                try simp only [Act.put, List.setIfInBounds_toArray, List.set_cons_zero, List.set_cons_succ]
                refine takeD (i := 4) (v := .pointer (some ⟨ga, i * 10, none⟩)) 97 rfl rfl (by kernel_rfl) (by kernel_rfl) (by kernel_rfl) (fun _ _ _ h => h) (.inl ⟨by rfl, fun W hW => exec_fieldO 33 _ 0 ga (i * 10) (i * 10) rfl rfl (fun w => by kernel_rfl)⟩) (Sd) ?_
                try simp only [Act.put, List.setIfInBounds_toArray, List.set_cons_zero, List.set_cons_succ]
                refine takeD (i := 5) (v := .agg (x.net.vals).toArray) 98 rfl rfl (by kernel_rfl) (by kernel_rfl) (by kernel_rfl) (fun _ _ _ h => h) (.inl ⟨by rfl, fun W hW => exec_loadA 31 4 aggI sizI _ rfl ga (i * 10) rfl (x.net.vals) rfl (hW.1)⟩) (Sd) ?_
                try simp only [Act.put, List.setIfInBounds_toArray, List.set_cons_zero, List.set_cons_succ]
                refine takeD (i := 6) (v := .slice (some ⟨ga, 0, none⟩) m vc) 99 rfl rfl (by kernel_rfl) (by kernel_rfl) (by kernel_rfl) (fun _ _ _ h => h) (.inl ⟨by rfl, fun W hW => exec_move _ _ rfl rfl⟩) (Sd) ?_
                try simp only [Act.put, List.setIfInBounds_toArray, List.set_cons_zero, List.set_cons_succ]
                refine takeD (i := 7) (v := .int .i64 (i : Int)) 100 rfl rfl (by kernel_rfl) (by kernel_rfl) (by kernel_rfl) (fun _ _ _ h => h) (.inl ⟨by rfl, fun W hW => exec_move _ _ rfl rfl⟩) (Sd) ?_
                try simp only [Act.put, List.setIfInBounds_toArray, List.set_cons_zero, List.set_cons_succ]
                refine takeD (i := 8) (v := .pointer (some ⟨ga, i * 10, none⟩)) 101 rfl rfl (by kernel_rfl) (by kernel_rfl) (by kernel_rfl) (fun _ _ _ h => h) (.inl ⟨by rfl, fun W hW => exec_ixW _ _ ga m vc i rfl rfl rfl hlt⟩) (Sd) ?_
                try simp only [Act.put, List.setIfInBounds_toArray, List.set_cons_zero, List.set_cons_succ]
                refine takeD (i := 9) (v := .pointer (some ⟨ga, i * 10 + 4, none⟩)) 102 rfl rfl (by kernel_rfl) (by kernel_rfl) (by kernel_rfl) (fun _ _ _ h => h) (.inl ⟨by rfl, fun W hW => exec_fieldO 33 _ 1 ga (i * 10) (i * 10 + 4) rfl rfl (fun w => by kernel_rfl)⟩) (Sd) ?_
                try simp only [Act.put, List.setIfInBounds_toArray, List.set_cons_zero, List.set_cons_succ]
                refine takeD (i := 10) (v := .int .i64 x.bits) 103 rfl rfl (by kernel_rfl) (by kernel_rfl) (by kernel_rfl) (fun _ _ _ h => h) (.inl ⟨by rfl, fun W hW => exec_load1 3 one1 _ rfl ga (i * 10 + 4) rfl (.int .i64 x.bits) (hW.2)⟩) (Sd) ?_
                try simp only [Act.put, List.setIfInBounds_toArray, List.set_cons_zero, List.set_cons_succ]
                refine callD 11 104 (by kernel_rfl) rfl rfl rfl 10 #[.pointer (some ⟨rb + 1, 0, none⟩), .agg x.net.vals.toArray, .int .i64 x.bits] (exec_callF _ _ _ _ rfl (map3 rfl rfl rfl) (enters_of Try.func10 (by kernel_rfl) rfl)) (fun v w7 => v = .int .i64 0 ∧ Rt w7 (rb + 1) rb (ws.drop (i + 1)) (n : Int) ∧ But (Two (rb + 1) rb) wc.drew w7) (DR.out.mono fun e w7 h => ⟨_, h.1, rfl, h.2⟩) ?_
                rintro _ w7 ⟨rfl, r7, b7⟩
                have S7 : CellsAt w7 ga (i * 10) x.net.vals ∧ w7.cell? ⟨ga, i * 10 + 4, none⟩ = some (.int .i64 x.bits) := ⟨Sd.1.but (Nat.lt_of_lt_of_le gl hzc) b7 ng, (b7.cell (p := ⟨ga, i * 10 + 4, none⟩) (Nat.lt_of_lt_of_le gl hzc) ng).trans Sd.2⟩
                refine ⟨S7, ?_⟩
                try simp only [Act.put, List.setIfInBounds_toArray, List.set_cons_zero, List.set_cons_succ]
                refine takeD (i := 12) (v := .int .i64 0) 13 rfl rfl (by kernel_rfl) (by kernel_rfl) (by kernel_rfl) (fun _ _ _ h => h) (.inl ⟨by rfl, fun W _ => exec_assign _ _ rfl rfl⟩) S7 ?_
                try simp only [Act.put, List.setIfInBounds_toArray, List.set_cons_zero, List.set_cons_succ]
                refine wpAnyH_done (by kernel_rfl) ?_ _
                have R7 := hide r7
                have B7 := hide ((BC.out.drew).trans b7)
                clear r7 b7 S7 Sd
                go_wp2
                go_roundw
                case rel => exact ⟨i + 1, f, rfl, by go_num, by omega, (by unfold Hid; rw [← FX.out]; simp), R7.out, B7.out⟩
                case measure => simp [intOf]; omega
          · have eim : m = i := by omega
            subst eim
            have FT : Hid (f = ws.any (cnd E A ip)) := by
              unfold Hid; rw [HF.out, List.take_of_length_le (by rw [← HM.out]; exact Nat.le_refl _)]
            have RN : Hid (Rt wr (rb + 1) rb [] (n : Int)) := by
              have h := RI.out
              rw [List.drop_of_length_le (by rw [← HM.out]; exact Nat.le_refl _)] at h
              exact h
            have FD := Find_any ip HIP.out RN.out
            rw [EV.out, fdE_nil, fdA_nil] at FD
            have HFD := hide FD
            clear FD HF RI hi hlt
            go_wp2_with (refine wpList_loadA rfl 31 4 aggI sizI _ rfl s 0 rfl V LV.out CIs.out ?_)
            refine HFD.out.mono ?_
            rintro _ w7 ⟨rfl, b7⟩
            have b8 : Below w7.heap.size w7 (w7.alloc (.cells #[.int .u8 0, .int .u8 0, .int .u8 0, .int .u8 0] 31)) := (Below.refl _ _).alloc (Nat.le_refl _) _
            have R8 := hide ((RN.out.later b7).later b8)
            have HB8 : Hid (Below w.heap.size w (w7.alloc (.cells #[.int .u8 0, .int .u8 0, .int .u8 0, .int .u8 0] 31))) := later (later HBI.out b7) b8
            have AL := hide (All_any R8.out)
            have OUT : Hid ((!(E == 0) || f) = true) := by
              unfold Hid
              rcases EC with e | e
              · rw [FT.out, e, HA.out, found_all (by rw [← HE.out]; exact e)]; rfl
              · rw [e]; rfl
            simp only [zI, I4.val]
            clear b7 b8 HFD FT EC
            rcases hE0 : (E == 0) with _ | _
            · have hE1 : (E != 0) = true := by rw [bne, hE0]; rfl
              go_wp2_with fail
              refine AL.out.mono ?_
              rintro _ wf ⟨v, rfl, rv, bf⟩
              obtain ⟨xa, xc, rfl⟩ := rv.shape
              have BF : Hid (Below w.heap.size w wf) := later HB8.out bf
              clear rv bf AL
              go_wp2
              go_ret
              exact ⟨rfl, BF.out⟩
            · have hE1 : (E != 0) = false := by rw [bne, hE0]; rfl
              have hf : f = true := by have := OUT.out; rw [hE0] at this; simpa using this
              subst hf
              go_wp2_with fail
              refine AL.out.mono ?_
              rintro _ wf ⟨v, rfl, rv, bf⟩
              obtain ⟨xa, xc, rfl⟩ := rv.shape
              have BF : Hid (Below w.heap.size w wf) := later HB8.out bf
              clear rv bf AL
              go_wp2
              go_ret
              exact ⟨rfl, BF.out⟩
end Go.Proofs.Ytlfacppkgamkgaa
