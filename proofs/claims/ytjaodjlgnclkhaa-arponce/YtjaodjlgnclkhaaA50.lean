
/-
  ArpOnce: the walk.
-/
import Derived.Test.YtjaodjlgnclkhaaA49b
namespace Go.Proofs.Ytjaodjlgnclkhaa
open Go.RowKit Go.Shelf

section
variable {ops : Array Oper} {rest : List Oper} {o : Oper} {a : Act} {w : World} {Q : Exit → Act → World → Prop}
/-- an array of 200 is made -/
theorem wpList_new200 (hgd : o.guard = none) (T : TypeId) (z : Value) (hz : ∀ (ev : Operand → Value) (o : Oper) (w : World), o.op = .alloc T → (execOp ev o).run Try.prog w = .ok (.value (.pointer (some ⟨w.heap.size, 0, none⟩))) (w.alloc (.cells (List.replicate 200 z).toArray T))) (ho : o.op = .alloc T)
    (h : ∀ w', w' = w.alloc (.cells (List.replicate 200 z).toArray T) → wpList Try.prog ops Q rest (a.put o.dst (.pointer (some ⟨w.heap.size, 0, none⟩))) w') : wpList Try.prog ops Q (o :: rest) a w := by
  refine wpList_plain hgd fun K hK => ?_
  unfold Oper.wp
  rw [hz a.eval o w ho]
  exact hK _ _ (h _ rfl)
/-- 'append' of numbers, by its run -/
theorem wpList_appN (hgd : o.guard = none) (s x : Operand) (hop : o.op = Op.call { callee := Callee.builtin Builtin.append, args := #[s, x], argTypes := #[54, 54] }) (hty : o.type = 54) (v u : Value) (hs : a.eval s = v) (hx : a.eval x = u) {v' : Value} {w' : World}
    (hr : (Builtin.append_ #[54, 54] 54 #[v, u]).run Try.prog w = .ok v' w') (h : wpList Try.prog ops Q rest (a.put o.dst v') w') : wpList Try.prog ops Q (o :: rest) a w := by
  refine wpList_plain hgd fun K hK => ?_
  unfold Oper.wp
  simp only [execOp, hop, hty]
  simp [resolve, invoke, builtin, hs, hx, hr, Result.andThen]
  exact hK _ _ h
end
theorem newA (ev : Operand → Value) (o : Oper) (w : World) (ho : o.op = .alloc 50) : (execOp ev o).run Try.prog w = .ok (.value (.pointer (some ⟨w.heap.size, 0, none⟩))) (w.alloc (.cells (List.replicate 200 (.int .u8 0)).toArray 50)) := by
  unfold execOp
  rw [ho]
  kernel_rfl
theorem newB (ev : Operand → Value) (o : Oper) (w : World) (ho : o.op = .alloc 51) : (execOp ev o).run Try.prog w = .ok (.value (.pointer (some ⟨w.heap.size, 0, none⟩))) (w.alloc (.cells (List.replicate 200 (.int .i64 0)).toArray 51)) := by
  unfold execOp
  rw [ho]
  kernel_rfl
theorem newC (ev : Operand → Value) (o : Oper) (w : World) (ho : o.op = .alloc 52) : (execOp ev o).run Try.prog w = .ok (.value (.pointer (some ⟨w.heap.size, 0, none⟩))) (w.alloc (.cells (List.replicate 200 (.bool false)).toArray 52)) := by
  unfold execOp
  rw [ho]
  kernel_rfl
theorem new200 (w : World) (z : Value) (T : TypeId) : CellsAt (w.alloc (.cells (List.replicate 200 z).toArray T)) w.heap.size 0 (List.replicate 200 z) ∧ (∀ y, (w.alloc (.cells (List.replicate 200 z).toArray T)).frozen? ⟨w.heap.size, y, none⟩ = false) ∧ Below w.heap.size w (w.alloc (.cells (List.replicate 200 z).toArray T)) :=
  ⟨CellsAt.new w _ T, fun y => frozen_new w _ T y, (Below.refl _ _).alloc (Nat.le_refl _) _⟩
theorem of200 {W : World} {s : Nat} {z : Value} (h : CellsAt W s 0 (List.replicate 200 z)) (q : Nat) (hq : q < 200) : W.cell? ⟨s, q, none⟩ = some z := by
  have := h q z (by rw [List.getElem?_replicate, if_pos hq])
  rw [Nat.zero_add] at this
  exact this
theorem OnM.tick1 {len : Nat} {t : Int} {n : Nat} {WH WN : Nat → Int} {TD : Nat → Bool} {L : List Nb} (h : OnM len (t - 1) n WH WN TD L []) (h0 : 0 ≤ t) : OnM len t n WH WN TD (tkL t L) (tkG t L) := by
  have := h.tick (by omega)
  rw [Int.sub_add_cancel] at this
  exact this

set_option maxRecDepth 100000 in
set_option maxHeartbeats 16000000 in
theorem Once_walk (v : Value) (l : List Op8) (w : World) (hv : IsO w.heap.size w v l) (hl : l.length ≤ 4398046510976) : Calls Try.prog 5 #[v] w fun e w' => e = .returned (.bool true) ∧ Below w.heap.size w w' := by
  obtain ⟨oa, oc, rfl, hoc, hok⟩ := hv
  obtain ⟨n0, hn⟩ : ∃ n0, n0 = w.heap.size := ⟨_, rfl⟩
  rw [← hn] at hoc ⊢
  have HOC := hide hoc
  have HOK := hide hok
  have HN := hide hn
  obtain ⟨ll, hll⟩ : ∃ ll, ll = l.length := ⟨_, rfl⟩
  rw [← hll] at HOC ⊢
  have HLL := hide hll
  have zl : (ll : Int) ≤ 4398046510976 := by omega
  clear hoc hok hn hll hl
  go_enter Try.func5, Try.ntmps5
  go_wp2_with fail
  refine (awake_any w).mono ?_
  rintro _ w2 ⟨rfl, b2⟩
  have B2 : Hid (Below n0 w w2) := b2.mono (by have := HN.out; omega)
  have Z2 : Hid (n0 ≤ w2.heap.size) := by have := b2.size; have := HN.out; unfold Hid; omega
  clear b2
  go_wp2_with fail
  refine (ip_any 1 _).mono ?_
  rintro _ w3 ⟨rfl, b3⟩
  have B3 : Hid (Below n0 w w3) := B2.out.trans (b3.mono Z2.out)
  have Z3 : Hid (n0 ≤ w3.heap.size) := by have := b3.size; have := Z2.out; unfold Hid; omega
  have NW := hide (new_host (n := n0) Z3.out)
  simp only [hostM, hostI, M6.val, I4.val] at NW
  simp only [I4.val]
  clear b3
  go_wp2_with fail
  refine NW.out.mono ?_
  rintro _ w4 ⟨c, ρ, rfl, hc, hF, hC, hb4, hcl, _⟩
  have B4 : Hid (Below n0 w w4) := B3.out.trans (hb4.mono Z3.out)
  have Z4 : Hid (n0 ≤ w4.heap.size) := by have := hb4.size; have := Z3.out; unfold Hid; omega
  have HC := hide hc
  have HF := hide hF
  have HCl := hide hC
  clear hc hF hC hb4 hcl NW B2 B3 Z2 Z3
  by_cases h200 : 200 < ll
  · have z200 : (200 : Int) < (ll : Int) := by omega
    go_wp2
    go_ret
    exact ⟨rfl, B4.out⟩
  · have z200 : (ll : Int) ≤ 200 := by omega
    clear h200
    go_upto_region 6 with fail
    refine wp_region_list ?_
    refine wpList_new200 rfl 50 (.int .u8 0) newA rfl ?_
    intro w5 hw5
    obtain ⟨c5, f5, b5⟩ := new200 w4 (.int .u8 0) 50
    rw [← hw5] at c5 f5 b5
    have z5 : w5.heap.size = w4.heap.size + 1 := by rw [hw5]; simp
    obtain ⟨sw, hsw⟩ : ∃ sw, sw = w4.heap.size := ⟨_, rfl⟩
    rw [← hsw] at c5 f5 z5 ⊢
    have C5 := hide c5
    have F5 := hide f5
    have B5 := hide b5
    have Z5 := hide z5
    have HSW := hide hsw
    clear hw5 c5 f5 b5 z5 hsw
    go_upto_region 7 with fail
    refine wp_region_list ?_
    refine wpList_new200 rfl 51 (.int .i64 0) newB rfl ?_
    intro w6 hw6
    obtain ⟨c6, f6, b6⟩ := new200 w5 (.int .i64 0) 51
    rw [← hw6] at c6 f6 b6
    have z6 : w6.heap.size = w5.heap.size + 1 := by rw [hw6]; simp
    obtain ⟨sn, hsn⟩ : ∃ sn, sn = w5.heap.size := ⟨_, rfl⟩
    rw [← hsn] at c6 f6 z6 ⊢
    have C6 := hide c6
    have F6 := hide f6
    have B6 := hide b6
    have Z6 := hide z6
    have HSN := hide hsn
    clear hw6 c6 f6 b6 z6 hsn
    go_upto_region 8 with fail
    refine wp_region_list ?_
    refine wpList_new200 rfl 52 (.bool false) newC rfl ?_
    intro w7 hw7
    obtain ⟨c7, f7, b7⟩ := new200 w6 (.bool false) 52
    rw [← hw7] at c7 f7 b7
    have z7 : w7.heap.size = w6.heap.size + 1 := by rw [hw7]; simp
    obtain ⟨st, hst⟩ : ∃ st, st = w6.heap.size := ⟨_, rfl⟩
    rw [← hst] at c7 f7 z7 ⊢
    have Q7 : Hid (Oq n0 w c sw sn st [] (fun _ => 0) (fun _ => 0) (fun _ => false) ρ w7) := by
      have s1 := HSW.out; have s2 := HSN.out; have s3 := hst; have q5 := Z5.out; have q6 := Z6.out; have q4 := Z4.out
      have b57 : Below w5.heap.size w5 w7 := B6.out.trans (b7.mono B6.out.size)
      have b47 : Below w4.heap.size w4 w7 := B5.out.trans (b57.mono B5.out.size)
      have fit := HF.out
      refine ⟨Ca.later HC.out b47, fit.below b47.size, HCl.out, B4.out.trans (b47.mono q4), by omega, ⟨by omega, by omega, by omega, by omega, by omega, by omega⟩, ⟨fit sw (by omega), fit sn (by omega), fit st (by omega)⟩, ⟨by omega, by omega, by omega⟩, fun q hq => of200 (C5.out.later (by omega) b57) q hq, fun q hq => of200 (C6.out.later (by omega) b7) q hq, fun q hq => of200 c7 q hq, fun y => (b57.frozen (p := ⟨sw, y, none⟩) (by show sw < _; omega)).trans (F5.out y), fun y => (b7.frozen (p := ⟨sn, y, none⟩) (by show sn < _; omega)).trans (F6.out y), f7⟩
    clear hw7 c7 f7 b7 z7 hst C5 F5 B5 Z5 HSW C6 F6 B6 Z6 HSN HC HF HCl B4 Z4
    go_wp2
    go_loopw [5, 9] (fun v5 v9 wr => ∃ (t n : Nat) (ρ : Nat → Role) (L : List Nb) (WH WN : Nat → Int) (TD : Nat → Bool), v9 = .int .i64 (t : Int) ∧ v5 = .int .i64 (n : Int) ∧ t ≤ ll + 10 ∧ n ≤ t ∧ n ≤ ll ∧ Hid (Oq n0 w c sw sn st L WH WN TD ρ wr) ∧ Hid (OnM ll ((t : Int) - 1) n WH WN TD L []) ∧ Hid (∀ q, q < n → 0 ≤ WN q ∧ WN q ≤ (t : Int))) (fun _ v9 _ => ll + 10 - (intOf v9).toNat)
    case atStart => exact ⟨0, 0, ρ, [], _, _, _, rfl, rfl, by omega, by omega, by omega, Q7.out, OnM.nil _ _ _, fun q hq => by omega⟩
    case round =>
      clear Q7
      obtain ⟨t, n, ρ1, L, WH, WN, TD, rfl, rfl, ht, hnt, hnl, HQ, HM, HW⟩ := hrel
      by_cases hlt : t < ll + 10
      · have zt : (t : Int) < (ll : Int) + 10 := by omega
        have TK := hide (HQ.out.tick (t : Int) (HM.out.ok.later (by omega)) (by omega))
        have HM1 := hide (HM.out.tick1 (by omega))
        obtain ⟨G, hG⟩ : ∃ G, G = tkG (t : Int) L := ⟨_, rfl⟩
        obtain ⟨L1, hL1⟩ : ∃ L1, L1 = tkL (t : Int) L := ⟨_, rfl⟩
        rw [← hG, ← hL1] at TK HM1
        clear HM hG hL1
        go_wp2_with fail
        refine TK.out.mono ?_
        rintro _ w8 ⟨ρ2, aa, an, ac, ga, gc, rfl, hQ8, hG8⟩
        have Q8 := hide hQ8
        have G8 := hide hG8
        clear hQ8 hG8 TK HQ
        obtain ⟨gl, hgl⟩ : ∃ gl, gl = G.length := ⟨_, rfl⟩
        rw [← hgl] at G8 ⊢
        have HGL := hide hgl
        clear hgl
        -- the call at this tick
        obtain ⟨X, hX⟩ : ∃ X : Op8, t < ll → X.Ok ∧ ∃ og off : Nat, oa = some ⟨og, off, none⟩ ∧ ∀ W, Below n0 w W → CellsAt W og (off + t * 25) X.cells := by
          by_cases hT : t < ll
          · have hl := HLL.out
            have hN := HN.out
            obtain ⟨x, hx⟩ : ∃ x, l[t]? = some x := ⟨_, List.getElem?_eq_getElem (by omega)⟩
            obtain ⟨og, off, e, hog, hcs⟩ := HOC.out (by omega)
            exact ⟨x, fun _ => ⟨HOK.out x (List.mem_of_getElem? hx), og, off, e, fun W hb => (hcs t x hx).later (by omega) (hb.mono (by omega))⟩⟩
          · exact ⟨⟨0, 0, 0, ⟨false, zM, zI, zM, zI⟩, 0⟩, fun e => absurd e hT⟩
        have HX := hide hX
        obtain ⟨cA, hcA⟩ : ∃ cA, cA = (decide (t < ll) && (decide (X.kind = 0) && !decide (X.ip = 1))) := ⟨_, rfl⟩
        obtain ⟨cB, hcB⟩ : ∃ cB, cB = (decide (t < ll) && decide (X.kind = 1)) := ⟨_, rfl⟩
        have HCA := hide hcA
        have HCB := hide hcB
        clear hX hcA hcB
        go_upto_region 15 with fail
        go_cut [77] from 58 to 76 (fun v77 wx => v77 = .bool cA ∧ w8 = wx)
        case first =>
          by_cases hT : t < ll
          · obtain ⟨hok, og, off, rfl, hcs⟩ := HX.out hT
            have c8 := hcs w8 Q8.out.bel
            have x0 : w8.cell? ⟨og, off + t * 25, none⟩ = some (.int .i64 X.kind) := c8 0 _ rfl
            have x1 : w8.cell? ⟨og, off + t * 25 + 1, none⟩ = some (.int .u8 X.ip) := c8 1 _ rfl
            have zt2 : (t : Int) < (ll : Int) := by omega
            clear c8 hcs hok hT
            by_cases k0 : X.kind = 0
            · have q0 : (X.kind == 0) = true := by rw [k0]; rfl
              have q1 : (X.ip != 1) = !decide (X.ip = 1) := by rw [bne, beq_dec]
              have e : cA = !decide (X.ip = 1) := by rw [HCA.out, decide_eq_true (show t < ll by omega), decide_eq_true k0]; simp
              clear k0
              rw [← e] at q1
              clear e
              go_wp2
              go_meet
              exact ⟨rfl, rfl⟩
            · have q0 : (X.kind == 0) = false := by rw [beq_dec]; exact decide_eq_false k0
              have e : cA = false := by rw [HCA.out, decide_eq_false k0]; simp
              subst e
              clear k0
              go_wp2
              go_meet
              exact ⟨rfl, rfl⟩
          · have zt2 : ¬ (t : Int) < (ll : Int) := by omega
            have e : cA = false := by rw [HCA.out, decide_eq_false hT]; rfl
            subst e
            clear hT
            go_wp2
            go_meet
            exact ⟨rfl, rfl⟩
        case rest =>
          obtain ⟨rfl, hw⟩ := hcut
          subst hw
          go_upto_if 77 with fail
          go_cut [5, 11, 14, 15, 16, 17] from 78 to 116 (fun v5 v11 v14 v15 v16 v17 wx => ∃ (n1 : Nat) (ρ3 : Nat → Role) (L2 : List Nb) (WH2 WN2 : Nat → Int) (G2 : List Int) (ga2 : Option Addr) (gc2 : Nat), v5 = .int .i64 (n1 : Int) ∧ v11 = .slice ga2 G2.length gc2 ∧ n1 ≤ t + 1 ∧ n1 ≤ ll ∧ Hid (Oq n0 w c sw sn st L2 WH2 WN2 TD ρ3 wx) ∧ Hid (RowN (Own n0 sw sn st ρ3) wx (.slice ga2 G2.length gc2) G2) ∧ Hid (OnM ll (t : Int) n1 WH2 WN2 TD L2 G2) ∧ Hid (∀ q, q < n1 → 0 ≤ WN2 q ∧ WN2 q ≤ (t : Int)))
          case first =>
            cases cA with
            | false =>
              go_wp2
              go_meet
              exact ⟨n, ρ2, L1, WH, WN, G, ga, gc, rfl, by rw [HGL.out], by omega, hnl, Q8, by rw [← HGL.out]; exact G8.out, HM1, HW⟩
            | true =>
              have hT : t < ll ∧ X.kind = 0 ∧ X.ip ≠ 1 := by
                have := HCA.out.symm
                simpa using this
              obtain ⟨hok, og, off, rfl, hcs⟩ := HX.out hT.1
              have hT2 := hT.1
              have HCS := hide hcs
              have x1 : w8.cell? ⟨og, off + t * 25 + 1, none⟩ = some (.int .u8 X.ip) := hcs w8 Q8.out.bel 1 _ rfl
              have zt2 : (t : Int) < (ll : Int) := by omega
              clear hcs hT
              go_wp2_with fail
              clear x1
              refine (ip_any X.ip _).mono ?_
              rintro _ w9 ⟨rfl, b9⟩
              have Q9 := hide (Q8.out.later b9)
              have G9 := hide (G8.out.later b9)
              have FD := hide (Q9.out.find (lp X.ip) (n : Int) (t : Int) HM1.out.ok (by omega) (hG := by rw [HGL.out] at G9; exact G9.out))
              have FN := hide (HM1.out.find (d := X.ip) (by omega) (by omega))
              obtain ⟨r, hr⟩ : ∃ r, r = fd (lp X.ip) (n : Int) (t : Int) L1 := ⟨_, rfl⟩
              rw [← hr] at FD FN
              simp only [lp, I4.val] at FD
              simp only [I4.val]
              clear b9 hr
              go_wp2_with fail
              refine FD.out.mono ?_
              rintro _ w10 ⟨ρ4, ba, bn, bc, la, lc, rfl, hQ10, hG10, hl10⟩
              simp only [M6.val]
              obtain ⟨s14, hs14⟩ : ∃ s14, s14 = w10.heap.size := ⟨_, rfl⟩
              obtain ⟨w11, hw11⟩ : ∃ w11, w11 = w10.alloc (.cells #[.int .u8 r.mac.a, .int .u8 r.mac.b, .int .u8 r.mac.c, .int .u8 r.mac.d, .int .u8 r.mac.e, .int .u8 r.mac.f] 23) := ⟨_, rfl⟩
              have b11 : Below w10.heap.size w10 w11 := by rw [hw11]; exact (Below.refl _ _).alloc (Nat.le_refl _) _
              have c14 : CellsAt w11 s14 0 r.mac.vals := by rw [hw11, hs14]; exact CellsAt.new w10 r.mac.vals 23
              have C14 := hide c14
              have Q11 := hide (hQ10.later b11)
              have G11 := hide (hG10.later b11)
              have L11 := hide (hl10.later b11)
              have hw11' := hw11.symm
              have hs14' := hs14.symm
              have x11 : w11.cell? ⟨og, off + t * 25 + 1, none⟩ = some (.int .u8 X.ip) := HCS.out w11 Q11.out.bel 1 _ rfl
              obtain ⟨rl, hrl⟩ : ∃ rl, rl = r.gone.length := ⟨_, rfl⟩
              rw [← hrl] at L11 ⊢
              have HRL := hide hrl
              have n200 : n < 200 := by omega
              have zn : (n : Int) < 200 := by omega
              clear hw11 hs14 b11 c14 hQ10 hG10 hl10 FD Q9 G9 Q8 G8 hrl
              rcases FN.out with ⟨e80, M2⟩ | ⟨herr, hgone, M2⟩
              · rw [e80]
                have HM2 := hide M2
                obtain ⟨w12, hw12⟩ : ∃ w12, w12 = w11.setCell ⟨sw, n, none⟩ (.int .u8 X.ip) := ⟨_, rfl⟩
                have Q12 := Q11.out.setW n200 X.ip
                have x12 := Q11.out.cw n n200
                have f12 := Q11.out.fw n
                obtain ⟨w13, hw13⟩ : ∃ w13, w13 = w12.setCell ⟨sn, n, none⟩ (.int .i64 (t : Int)) := ⟨_, rfl⟩
                rw [← hw12] at Q12
                have Q13 := Q12.setN n200 (t : Int)
                have x13 := Q12.cn n n200
                have f13 := Q12.fn n
                rw [← hw13] at Q13
                have G12 := (Q11.out.rowW G11.out n (.int .u8 X.ip)).1
                have L12 := (Q11.out.rowW (by rw [HRL.out] at L11; exact L11.out) n (.int .u8 X.ip)).1
                rw [← hw12] at G12 L12
                have G13 := (Q12.rowW G12 n (.int .i64 (t : Int))).2.1
                have L13 := (Q12.rowW L12 n (.int .i64 (t : Int))).2.1
                rw [← hw13] at G13 L13
                obtain ⟨ga', gc', w14, hrun, hR14, hQ14⟩ := Q13.appd G13 L13 (by have := M2.tlen; rw [List.length_append] at this; omega)
                have HRUN := hide hrun
                have R14 := hide hR14
                have Q14 := hide hQ14
                have hw12' := hw12.symm
                have hw13' := hw13.symm
                rw [← HGL.out, ← HRL.out] at HRUN
                obtain ⟨gl2, hgl2⟩ : ∃ gl2, gl2 = (G ++ r.gone).length := ⟨_, rfl⟩
                rw [← hgl2] at HRUN R14
                have HGL2 := hide hgl2
                clear hw12 hw13 Q12 Q13 G12 L12 G13 L13 hrun hR14 hQ14 M2 hgl2
                go_wp2_with (at_builtin; refine wpList_appN rfl _ _ rfl rfl _ _ rfl rfl HRUN.out ?_)
                go_meet
                refine ⟨n + 1, ρ4, r.L, at1 WH n X.ip, at1 WN n (t : Int), G ++ r.gone, ga', gc', val_int (by omega), by rw [HGL2.out], by omega, by omega, Q14.out, by rw [← HGL2.out]; exact R14.out, HM2.out, fun q hq => ?_⟩
                by_cases e : q = n
                · rw [e, at1_same]
                  omega
                · rw [at1_ne _ _ e]
                  exact HW.out q (by omega)
              · have HM2 : Hid (OnM ll (t : Int) n WH WN TD r.L (G ++ r.gone)) := by unfold Hid; rw [hgone, List.append_nil]; exact M2
                obtain ⟨ga', gc', w14, hrun, hR14, hQ14⟩ := Q11.out.appd G11.out (by rw [HRL.out] at L11; exact L11.out) (by have := HM2.out.tlen; rw [List.length_append] at this; omega)
                have HRUN := hide hrun
                have R14 := hide hR14
                have Q14 := hide hQ14
                rw [← HGL.out, ← HRL.out] at HRUN
                obtain ⟨gl2, hgl2⟩ : ∃ gl2, gl2 = (G ++ r.gone).length := ⟨_, rfl⟩
                rw [← hgl2] at HRUN R14
                have HGL2 := hide hgl2
                clear hrun hR14 hQ14 M2 hgl2 hgone x11
                rcases herr with e81 | ⟨e0, m4⟩
                · rw [e81]
                  go_wp2_with (at_builtin; refine wpList_appN rfl _ _ rfl rfl _ _ rfl rfl HRUN.out ?_)
                  go_meet
                  exact ⟨n, ρ4, r.L, WH, WN, G ++ r.gone, ga', gc', rfl, by rw [HGL2.out], by omega, hnl, Q14.out, by rw [← HGL2.out]; exact R14.out, HM2.out, HW.out⟩
                · rw [e0]
                  have x0 := C14.out 0 _ rfl
                  have x1 := C14.out 1 _ rfl
                  have x2 := C14.out 2 _ rfl
                  have x3 := C14.out 3 _ rfl
                  have x4 := C14.out 4 _ rfl
                  have x5 := C14.out 5 _ rfl
                  simp only [Nat.reduceAdd] at x0 x1 x2 x3 x4 x5
                  have EM := eq_mac
                  have ES : eqM ⟨r.mac.a, r.mac.b, r.mac.c, r.mac.d, r.mac.e, r.mac.f⟩ ⟨0, 0, 0, 0, 0, 0⟩ = false := by
                    rw [eqM_six, m4]; rfl
                  clear m4 e0
                  go_wp2_with (at_builtin; refine wpList_appN rfl _ _ rfl rfl _ _ rfl rfl HRUN.out ?_)
                  go_meet
                  exact ⟨n, ρ4, r.L, WH, WN, G ++ r.gone, ga', gc', rfl, by rw [HGL2.out], by omega, hnl, Q14.out, by rw [← HGL2.out]; exact R14.out, HM2.out, HW.out⟩
          case rest =>
            obtain ⟨n1, ρ3, L2, WH2, WN2, G2, ga2, gc2, rfl, rfl, hn1, hn1l, Q9, G9, HM2, HW2⟩ := hcut
            obtain ⟨w9, hw9⟩ : ∃ w9, w9 = wc := ⟨_, rfl⟩
            rw [← hw9] at Q9 G9 ⊢
            obtain ⟨gl2, hgl2⟩ : ∃ gl2, gl2 = G2.length := ⟨_, rfl⟩
            rw [← hgl2] at G9 ⊢
            have HGL2 := hide hgl2
            clear hw9 hgl2 Q8 G8 HM1 HW HGL
            go_upto_region 24 with fail
            go_cut [128] from 117 to 127 (fun v128 wx => v128 = .bool cB ∧ w9 = wx)
            case first =>
              by_cases hT : t < ll
              · obtain ⟨hok, og, off, rfl, hcs⟩ := HX.out hT
                have x0 : w9.cell? ⟨og, off + t * 25, none⟩ = some (.int .i64 X.kind) := hcs w9 Q9.out.bel 0 _ rfl
                have zt2 : (t : Int) < (ll : Int) := by omega
                have q0 : (X.kind == 1) = cB := by rw [HCB.out, decide_eq_true hT, beq_dec]; simp
                clear hcs hok hT
                go_wp2
                go_meet
                exact ⟨rfl, rfl⟩
              · have zt2 : ¬ (t : Int) < (ll : Int) := by omega
                have e : cB = false := by rw [HCB.out, decide_eq_false hT]; rfl
                subst e
                clear hT
                go_wp2
                go_meet
                exact ⟨rfl, rfl⟩
            case rest =>
              obtain ⟨rfl, hw⟩ := hcut
              subst hw
              go_upto_if 128 with fail
              go_cut [12, 13, 18, 19, 20, 21, 22] from 129 to 198 (fun v12 v13 v18 v19 v20 v21 v22 wx => ∃ (ρ4 : Nat → Role) (L3 : List Nb) (O : List Int) (ma : Option Addr) (mc : Nat), v12 = .slice ma O.length mc ∧ Hid (Oq n0 w c sw sn st L3 WH2 WN2 TD ρ4 wx) ∧ Hid (RowN (Own n0 sw sn st ρ4) wx (.slice ga2 gl2 gc2) G2) ∧ Hid (RowN (Own n0 sw sn st ρ4) wx (.slice ma O.length mc) O) ∧ Hid (OnM ll (t : Int) n1 WH2 WN2 TD L3 (O ++ G2)))
              case first =>
                cases cB with
                | false =>
                  go_wp2
                  go_meet
                  exact ⟨ρ3, L2, [], none, 0, rfl, Q9, G9, RowN.nil _ _, HM2⟩
                | true =>
                  have hT : t < ll ∧ X.kind = 1 := by
                    have := HCB.out.symm
                    simpa using this
                  obtain ⟨hok, og, off, rfl, hcs⟩ := HX.out hT.1
                  have hT2 := hT.1
                  have HCS := hide hcs
                  have zt2 : (t : Int) < (ll : Int) := by omega
                  clear hcs hT hok
                  go_upto_region 25 with fail
                  obtain ⟨a, ha⟩ : ∃ a : Ar, a = onA X.ip := ⟨_, rfl⟩
                  have HA := hide ha
                  clear ha
                  go_cut [18] from 129 to 142 (fun v18 wx => ∃ s8 : Nat, v18 = .pointer (some ⟨s8, 0, none⟩) ∧ Hid (Own n0 sw sn st ρ3 s8) ∧ Hid (s8 < wx.heap.size) ∧ Hid (CellsAt wx s8 0 a.vals) ∧ Hid (Oq n0 w c sw sn st L2 WH2 WN2 TD ρ3 wx) ∧ Hid (RowN (Own n0 sw sn st ρ3) wx (.slice ga2 gl2 gc2) G2))
                  case first =>
                    have SP : ∀ W, Below w9.heap.size w9 W → W.cell? ⟨og, off + t * 25 + 1, none⟩ = some (.int .u8 X.ip) := fun W hb => HCS.out W (Q9.out.later hb).bel 1 _ rfl
                    have bd : Below w9.heap.size w9 w9.drew := (Below.refl _ w9).drew
                    have S0 := SP _ bd
                    have CI : ∀ (k : Int) (W : World), Calls Try.prog 14 #[.int .u8 k] W fun e w2 => ∃ v, e = .returned v ∧ (v = I4.val ⟨10, 0, 0, k⟩ ∧ Below W.heap.size W w2) := fun k W => (ip_any k W).mono (by rintro _ w2 ⟨rfl, b⟩; exact ⟨_, rfl, rfl, b⟩)
                    have AL : ∀ W, Below w9.heap.size w9 W → Below w9.heap.size w9 (W.alloc (.cells (Ar.vals ⟨false, zM, zI, zM, zI⟩).toArray 27)) := fun W hb => hb.alloc hb.size _
                    have LAY : ∀ W s8, Below w9.heap.size w9 W → w9.heap.size ≤ s8 → s8 < W.heap.size → CellsAt W s8 0 (Ar.vals ⟨false, zM, zI, zM, zI⟩) → (W.setCells s8 0 (Ar.vals ⟨true, ⟨4, X.ip, 0, 0, 0, 0⟩, lp X.ip, zM, hostI⟩)).cell? ⟨og, off + t * 25 + 1, none⟩ = some (.int .u8 X.ip) ∧ Own n0 sw sn st ρ3 s8 ∧ s8 < (W.setCells s8 0 (Ar.vals ⟨true, ⟨4, X.ip, 0, 0, 0, 0⟩, lp X.ip, zM, hostI⟩)).heap.size ∧ CellsAt (W.setCells s8 0 (Ar.vals ⟨true, ⟨4, X.ip, 0, 0, 0, 0⟩, lp X.ip, zM, hostI⟩)) s8 0 a.vals ∧ Oq n0 w c sw sn st L2 WH2 WN2 TD ρ3 (W.setCells s8 0 (Ar.vals ⟨true, ⟨4, X.ip, 0, 0, 0, 0⟩, lp X.ip, zM, hostI⟩)) ∧ RowN (Own n0 sw sn st ρ3) (W.setCells s8 0 (Ar.vals ⟨true, ⟨4, X.ip, 0, 0, 0, 0⟩, lp X.ip, zM, hostI⟩)) (.slice ga2 gl2 gc2) G2 := fun W s8 hb h1 h2 h3 => by
                      have hq := Q9.out.lay hb h1 (Ar.vals ⟨true, ⟨4, X.ip, 0, 0, 0, 0⟩, lp X.ip, zM, hostI⟩)
                      have e : a.vals = (Ar.vals ⟨true, ⟨4, X.ip, 0, 0, 0, 0⟩, lp X.ip, zM, hostI⟩) := by rw [HA.out]; rfl
                      refine ⟨HCS.out _ hq.bel 1 _ rfl, Q9.out.fresh h1, by rw [size_setCells]; exact h2, ?_, hq, row_lay G9.out hb h1 (Ar.vals ⟨true, ⟨4, X.ip, 0, 0, 0, 0⟩, lp X.ip, zM, hostI⟩)⟩
                      rw [e]
                      exact h3.stored rfl
                    refine region_out (fun W => W.cell? ⟨og, off + t * 25 + 1, none⟩ = some (.int .u8 X.ip)) (by kernel_rfl) ?_
                    refine takeD (i := 0) (v := .slice (some ⟨og, off, none⟩) ll oc) 129 rfl rfl (by kernel_rfl) (by kernel_rfl) (by kernel_rfl) (fun _ _ _ h => h) (.inl ⟨by rfl, fun W hW => exec_move _ _ rfl rfl⟩) (S0) ?_
                    try simp only [Act.put, List.setIfInBounds_toArray, List.set_cons_zero, List.set_cons_succ]
                    refine takeD (i := 1) (v := .int .i64 (t : Int)) 130 rfl rfl (by kernel_rfl) (by kernel_rfl) (by kernel_rfl) (fun _ _ _ h => h) (.inl ⟨by rfl, fun W hW => exec_move _ _ rfl rfl⟩) (S0) ?_
                    try simp only [Act.put, List.setIfInBounds_toArray, List.set_cons_zero, List.set_cons_succ]
                    refine takeD (i := 2) (v := .pointer (some ⟨og, off + t * 25, none⟩)) 131 rfl rfl (by kernel_rfl) (by kernel_rfl) (by kernel_rfl) (fun _ _ _ h => h) (.inl ⟨by rfl, fun W hW => exec_ixO _ _ og off ll oc t rfl rfl rfl hT2⟩) (S0) ?_
                    try simp only [Act.put, List.setIfInBounds_toArray, List.set_cons_zero, List.set_cons_succ]
                    refine takeD (i := 3) (v := .pointer (some ⟨og, off + t * 25 + 1, none⟩)) 132 rfl rfl (by kernel_rfl) (by kernel_rfl) (by kernel_rfl) (fun _ _ _ h => h) (.inl ⟨by rfl, fun W hW => exec_fieldO 46 _ 1 og (off + t * 25) (off + t * 25 + 1) rfl rfl (fun w => by kernel_rfl)⟩) (S0) ?_
                    try simp only [Act.put, List.setIfInBounds_toArray, List.set_cons_zero, List.set_cons_succ]
                    refine takeD (i := 4) (v := .int .u8 X.ip) 133 rfl rfl (by kernel_rfl) (by kernel_rfl) (by kernel_rfl) (fun _ _ _ h => h) (.inl ⟨by rfl, fun W hW => exec_load1 5 oneU _ rfl og (off + t * 25 + 1) rfl (.int .u8 X.ip) (hW)⟩) (S0) ?_
                    try simp only [Act.put, List.setIfInBounds_toArray, List.set_cons_zero, List.set_cons_succ]
                    refine takeD (i := 5) (v := .agg (M6.vals ⟨4, X.ip, 0, 0, 0, 0⟩).toArray) 134 rfl rfl (by kernel_rfl) (by kernel_rfl) (by kernel_rfl) (fun _ _ _ h => h) (.inl ⟨by rfl, fun W hW => exec_m2 4 X.ip _ rfl (fun _ => rfl) rfl⟩) (S0) ?_
                    try simp only [Act.put, List.setIfInBounds_toArray, List.set_cons_zero, List.set_cons_succ]
                    refine takeD (i := 6) (v := .slice (some ⟨og, off, none⟩) ll oc) 135 rfl rfl (by kernel_rfl) (by kernel_rfl) (by kernel_rfl) (fun _ _ _ h => h) (.inl ⟨by rfl, fun W hW => exec_move _ _ rfl rfl⟩) (S0) ?_
                    try simp only [Act.put, List.setIfInBounds_toArray, List.set_cons_zero, List.set_cons_succ]
                    refine takeD (i := 7) (v := .int .i64 (t : Int)) 136 rfl rfl (by kernel_rfl) (by kernel_rfl) (by kernel_rfl) (fun _ _ _ h => h) (.inl ⟨by rfl, fun W hW => exec_move _ _ rfl rfl⟩) (S0) ?_
                    try simp only [Act.put, List.setIfInBounds_toArray, List.set_cons_zero, List.set_cons_succ]
                    refine takeD (i := 8) (v := .pointer (some ⟨og, off + t * 25, none⟩)) 137 rfl rfl (by kernel_rfl) (by kernel_rfl) (by kernel_rfl) (fun _ _ _ h => h) (.inl ⟨by rfl, fun W hW => exec_ixO _ _ og off ll oc t rfl rfl rfl hT2⟩) (S0) ?_
                    try simp only [Act.put, List.setIfInBounds_toArray, List.set_cons_zero, List.set_cons_succ]
                    refine takeD (i := 9) (v := .pointer (some ⟨og, off + t * 25 + 1, none⟩)) 138 rfl rfl (by kernel_rfl) (by kernel_rfl) (by kernel_rfl) (fun _ _ _ h => h) (.inl ⟨by rfl, fun W hW => exec_fieldO 46 _ 1 og (off + t * 25) (off + t * 25 + 1) rfl rfl (fun w => by kernel_rfl)⟩) (S0) ?_
                    try simp only [Act.put, List.setIfInBounds_toArray, List.set_cons_zero, List.set_cons_succ]
                    refine takeD (i := 10) (v := .int .u8 X.ip) 139 rfl rfl (by kernel_rfl) (by kernel_rfl) (by kernel_rfl) (fun _ _ _ h => h) (.inl ⟨by rfl, fun W hW => exec_load1 5 oneU _ rfl og (off + t * 25 + 1) rfl (.int .u8 X.ip) (hW)⟩) (S0) ?_
                    try simp only [Act.put, List.setIfInBounds_toArray, List.set_cons_zero, List.set_cons_succ]
                    refine wpAnyH_all (rs := [11, 14]) (by kernel_rfl) (by simp) (fun q' hq' => ?_)
                    rcases List.mem_cons.1 hq' with rfl | hq'
                    · skip
                      refine opD_call (w' := w9.drew) 11 140 rfl rfl (by rfl) 14 #[.int .u8 X.ip] (by kernel_rfl) _ (CI (X.ip) w9.drew) ?_
                      rintro _ wa ⟨rfl, bwa⟩
                      have Bwa : Below w9.heap.size w9 wa := bd.trans (bwa.mono bd.size)
                      have Swa := SP wa Bwa
                      refine ⟨Swa, ?_⟩
                      simp only [Act.put, List.setIfInBounds_toArray, List.set_cons_zero, List.set_cons_succ]
                      refine wpAnyH_all (rs := [12, 14]) (by kernel_rfl) (by simp) (fun q' hq' => ?_)
                      rcases List.mem_cons.1 hq' with rfl | hq'
                      · skip
                        refine opD_call (w' := wa) 12 141 rfl rfl (by rfl) 14 #[.int .u8 1] (by kernel_rfl) _ (CI 1 wa) ?_
                        rintro _ wb ⟨rfl, bwb⟩
                        have Bwb : Below w9.heap.size w9 wb := Bwa.trans (bwb.mono Bwa.size)
                        have Swb := SP wb Bwb
                        refine ⟨Swb, ?_⟩
                        simp only [Act.put, List.setIfInBounds_toArray, List.set_cons_zero, List.set_cons_succ]
                        refine takeD (i := 13) (v := .agg (Ar.vals ⟨true, ⟨4, X.ip, 0, 0, 0, 0⟩, lp X.ip, zM, hostI⟩).toArray) 142 rfl rfl (by kernel_rfl) (by kernel_rfl) (by kernel_rfl) (fun _ _ _ h => h) (.inl ⟨by rfl, fun W hW => exec_arO _ _ _ 4 X.ip 0 0 0 0 10 0 0 X.ip 10 0 0 1 rfl rfl rfl rfl (fun _ => rfl)⟩) (Swb) ?_
                        try simp only [Act.put, List.setIfInBounds_toArray, List.set_cons_zero, List.set_cons_succ]
                        obtain ⟨s8, hs8⟩ : ∃ s8, s8 = wb.heap.size := ⟨_, rfl⟩
                        obtain ⟨wz, hwz⟩ : ∃ wz, wz = wb.alloc (.cells (Ar.vals ⟨false, zM, zI, zM, zI⟩).toArray 27) := ⟨_, rfl⟩
                        have Bwz : Below w9.heap.size w9 wz := by rw [hwz]; exact AL wb Bwb
                        have z1 : w9.heap.size ≤ s8 := by have := Bwb.size; omega
                        have z2 : s8 < wz.heap.size := by rw [hwz, hs8]; simp
                        have cz : CellsAt wz s8 0 (Ar.vals ⟨false, zM, zI, zM, zI⟩) := by rw [hwz, hs8]; exact CellsAt.new wb _ 27
                        have fz : ∀ y, wz.frozen? ⟨s8, y, none⟩ = false := fun y => by rw [hwz, hs8]; exact frozen_new wb _ _ _
                        have Swz := SP wz Bwz
                        refine nextD (w' := wz) 14 18 (.pointer (some ⟨s8, 0, none⟩)) (by kernel_rfl) rfl rfl (by rfl) (by rw [hwz, hs8]; exact exec_allocA rfl) (Swz) ?_
                        try simp only [Act.put, List.setIfInBounds_toArray, List.set_cons_zero, List.set_cons_succ]
                        clear hwz hs8
                        have FE := LAY wz s8 Bwz z1 z2 cz
                        refine storeD (w' := wz.setCells s8 0 (Ar.vals ⟨true, ⟨4, X.ip, 0, 0, 0, 0⟩, lp X.ip, zM, hostI⟩)) 15 (by kernel_rfl) rfl rfl (by rfl) (exec_storeA 27 21 sizA _ _ rfl s8 0 rfl _ (Ar.vals ⟨false, zM, zI, zM, zI⟩) rfl rfl rfl cz fz (ar_one _)) (FE.1) ?_
                        try simp only [Act.put, List.setIfInBounds_toArray, List.set_cons_zero, List.set_cons_succ]
                        refine wpAnyH_done (by kernel_rfl) ?_ _
                        obtain ⟨wf, hwf⟩ : ∃ wf, wf = wz.setCells s8 0 (Ar.vals ⟨true, ⟨4, X.ip, 0, 0, 0, 0⟩, lp X.ip, zM, hostI⟩) := ⟨_, rfl⟩
                        rw [← hwf] at FE ⊢
                        have FE1 := hide FE.2
                        clear hwf FE
                        go_wp2
                        go_meet
                        exact ⟨s8, rfl, FE1.out.1, FE1.out.2.1, FE1.out.2.2.1, FE1.out.2.2.2.1, FE1.out.2.2.2.2⟩
                      · obtain rfl : q' = 14 := by simpa using hq'
                        obtain ⟨s8, hs8⟩ : ∃ s8, s8 = wa.heap.size := ⟨_, rfl⟩
                        obtain ⟨wz, hwz⟩ : ∃ wz, wz = wa.alloc (.cells (Ar.vals ⟨false, zM, zI, zM, zI⟩).toArray 27) := ⟨_, rfl⟩
                        have Bwz : Below w9.heap.size w9 wz := by rw [hwz]; exact AL wa Bwa
                        have z1 : w9.heap.size ≤ s8 := by have := Bwa.size; omega
                        have z2 : s8 < wz.heap.size := by rw [hwz, hs8]; simp
                        have cz : CellsAt wz s8 0 (Ar.vals ⟨false, zM, zI, zM, zI⟩) := by rw [hwz, hs8]; exact CellsAt.new wa _ 27
                        have fz : ∀ y, wz.frozen? ⟨s8, y, none⟩ = false := fun y => by rw [hwz, hs8]; exact frozen_new wa _ _ _
                        have Swz := SP wz Bwz
                        refine opD_val (w' := wz) 14 18 (.pointer (some ⟨s8, 0, none⟩)) rfl rfl (by rfl) (by rw [hwz, hs8]; exact exec_allocA rfl) ⟨Swz, ?_⟩
                        simp only [Act.put, List.setIfInBounds_toArray, List.set_cons_zero, List.set_cons_succ]
                        clear hwz hs8
                        refine callD (w' := wz) 12 141 (by kernel_rfl) rfl rfl (by rfl) 14 #[.int .u8 1] (by kernel_rfl) _ (CI 1 wz) ?_
                        rintro _ wb ⟨rfl, bwb⟩
                        have Bwb : Below w9.heap.size w9 wb := Bwz.trans (bwb.mono Bwz.size)
                        have Swb := SP wb Bwb
                        refine ⟨Swb, ?_⟩
                        simp only [Act.put, List.setIfInBounds_toArray, List.set_cons_zero, List.set_cons_succ]
                        have cz := cz.later z2 bwb
                        have fz : ∀ y, wb.frozen? ⟨s8, y, none⟩ = false := fun y => (bwb.frozen (p := ⟨s8, y, none⟩) z2).trans (fz y)
                        have z2 : s8 < wb.heap.size := Nat.lt_of_lt_of_le z2 bwb.size
                        refine takeD (i := 13) (v := .agg (Ar.vals ⟨true, ⟨4, X.ip, 0, 0, 0, 0⟩, lp X.ip, zM, hostI⟩).toArray) 142 rfl rfl (by kernel_rfl) (by kernel_rfl) (by kernel_rfl) (fun _ _ _ h => h) (.inl ⟨by rfl, fun W hW => exec_arO _ _ _ 4 X.ip 0 0 0 0 10 0 0 X.ip 10 0 0 1 rfl rfl rfl rfl (fun _ => rfl)⟩) (Swb) ?_
                        try simp only [Act.put, List.setIfInBounds_toArray, List.set_cons_zero, List.set_cons_succ]
                        have FE := LAY wb s8 Bwb z1 z2 cz
                        refine storeD (w' := wb.setCells s8 0 (Ar.vals ⟨true, ⟨4, X.ip, 0, 0, 0, 0⟩, lp X.ip, zM, hostI⟩)) 15 (by kernel_rfl) rfl rfl (by rfl) (exec_storeA 27 21 sizA _ _ rfl s8 0 rfl _ (Ar.vals ⟨false, zM, zI, zM, zI⟩) rfl rfl rfl cz fz (ar_one _)) (FE.1) ?_
                        try simp only [Act.put, List.setIfInBounds_toArray, List.set_cons_zero, List.set_cons_succ]
                        refine wpAnyH_done (by kernel_rfl) ?_ _
                        obtain ⟨wf, hwf⟩ : ∃ wf, wf = wb.setCells s8 0 (Ar.vals ⟨true, ⟨4, X.ip, 0, 0, 0, 0⟩, lp X.ip, zM, hostI⟩) := ⟨_, rfl⟩
                        rw [← hwf] at FE ⊢
                        have FE1 := hide FE.2
                        clear hwf FE
                        go_wp2
                        go_meet
                        exact ⟨s8, rfl, FE1.out.1, FE1.out.2.1, FE1.out.2.2.1, FE1.out.2.2.2.1, FE1.out.2.2.2.2⟩
                    · obtain rfl : q' = 14 := by simpa using hq'
                      obtain ⟨s8, hs8⟩ : ∃ s8, s8 = w9.drew.heap.size := ⟨_, rfl⟩
                      obtain ⟨wz, hwz⟩ : ∃ wz, wz = w9.drew.alloc (.cells (Ar.vals ⟨false, zM, zI, zM, zI⟩).toArray 27) := ⟨_, rfl⟩
                      have Bwz : Below w9.heap.size w9 wz := by rw [hwz]; exact AL w9.drew bd
                      have z1 : w9.heap.size ≤ s8 := by have := bd.size; omega
                      have z2 : s8 < wz.heap.size := by rw [hwz, hs8]; simp
                      have cz : CellsAt wz s8 0 (Ar.vals ⟨false, zM, zI, zM, zI⟩) := by rw [hwz, hs8]; exact CellsAt.new w9.drew _ 27
                      have fz : ∀ y, wz.frozen? ⟨s8, y, none⟩ = false := fun y => by rw [hwz, hs8]; exact frozen_new w9.drew _ _ _
                      have Swz := SP wz Bwz
                      refine opD_val (w' := wz) 14 18 (.pointer (some ⟨s8, 0, none⟩)) rfl rfl (by rfl) (by rw [hwz, hs8]; exact exec_allocA rfl) ⟨Swz, ?_⟩
                      simp only [Act.put, List.setIfInBounds_toArray, List.set_cons_zero, List.set_cons_succ]
                      clear hwz hs8
                      refine callD (w' := wz) 11 140 (by kernel_rfl) rfl rfl (by rfl) 14 #[.int .u8 X.ip] (by kernel_rfl) _ (CI (X.ip) wz) ?_
                      rintro _ wa ⟨rfl, bwa⟩
                      have Bwa : Below w9.heap.size w9 wa := Bwz.trans (bwa.mono Bwz.size)
                      have Swa := SP wa Bwa
                      refine ⟨Swa, ?_⟩
                      simp only [Act.put, List.setIfInBounds_toArray, List.set_cons_zero, List.set_cons_succ]
                      have cz := cz.later z2 bwa
                      have fz : ∀ y, wa.frozen? ⟨s8, y, none⟩ = false := fun y => (bwa.frozen (p := ⟨s8, y, none⟩) z2).trans (fz y)
                      have z2 : s8 < wa.heap.size := Nat.lt_of_lt_of_le z2 bwa.size
                      refine callD (w' := wa) 12 141 (by kernel_rfl) rfl rfl (by rfl) 14 #[.int .u8 1] (by kernel_rfl) _ (CI 1 wa) ?_
                      rintro _ wb ⟨rfl, bwb⟩
                      have Bwb : Below w9.heap.size w9 wb := Bwa.trans (bwb.mono Bwa.size)
                      have Swb := SP wb Bwb
                      refine ⟨Swb, ?_⟩
                      simp only [Act.put, List.setIfInBounds_toArray, List.set_cons_zero, List.set_cons_succ]
                      have cz := cz.later z2 bwb
                      have fz : ∀ y, wb.frozen? ⟨s8, y, none⟩ = false := fun y => (bwb.frozen (p := ⟨s8, y, none⟩) z2).trans (fz y)
                      have z2 : s8 < wb.heap.size := Nat.lt_of_lt_of_le z2 bwb.size
                      refine takeD (i := 13) (v := .agg (Ar.vals ⟨true, ⟨4, X.ip, 0, 0, 0, 0⟩, lp X.ip, zM, hostI⟩).toArray) 142 rfl rfl (by kernel_rfl) (by kernel_rfl) (by kernel_rfl) (fun _ _ _ h => h) (.inl ⟨by rfl, fun W hW => exec_arO _ _ _ 4 X.ip 0 0 0 0 10 0 0 X.ip 10 0 0 1 rfl rfl rfl rfl (fun _ => rfl)⟩) (Swb) ?_
                      try simp only [Act.put, List.setIfInBounds_toArray, List.set_cons_zero, List.set_cons_succ]
                      have FE := LAY wb s8 Bwb z1 z2 cz
                      refine storeD (w' := wb.setCells s8 0 (Ar.vals ⟨true, ⟨4, X.ip, 0, 0, 0, 0⟩, lp X.ip, zM, hostI⟩)) 15 (by kernel_rfl) rfl rfl (by rfl) (exec_storeA 27 21 sizA _ _ rfl s8 0 rfl _ (Ar.vals ⟨false, zM, zI, zM, zI⟩) rfl rfl rfl cz fz (ar_one _)) (FE.1) ?_
                      try simp only [Act.put, List.setIfInBounds_toArray, List.set_cons_zero, List.set_cons_succ]
                      refine wpAnyH_done (by kernel_rfl) ?_ _
                      obtain ⟨wf, hwf⟩ : ∃ wf, wf = wb.setCells s8 0 (Ar.vals ⟨true, ⟨4, X.ip, 0, 0, 0, 0⟩, lp X.ip, zM, hostI⟩) := ⟨_, rfl⟩
                      rw [← hwf] at FE ⊢
                      have FE1 := hide FE.2
                      clear hwf FE
                      go_wp2
                      go_meet
                      exact ⟨s8, rfl, FE1.out.1, FE1.out.2.1, FE1.out.2.2.1, FE1.out.2.2.2.1, FE1.out.2.2.2.2⟩
                  case rest =>
                    obtain ⟨s8, rfl, OS, LS, CS8, Q10, G10⟩ := hcut
                    obtain ⟨w10, hw10⟩ : ∃ w10, w10 = wc := ⟨_, rfl⟩
                    rw [← hw10] at LS CS8 Q10 G10 ⊢
                    have HE := hide (Q10.out.heard a (t : Int) HM2.out.ok (hG := G10.out) OS.out LS.out CS8.out)
                    have HH := HM2.out.heard X.ip (by omega)
                    rw [← HA.out] at HH
                    obtain ⟨r, hr⟩ : ∃ r, r = hd hostI a (t : Int) L2 := ⟨_, rfl⟩
                    rw [← hr] at HE HH
                    have HHH := hide HH
                    obtain ⟨ml, hml⟩ : ∃ ml, ml = r.may.length := ⟨_, rfl⟩
                    rw [← hml] at HE
                    have HML := hide hml
                    rw [show a.val = .agg a.vals.toArray from rfl] at HE
                    clear hw10 hr HH hml Q9 G9
                    go_wp2_with (refine wpList_loadA rfl 27 21 aggA sizA _ rfl s8 0 rfl a.vals rfl CS8.out ?_)
                    refine HE.out.mono ?_
                    rintro _ w11 ⟨ρ4, ba, bn, bc, ma, mc, rfl, hQ11, hG11, hM11, hC11, hl11⟩
                    simp only [M6.val]
                    obtain ⟨s21, hs21⟩ : ∃ s21, s21 = w11.heap.size := ⟨_, rfl⟩
                    obtain ⟨w12, hw12⟩ : ∃ w12, w12 = w11.alloc (.cells #[.int .u8 r.mac.a, .int .u8 r.mac.b, .int .u8 r.mac.c, .int .u8 r.mac.d, .int .u8 r.mac.e, .int .u8 r.mac.f] 23) := ⟨_, rfl⟩
                    have b12 : Below w11.heap.size w11 w12 := by rw [hw12]; exact (Below.refl _ _).alloc (Nat.le_refl _) _
                    have C21 : Hid (CellsAt w12 s21 0 r.mac.vals) := by rw [hw12, hs21]; exact CellsAt.new w11 r.mac.vals 23
                    have CA : Hid (CellsAt w12 s8 1 a.sm.vals) := by
                      have h1 := hC11.later hl11 b12
                      have e : a.vals = [.bool a.ans] ++ (a.sm.vals ++ (a.si.vals ++ (a.dm.vals ++ a.di.vals))) := by simp [Ar.vals]
                      rw [e] at h1
                      exact (CellsAt.append.1 (CellsAt.append.1 h1).2).1
                    have Q12 := hide (hQ11.later b12)
                    have G12 := hide (hG11.later b12)
                    have M12 := hide (hM11.later b12)
                    have hw12' := hw12.symm
                    have hs21' := hs21.symm
                    clear hw12 hs21 b12 hQ11 hG11 hM11 hC11 hl11 HE Q10 G10 CS8 LS OS
                    go_upto_region 27 with fail
                    clear hw12' hs21'
                    go_cut [159] from 151 to 158 (fun v159 wx => v159 = .bool false ∧ w12 = wx)
                    case first =>
                      by_cases hm : r.may = []
                      · have e0 : ¬ (0 : Int) < (ml : Int) := by rw [HML.out, hm]; simp
                        have e1 : decide ((0 : Int) < (ml : Int)) = false := decide_eq_false e0
                        go_wp2
                        go_meet
                        exact ⟨rfl, rfl⟩
                      · have zm : (0 : Int) < (ml : Int) := by
                          have : 0 < r.may.length := List.length_pos_iff.2 hm
                          have := HML.out
                          omega
                        have em : r.mac = a.sm := by
                          have h1 := HHH.out.2.2.2.1 hm
                          have e2 : (onA X.ip).sm = a.sm := by rw [HA.out]
                          first | exact h1 | exact h1.trans e2
                        have c21 := C21.out
                        rw [em] at c21
                        have x0 := c21 0 _ rfl
                        have x1 := c21 1 _ rfl
                        have x2 := c21 2 _ rfl
                        have x3 := c21 3 _ rfl
                        have x4 := c21 4 _ rfl
                        have x5 := c21 5 _ rfl
                        have y0 := CA.out 0 _ rfl
                        have y1 := CA.out 1 _ rfl
                        have y2 := CA.out 2 _ rfl
                        have y3 := CA.out 3 _ rfl
                        have y4 := CA.out 4 _ rfl
                        have y5 := CA.out 5 _ rfl
                        simp only [Nat.reduceAdd] at x0 x1 x2 x3 x4 x5 y0 y1 y2 y3 y4 y5
                        have EM := eq_mac
                        have ES : eqM ⟨a.sm.a, a.sm.b, a.sm.c, a.sm.d, a.sm.e, a.sm.f⟩ ⟨a.sm.a, a.sm.b, a.sm.c, a.sm.d, a.sm.e, a.sm.f⟩ = true := eqM_self _
                        clear c21 em hm
                        go_wp2
                        go_meet
                        exact ⟨rfl, rfl⟩
                    case rest =>
                      obtain ⟨rfl, hw⟩ := hcut
                      subst hw
                      clear C21 CA
                      go_wp2
                      go_loopw [13, 22] (fun v13 v22 wr => ∃ (i : Nat) (last : Int), v22 = .int .i64 (i : Int) ∧ v13 = .int .i64 last ∧ i ≤ ml ∧ Hid (∀ j x, i ≤ j → r.may[j]? = some x → last < x) ∧ Hid (Below w12.heap.size w12 wr)) (fun _ v22 _ => ml - (intOf v22).toNat)
                      case atStart => exact ⟨0, -1, rfl, rfl, by omega, fun j x _ hx => by
                        obtain ⟨q, e1, _⟩ := HHH.out.2.2.1 x (List.mem_of_getElem? hx)
                        omega, Below.refl _ _⟩
                      case round =>
                        obtain ⟨i, last, rfl, rfl, hi, HS, HB⟩ := hrel
                        by_cases hil : i < ml
                        · have hml := HML.out
                          obtain ⟨x, hx⟩ : ∃ x, r.may[i]? = some x := ⟨_, List.getElem?_eq_getElem (by omega)⟩
                          obtain ⟨q, e1, e2, e3⟩ := HHH.out.2.2.1 x (List.mem_of_getElem? hx)
                          have hlast := HS.out i x (Nat.le_refl _) hx
                          subst e1
                          have MR := M12.out.later HB.out
                          rw [hml] at MR
                          obtain ⟨mg, mo, rfl, _, _, hcs⟩ := MR.at (by omega)
                          have QR := Q12.out.later HB.out
                          have bd : Below wr.heap.size wr wr.drew := (Below.refl _ wr).drew
                          have HB2 : Hid (Below w12.heap.size w12 wr.drew) := HB.out.trans (bd.mono HB.out.size)
                          have S0 : wr.drew.cell? ⟨mg, mo + i, none⟩ = some (.int .i64 (q : Int)) ∧ wr.drew.cell? ⟨sw, q, none⟩ = some (.int .u8 X.ip) ∧ wr.drew.cell? ⟨og, off + t * 25 + 1, none⟩ = some (.int .u8 X.ip) := by
                            have hq := QR.later bd
                            refine ⟨hcs i _ hx, ?_, HCS.out _ hq.bel 1 _ rfl⟩
                            have := hq.cw q (by omega)
                            rw [e3] at this
                            exact this
                          have x34 : wr.drew.cell? ⟨mg, mo + i, none⟩ = some (.int .i64 (q : Int)) := S0.1
                          have zi : (i : Int) < (ml : Int) := by omega
                          have HX2 := hide hx
                          have bml : (ml : Int) ≤ 200 := by
                            have := HHH.out.2.2.2.2.tlen
                            rw [List.length_append] at this
                            omega
                          clear hx hcs MR QR hml
                          go_upto_region 32 with fail
                          refine region_out (fun W => W.cell? ⟨mg, mo + i, none⟩ = some (.int .i64 (q : Int)) ∧ W.cell? ⟨sw, q, none⟩ = some (.int .u8 X.ip) ∧ W.cell? ⟨og, off + t * 25 + 1, none⟩ = some (.int .u8 X.ip)) (by kernel_rfl) ?_
                          refine takeD (i := 0) (v := .slice (some ⟨mg, mo, none⟩) ml mc) 166 rfl rfl (by kernel_rfl) (by kernel_rfl) (by kernel_rfl) (fun _ _ _ h => h) (.inl ⟨by rfl, fun W hW => exec_move _ _ rfl rfl⟩) (S0) ?_
                          try simp only [Act.put, List.setIfInBounds_toArray, List.set_cons_zero, List.set_cons_succ]
                          refine takeD (i := 1) (v := .int .i64 (i : Int)) 167 rfl rfl (by kernel_rfl) (by kernel_rfl) (by kernel_rfl) (fun _ _ _ h => h) (.inl ⟨by rfl, fun W hW => exec_move _ _ rfl rfl⟩) (S0) ?_
                          try simp only [Act.put, List.setIfInBounds_toArray, List.set_cons_zero, List.set_cons_succ]
                          refine takeD (i := 2) (v := .pointer (some ⟨mg, mo + i, none⟩)) 168 rfl rfl (by kernel_rfl) (by kernel_rfl) (by kernel_rfl) (fun _ _ _ h => h) (.inl ⟨by rfl, fun W hW => exec_ixI _ _ mg mo ml mc i rfl rfl rfl hil⟩) (S0) ?_
                          try simp only [Act.put, List.setIfInBounds_toArray, List.set_cons_zero, List.set_cons_succ]
                          refine takeD (i := 3) (v := .int .i64 (q : Int)) 169 rfl rfl (by kernel_rfl) (by kernel_rfl) (by kernel_rfl) (fun _ _ _ h => h) (.inl ⟨by rfl, fun W hW => exec_load1 3 one1 _ rfl mg (mo + i) rfl (.int .i64 (q : Int)) (hW.1)⟩) (S0) ?_
                          try simp only [Act.put, List.setIfInBounds_toArray, List.set_cons_zero, List.set_cons_succ]
                          refine takeD (i := 4) (v := .int .i64 last) 170 rfl rfl (by kernel_rfl) (by kernel_rfl) (by kernel_rfl) (fun _ _ _ h => h) (.inl ⟨by rfl, fun W hW => exec_move _ _ rfl rfl⟩) (S0) ?_
                          try simp only [Act.put, List.setIfInBounds_toArray, List.set_cons_zero, List.set_cons_succ]
                          refine takeD (i := 5) (v := .bool false) 171 rfl rfl (by kernel_rfl) (by kernel_rfl) (by kernel_rfl) (fun _ _ _ h => h) (.inl ⟨by rfl, fun W hW => exec_lei _ _ _ _ _ _ rfl rfl rfl (decide_eq_false (by omega))⟩) (S0) ?_
                          try simp only [Act.put, List.setIfInBounds_toArray, List.set_cons_zero, List.set_cons_succ]
                          refine takeD (i := 6) (v := .bool false) 172 rfl rfl (by kernel_rfl) (by kernel_rfl) (by kernel_rfl) (fun _ _ _ h => h) (.inl ⟨by rfl, fun W hW => exec_move _ _ rfl rfl⟩) (S0) ?_
                          try simp only [Act.put, List.setIfInBounds_toArray, List.set_cons_zero, List.set_cons_succ]
                          refine takeD (i := 7) (v := .slice (some ⟨mg, mo, none⟩) ml mc) 173 rfl rfl (by kernel_rfl) (by kernel_rfl) (by kernel_rfl) (fun _ _ _ h => h) (.inl ⟨by rfl, fun W hW => exec_move _ _ rfl rfl⟩) (S0) ?_
                          try simp only [Act.put, List.setIfInBounds_toArray, List.set_cons_zero, List.set_cons_succ]
                          refine takeD (i := 8) (v := .int .i64 (i : Int)) 174 rfl rfl (by kernel_rfl) (by kernel_rfl) (by kernel_rfl) (fun _ _ _ h => h) (.inl ⟨by rfl, fun W hW => exec_move _ _ rfl rfl⟩) (S0) ?_
                          try simp only [Act.put, List.setIfInBounds_toArray, List.set_cons_zero, List.set_cons_succ]
                          refine takeD (i := 9) (v := .pointer (some ⟨mg, mo + i, none⟩)) 175 rfl rfl (by kernel_rfl) (by kernel_rfl) (by kernel_rfl) (fun _ _ _ h => h) (.inl ⟨by rfl, fun W hW => exec_ixI _ _ mg mo ml mc i rfl rfl rfl hil⟩) (S0) ?_
                          try simp only [Act.put, List.setIfInBounds_toArray, List.set_cons_zero, List.set_cons_succ]
                          refine takeD (i := 10) (v := .int .i64 (q : Int)) 176 rfl rfl (by kernel_rfl) (by kernel_rfl) (by kernel_rfl) (fun _ _ _ h => h) (.inl ⟨by rfl, fun W hW => exec_load1 3 one1 _ rfl mg (mo + i) rfl (.int .i64 (q : Int)) (hW.1)⟩) (S0) ?_
                          try simp only [Act.put, List.setIfInBounds_toArray, List.set_cons_zero, List.set_cons_succ]
                          refine takeD (i := 11) (v := .int .i64 (n1 : Int)) 177 rfl rfl (by kernel_rfl) (by kernel_rfl) (by kernel_rfl) (fun _ _ _ h => h) (.inl ⟨by rfl, fun W hW => exec_move _ _ rfl rfl⟩) (S0) ?_
                          try simp only [Act.put, List.setIfInBounds_toArray, List.set_cons_zero, List.set_cons_succ]
                          refine takeD (i := 12) (v := .bool false) 178 rfl rfl (by kernel_rfl) (by kernel_rfl) (by kernel_rfl) (fun _ _ _ h => h) (.inl ⟨by rfl, fun W hW => exec_gei _ _ _ _ _ _ rfl rfl rfl (decide_eq_false (by omega))⟩) (S0) ?_
                          try simp only [Act.put, List.setIfInBounds_toArray, List.set_cons_zero, List.set_cons_succ]
                          refine takeD (i := 13) (v := .bool false) 179 rfl rfl (by kernel_rfl) (by kernel_rfl) (by kernel_rfl) (fun _ _ _ h => h) (.inl ⟨by rfl, fun W hW => exec_pick _ _ _ false _ rfl rfl rfl⟩) (S0) ?_
                          try simp only [Act.put, List.setIfInBounds_toArray, List.set_cons_zero, List.set_cons_succ]
                          refine takeD (i := 14) (v := .bool false) 180 rfl rfl (by kernel_rfl) (by kernel_rfl) (by kernel_rfl) (fun _ _ _ h => h) (.inl ⟨by rfl, fun W hW => exec_move _ _ rfl rfl⟩) (S0) ?_
                          try simp only [Act.put, List.setIfInBounds_toArray, List.set_cons_zero, List.set_cons_succ]
                          refine takeD (i := 15) (v := .slice (some ⟨mg, mo, none⟩) ml mc) 181 rfl rfl (by kernel_rfl) (by kernel_rfl) (by kernel_rfl) (fun _ _ _ h => h) (.inl ⟨by rfl, fun W hW => exec_move _ _ rfl rfl⟩) (S0) ?_
                          try simp only [Act.put, List.setIfInBounds_toArray, List.set_cons_zero, List.set_cons_succ]
                          refine takeD (i := 16) (v := .int .i64 (i : Int)) 182 rfl rfl (by kernel_rfl) (by kernel_rfl) (by kernel_rfl) (fun _ _ _ h => h) (.inl ⟨by rfl, fun W hW => exec_move _ _ rfl rfl⟩) (S0) ?_
                          try simp only [Act.put, List.setIfInBounds_toArray, List.set_cons_zero, List.set_cons_succ]
                          refine takeD (i := 17) (v := .pointer (some ⟨mg, mo + i, none⟩)) 183 rfl rfl (by kernel_rfl) (by kernel_rfl) (by kernel_rfl) (fun _ _ _ h => h) (.inl ⟨by rfl, fun W hW => exec_ixI _ _ mg mo ml mc i rfl rfl rfl hil⟩) (S0) ?_
                          try simp only [Act.put, List.setIfInBounds_toArray, List.set_cons_zero, List.set_cons_succ]
                          refine takeD (i := 18) (v := .int .i64 (q : Int)) 184 rfl rfl (by kernel_rfl) (by kernel_rfl) (by kernel_rfl) (fun _ _ _ h => h) (.inl ⟨by rfl, fun W hW => exec_load1 3 one1 _ rfl mg (mo + i) rfl (.int .i64 (q : Int)) (hW.1)⟩) (S0) ?_
                          try simp only [Act.put, List.setIfInBounds_toArray, List.set_cons_zero, List.set_cons_succ]
                          refine takeD (i := 19) (v := .pointer (some ⟨sw, q, none⟩)) 185 rfl rfl (by kernel_rfl) (by kernel_rfl) (by kernel_rfl) (fun _ _ _ h => h) (.inl ⟨by rfl, fun W hW => exec_ixW _ _ sw q rfl rfl rfl (by omega)⟩) (S0) ?_
                          try simp only [Act.put, List.setIfInBounds_toArray, List.set_cons_zero, List.set_cons_succ]
                          refine takeD (i := 20) (v := .int .u8 X.ip) 186 rfl rfl (by kernel_rfl) (by kernel_rfl) (by kernel_rfl) (fun _ _ _ h => h) (.inl ⟨by rfl, fun W hW => exec_load1 5 oneU _ rfl sw q rfl (.int .u8 X.ip) (hW.2.1)⟩) (S0) ?_
                          try simp only [Act.put, List.setIfInBounds_toArray, List.set_cons_zero, List.set_cons_succ]
                          refine takeD (i := 21) (v := .slice (some ⟨og, off, none⟩) ll oc) 187 rfl rfl (by kernel_rfl) (by kernel_rfl) (by kernel_rfl) (fun _ _ _ h => h) (.inl ⟨by rfl, fun W hW => exec_move _ _ rfl rfl⟩) (S0) ?_
                          try simp only [Act.put, List.setIfInBounds_toArray, List.set_cons_zero, List.set_cons_succ]
                          refine takeD (i := 22) (v := .int .i64 (t : Int)) 188 rfl rfl (by kernel_rfl) (by kernel_rfl) (by kernel_rfl) (fun _ _ _ h => h) (.inl ⟨by rfl, fun W hW => exec_move _ _ rfl rfl⟩) (S0) ?_
                          try simp only [Act.put, List.setIfInBounds_toArray, List.set_cons_zero, List.set_cons_succ]
                          refine takeD (i := 23) (v := .pointer (some ⟨og, off + t * 25, none⟩)) 189 rfl rfl (by kernel_rfl) (by kernel_rfl) (by kernel_rfl) (fun _ _ _ h => h) (.inl ⟨by rfl, fun W hW => exec_ixO _ _ og off ll oc t rfl rfl rfl hT2⟩) (S0) ?_
                          try simp only [Act.put, List.setIfInBounds_toArray, List.set_cons_zero, List.set_cons_succ]
                          refine takeD (i := 24) (v := .pointer (some ⟨og, off + t * 25 + 1, none⟩)) 190 rfl rfl (by kernel_rfl) (by kernel_rfl) (by kernel_rfl) (fun _ _ _ h => h) (.inl ⟨by rfl, fun W hW => exec_fieldO 46 _ 1 og (off + t * 25) (off + t * 25 + 1) rfl rfl (fun w => by kernel_rfl)⟩) (S0) ?_
                          try simp only [Act.put, List.setIfInBounds_toArray, List.set_cons_zero, List.set_cons_succ]
                          refine takeD (i := 25) (v := .int .u8 X.ip) 191 rfl rfl (by kernel_rfl) (by kernel_rfl) (by kernel_rfl) (fun _ _ _ h => h) (.inl ⟨by rfl, fun W hW => exec_load1 5 oneU _ rfl og (off + t * 25 + 1) rfl (.int .u8 X.ip) (hW.2.2)⟩) (S0) ?_
                          try simp only [Act.put, List.setIfInBounds_toArray, List.set_cons_zero, List.set_cons_succ]
                          refine takeD (i := 26) (v := .bool false) 192 rfl rfl (by kernel_rfl) (by kernel_rfl) (by kernel_rfl) (fun _ _ _ h => h) (.inl ⟨by rfl, fun W hW => exec_neb _ _ _ _ rfl rfl rfl⟩) (S0) ?_
                          try simp only [Act.put, List.setIfInBounds_toArray, List.set_cons_zero, List.set_cons_succ]
                          refine takeD (i := 27) (v := .bool false) 193 rfl rfl (by kernel_rfl) (by kernel_rfl) (by kernel_rfl) (fun _ _ _ h => h) (.inl ⟨by rfl, fun W hW => exec_pick _ _ _ false _ rfl rfl rfl⟩) (S0) ?_
                          try simp only [Act.put, List.setIfInBounds_toArray, List.set_cons_zero, List.set_cons_succ]
                          refine wpAnyH_done (by kernel_rfl) ?_ _
                          clear S0
                          go_wp2
                          go_roundw
                          case rel =>
                            refine ⟨i + 1, (q : Int), val_int (by omega), rfl, by omega, fun j y hj hy => ?_, HB2.out⟩
                            have hp := List.pairwise_iff_getElem.1 HHH.out.2.1
                            obtain ⟨l1, f1⟩ := List.getElem?_eq_some_iff.1 HX2.out
                            obtain ⟨l2, f2⟩ := List.getElem?_eq_some_iff.1 hy
                            have := hp i j l1 l2 (by omega)
                            omega
                          case measure => simp [intOf]; omega
                        · have ei : i = ml := by omega
                          subst ei
                          have Q13 := hide (Q12.out.later HB.out)
                          have G13 := hide (G12.out.later HB.out)
                          have M13 := hide (M12.out.later HB.out)
                          go_wp2
                          go_meet
                          exact ⟨ρ4, r.L, r.may, ma, mc, by rw [HML.out], Q13.out, G13.out, by rw [← HML.out]; exact M13.out, HHH.out.2.2.2.2⟩
              case rest =>
                obtain ⟨ρ4, L3, O, ma, mc, rfl, Q10, G10, M10, HM3⟩ := hcut
                obtain ⟨w10, hw10⟩ : ∃ w10, w10 = wc := ⟨_, rfl⟩
                rw [← hw10] at Q10 G10 M10 ⊢
                have tl200 := HM3.out.tlen
                obtain ⟨a', c', w11, hrun, hR11, hQ11⟩ := Q10.out.appd M10.out (by rw [HGL2.out] at G10; exact G10.out) (by rw [List.length_append] at tl200; omega)
                obtain ⟨T, hT⟩ : ∃ T, T = O ++ G2 := ⟨_, rfl⟩
                rw [← hT] at HM3 hrun hR11 tl200
                obtain ⟨tl, htl⟩ : ∃ tl, tl = T.length := ⟨_, rfl⟩
                obtain ⟨ol, hol⟩ : ∃ ol, ol = O.length := ⟨_, rfl⟩
                rw [← htl] at hrun hR11 tl200
                rw [← HGL2.out, ← hol] at hrun
                rw [← hol]
                have HRUN := hide hrun
                have R11 := hide hR11
                have Q11 := hide hQ11
                have HTL := hide htl
                clear hw10 hrun hR11 hQ11 hT htl hol Q9 G9 Q10 G10 M10 HM2
                go_wp2_with (at_builtin; refine wpList_appN rfl _ _ rfl rfl _ _ rfl rfl HRUN.out ?_)
                go_loopw [23] (fun v23 wr => ∃ (i : Nat) (TD2 : Nat → Bool), v23 = .int .i64 (i : Int) ∧ i ≤ tl ∧ Hid (Oq n0 w c sw sn st L3 WH2 WN2 TD2 ρ4 wr) ∧ Hid (RowN (Own n0 sw sn st ρ4) wr (.slice a' tl c') T) ∧ Hid (OnM ll (t : Int) n1 WH2 WN2 TD2 L3 (T.drop i))) (fun v23 _ => tl - (intOf v23).toNat)
                case atStart => exact ⟨0, TD, rfl, by omega, Q11.out, R11.out, HM3.out⟩
                case round =>
                  clear Q11 R11 HM3
                  obtain ⟨i, TD2, rfl, hi, QR, RR, MR⟩ := hrel
                  by_cases hil : i < tl
                  · have htl := HTL.out
                    obtain ⟨x, hx⟩ : ∃ x, T[i]? = some x := ⟨_, List.getElem?_eq_getElem (by omega)⟩
                    have M1 := MR.out
                    rw [List.drop_eq_getElem_cons (show i < T.length by omega)] at M1
                    obtain ⟨l1, f1⟩ := List.getElem?_eq_some_iff.1 hx
                    rw [f1] at M1
                    obtain ⟨q, e1, e2, e3, M2⟩ := M1.tell
                    subst e1
                    have RR1 := RR.out
                    rw [htl] at RR1
                    obtain ⟨tg, to_, rfl, _, _, hcs⟩ := RR1.at (by omega)
                    have x1 : wr.cell? ⟨tg, to_ + i, none⟩ = some (.int .i64 (q : Int)) := hcs i _ hx
                    have q200 : q < 200 := by omega
                    have x2 : wr.cell? ⟨st, q, none⟩ = some (.bool false) := by rw [← e3]; exact QR.out.ct q q200
                    have f2 := QR.out.ft q
                    have QN := hide (QR.out.setT q200 true)
                    have RN := hide (QR.out.rowW RR.out q (.bool true)).2.2
                    have MN := hide M2
                    have zi : (i : Int) < (tl : Int) := by omega
                    have zq : (q : Int) < 200 := by omega
                    have zq1 : decide ((n1 : Int) ≤ (q : Int)) = false := decide_eq_false (by omega)
                    have zq2 : decide (n1 ≤ q) = false := decide_eq_false (by omega)
                    have zq3 : ¬ n1 ≤ q := by omega
                    have zt2 : (tl : Int) ≤ 200 := by omega
                    clear hx M1 l1 f1 RR1 hcs e3 M2 QR RR MR htl
                    go_wp2
                    go_roundw
                    case rel => exact ⟨i + 1, at1 TD2 q true, val_int (by omega), by omega, QN.out, RN.out, MN.out⟩
                    case measure => simp [intOf]; omega
                  · have ei : i = tl := by omega
                    subst ei
                    have MZ : Hid (OnM ll (t : Int) n1 WH2 WN2 TD2 L3 []) := by
                      have := MR.out
                      rw [HTL.out, List.drop_length] at this
                      exact this
                    clear MR RR hil hi
                    go_wp2
                    go_loopw [24] (fun v24 wq => ∃ i : Nat, v24 = .int .i64 (i : Int) ∧ i ≤ n1 ∧ wr = wq) (fun v24 _ => n1 - (intOf v24).toNat)
                    case atStart => exact ⟨0, rfl, by omega, rfl⟩
                    case round =>
                      obtain ⟨i, rfl, hi, hw⟩ := hrel
                      subst hw
                      by_cases hil : i < n1
                      · have x1 := QR.out.ct i (by omega)
                        have x2 := QR.out.cn i (by omega)
                        have hw1 := HW2.out i hil
                        have ag : TD2 i = false → (t : Int) - WN2 i ≤ 8 := fun e => MZ.out.age hil e
                        obtain ⟨wn, hwn⟩ : ∃ wn, wn = WN2 i := ⟨_, rfl⟩
                        obtain ⟨td, htd⟩ : ∃ td, td = TD2 i := ⟨_, rfl⟩
                        rw [← hwn] at x2 hw1 ag
                        rw [← htd] at x1 ag
                        obtain ⟨h0, h1⟩ := hw1
                        have zi : (i : Int) < (n1 : Int) := by omega
                        have z200i : (i : Int) < 200 := by omega
                        clear hwn htd
                        cases td with
                        | true =>
                          clear ag
                          go_wp2
                          go_roundw
                          case rel => exact ⟨i + 1, val_int (by omega), by omega, by first | rfl | trivial⟩
                          case measure => simp [intOf]; omega
                        | false =>
                          have ag := ag rfl
                          have w1 : IntKind.i64.wrap ((t : Int) - wn) = (t : Int) - wn := by simp [IntKind.wrap, IntKind.bits, IntKind.signed]; omega
                          have w2 : wrap64 ((t : Int) - wn) = (t : Int) - wn := by unfold wrap64; omega
                          have w3 : decide (8 < (t : Int) - wn) = false := decide_eq_false (by omega)
                          clear w1
                          go_wp2
                          go_roundw
                          case rel => exact ⟨i + 1, val_int (by omega), by omega, by first | rfl | trivial⟩
                          case measure => simp [intOf]; omega
                      · have ei : i = n1 := by omega
                        subst ei
                        go_wp2
                        go_roundw
                        case rel => exact ⟨t + 1, i, ρ4, L3, WH2, WN2, TD2, val_int (by omega), rfl, by omega, by omega, by omega, QR.out, by unfold Hid; rw [show ((t + 1 : Nat) : Int) - 1 = (t : Int) by omega]; exact MZ.out, fun q hq => by have := HW2.out q hq; omega⟩
                        case measure => simp [intOf]; omega
      · have et : t = ll + 10 := by omega
        subst et
        have PN := hide (Pending_any HQ.out.ca HM.out.ok)
        have e0 := HM.out.none (by omega)
        rw [e0] at PN
        have zz : ¬ ((ll + 10 : Nat) : Int) < (ll : Int) + 10 := by omega
        go_wp2_with fail
        refine PN.out.mono ?_
        rintro _ w8 ⟨pv, rfl, hp, b8⟩
        obtain ⟨pa, pc, rfl⟩ := hp.shape
        have FE := hide (HQ.out.later b8).bel
        simp only [List.length_nil]
        clear hp b8 PN
        go_wp2
        go_ret
        exact ⟨rfl, FE.out⟩
end Go.Proofs.Ytjaodjlgnclkhaa
