
/-
  Package frag: options that have a length are told one by one. Package frag: copied. Package frag: a head's copy that is its owner's; two calls of one region, in either order; pieces that are cut. Package frag: cut, in numbers and its worlds. Package frag: cut.
-/
import Derived.Test.YtgempelfamjabaaF26
import Derived.Sort.CutIn
import Derived.Deep.LoopGhost
namespace Go.Proofs.Ytgempelfamjabaa
open Go.RowKit Go.Shelf

attribute [local go_sem] Oper.semAt_some

section
variable {n : Nat} {ops : Array Oper} {Q : Exit → Act → World → Prop} {o : Oper} {rest : List Oper} {a : Act} {w w' : World}
/-- an operation of a list inside the wide fence: asked for; not asked for; a round -/
theorem listWV (d : Tmp) (v : Value) (hw : Region.wanted o (yielded ops a.tmps) = true) (hd : o.dst = some d) (hrun : (execOp a.eval o).run Try.prog w = .ok (.value v) w') (h : wpListIn Fence.wide n Try.prog ops Q rest (a.put (some d) v) w') : wpListIn Fence.wide n Try.prog ops Q (o :: rest) a w := by
  unfold wpListIn
  rw [if_pos hw]
  have e : Fence.wide.round = none := rfl
  simp only [Oper.wpIn, e, Oper.semAt_none, hrun, Oper.uponIn, hd]
  exact ⟨fun _ _ => trivial, h⟩
theorem listWT (hw : Region.wanted o (yielded ops a.tmps) = true) (hd : o.dst = none) (hrun : (execOp a.eval o).run Try.prog w = .ok .skip w') (h : wpListIn Fence.wide n Try.prog ops Q rest a w') : wpListIn Fence.wide n Try.prog ops Q (o :: rest) a w := by
  unfold wpListIn
  rw [if_pos hw]
  have e : Fence.wide.round = none := rfl
  simp only [Oper.wpIn, e, Oper.semAt_none, hrun, Oper.uponIn, hd, Act.put]
  exact ⟨fun _ _ => trivial, h⟩
theorem listWS (hw : Region.wanted o (yielded ops a.tmps) = false) (h : wpListIn Fence.wide n Try.prog ops Q rest (a.put o.dst undef) w) : wpListIn Fence.wide n Try.prog ops Q (o :: rest) a w := by
  unfold wpListIn
  rw [if_neg (by rw [hw]; decide)]
  exact ⟨fun _ _ => trivial, h⟩
theorem listWR (d : Tmp) (hw : Region.wanted o (yielded ops a.tmps) = true) (hd : o.dst = some d) {l : Nat} {fn : FuncId} {tmps : Array Value} {assign body : Code}
    (hrun : (execOp a.eval o).run Try.prog w = .ok (.round l fn tmps assign body) w') {R : Ending → World → Prop} (hR : RoundIn Fence.wide (n - 1) Try.prog l fn tmps assign body w' R)
    (h : ∀ e w2, R e w2 → ∃ v, e = .returned v ∧ wpListIn Fence.wide n Try.prog ops Q rest (a.put (some d) v) w2) : wpListIn Fence.wide n Try.prog ops Q (o :: rest) a w := by
  unfold wpListIn
  rw [if_pos hw]
  have e : Fence.wide.round = none := rfl
  simp only [Oper.wpIn, e, Oper.semAt_none, hrun, Oper.uponIn, hd]
  refine ⟨fun _ _ => trivial, fun h => by simp [Fence.wide] at h, RoundIn.mono hR fun e w2 he => ?_⟩
  obtain ⟨v, rfl, h2⟩ := h e w2 he
  exact h2
theorem exec_neqU {o : Oper} {w : World} {ev : Operand → Value} (x y : Operand) (t : TypeId) (a b : Int) (q : Bool) (ho : o.op = .binOp .neq 5 x y t) (hx : ev x = .int .u8 a) (hy : ev y = .int .u8 b) (hq : (a != b) = q) : (execOp ev o).run Try.prog w = .ok (.value (.bool q)) w := by
  subst hq
  unfold execOp
  simp [ho, hx, hy, go_sem]
theorem exec_yield1 {o : Oper} {w w' : World} {ev : Operand → Value} (f x : Operand) (t : TypeId) (l : Nat) (u : Value) (nx : Next) (ho : o.op = .call { callee := .value f, args := #[x], argTypes := #[t] }) (hf : ev f = .func (.yield l) #[] #[]) (hx : ev x = u) (hr : (Instr.yield l #[u]).run Try.prog w = .ok nx w') : (execOp ev o).run Try.prog w = .ok nx w' := by
  unfold execOp
  simp [ho, hf, hx, go_sem, resolve, invoke, hr]
end
/-- how many bytes belong to the option that they begin with; 0: none begins there -/
def szC (b : List Int) : Nat := if b[0]?.getD 0 = 0 then 0 else if b[0]?.getD 0 = 1 then 1 else if b.length < 2 then 0 else if b[1]?.getD 0 < 2 ∨ (b.length : Int) < b[1]?.getD 0 then 0 else (b[1]?.getD 0).toNat
theorem szC_le (b : List Int) (h : 0 < b.length) : szC b ≤ b.length := by
  unfold szC
  split
  · omega
  · split
    · omega
    · split
      · omega
      · split
        · omega
        · omega
/-- the options that all pieces have -/
def cpO (b : List Int) : List Int :=
  if h : b.length = 0 then [] else if _hz : szC b = 0 then [] else (if (128 : Int) ≤ b[0]?.getD 0 then b.take (szC b) else []) ++ cpO (b.drop (szC b))
termination_by b.length
decreasing_by
  rw [List.length_drop]
  omega
theorem cpO_nil : cpO [] = [] := by rw [cpO]; simp
theorem cpO_end (b : List Int) (h : szC b = 0) : cpO b = [] := by
  rw [cpO]
  by_cases h0 : b.length = 0
  · rw [dif_pos h0]
  · rw [dif_neg h0, dif_pos h]
theorem cpO_step (b : List Int) (h : 0 < b.length) (hz : szC b ≠ 0) : cpO b = (if (128 : Int) ≤ b[0]?.getD 0 then b.take (szC b) else []) ++ cpO (b.drop (szC b)) := by
  rw [cpO, dif_neg (by omega), dif_neg hz]
theorem cpO_le : ∀ (n : Nat) (b : List Int), b.length ≤ n → (cpO b).length ≤ b.length := by
  intro n
  induction n with
  | zero =>
    intro b hb
    have : b = [] := List.eq_nil_of_length_eq_zero (by omega)
    subst this
    rw [cpO_nil]
    exact Nat.le_refl _
  | succ n ih =>
    intro b hb
    by_cases h0 : b.length = 0
    · have : b = [] := List.eq_nil_of_length_eq_zero h0
      subst this
      rw [cpO_nil]
      exact Nat.le_refl _
    by_cases hz : szC b = 0
    · rw [cpO_end b hz]; exact Nat.zero_le _
    rw [cpO_step b (by omega) hz, List.length_append]
    have h1 := szC_le b (by omega)
    have h2 := ih (b.drop (szC b)) (by rw [List.length_drop]; omega)
    rw [List.length_drop] at h2
    split
    · rw [List.length_take]; omega
    · simp; omega
set_option maxHeartbeats 1000000 in
theorem sizeC_any (g off cap : Nat) (bs : List Int) (w : World) (hc : ∀ j, j < bs.length → w.cell? ⟨g, off + j, none⟩ = some (.int .u8 (bs[j]?.getD 0))) (hl : (bs.length : Int) ≤ 4611686018427387904) (h0 : 0 < bs.length) (hB : Bytes bs) :
    Calls Try.prog 55 #[.slice (some ⟨g, off, none⟩) bs.length cap] w fun e w' => e = .returned (.int .i64 (szC bs)) ∧ w' = w := by
  have x0 := hc 0 h0
  obtain ⟨X0, X1⟩ := hB.getD 0
  have SZ : Hid (szC bs = if bs[0]?.getD 0 = 0 then 0 else if bs[0]?.getD 0 = 1 then 1 else if bs.length < 2 then 0 else if bs[1]?.getD 0 < 2 ∨ (bs.length : Int) < bs[1]?.getD 0 then 0 else (bs[1]?.getD 0).toNat) := rfl
  obtain ⟨z, hz⟩ : ∃ z, z = szC bs := ⟨_, rfl⟩
  rw [← hz] at SZ ⊢
  have x1 : 2 ≤ bs.length → w.cell? ⟨g, off + 1, none⟩ = some (.int .u8 (bs[1]?.getD 0)) := fun h => hc 1 (by omega)
  obtain ⟨Y0, Y1⟩ := hB.getD 1
  generalize bs[0]?.getD 0 = x at *
  generalize bs[1]?.getD 0 = y at *
  generalize bs.length = n at *
  simp only [Nat.add_zero] at x0
  have zn : (0 : Int) < (n : Int) := by omega
  have HX1 := hide x1
  clear hz hc x1 hB
  go_enter Try.func55, Try.ntmps55
  by_cases e0 : x = 0
  · have q0 : (x == 0) = true := by rw [e0]; rfl
    have E : Hid (z = 0) := by unfold Hid; rw [SZ.out, if_pos e0]
    clear e0
    go_wp2
    go_ret
    exact ⟨ret_int (by rw [E.out]; rfl), rfl⟩
  · have q0 : (x == 0) = false := by simpa using e0
    by_cases e1 : x = 1
    · have q1 : (x == 1) = true := by rw [e1]; rfl
      have E : Hid (z = 1) := by unfold Hid; rw [SZ.out, if_neg e0, if_pos e1]
      clear e0 e1
      go_wp2
      go_ret
      exact ⟨ret_int (by rw [E.out]; rfl), rfl⟩
    · have q1 : (x == 1) = false := by simpa using e1
      by_cases e2 : n < 2
      · have zn2 : (n : Int) < 2 := by omega
        have E : Hid (z = 0) := by unfold Hid; rw [SZ.out, if_neg e0, if_neg e1, if_pos e2]
        clear e0 e1
        go_wp2
        go_ret
        exact ⟨ret_int (by rw [E.out]; rfl), rfl⟩
      · have zn2 : ¬ (n : Int) < 2 := by omega
        have zn3 : (1 : Int) < (n : Int) := by omega
        have y1 := HX1.out (by omega)
        by_cases e3 : y < 2
        · have E : Hid (z = 0) := by unfold Hid; rw [SZ.out, if_neg e0, if_neg e1, if_neg e2, if_pos (.inl e3)]
          clear e0 e1
          go_wp2
          go_ret
          exact ⟨ret_int (by rw [E.out]; rfl), rfl⟩
        · by_cases e4 : (n : Int) < y
          · have E : Hid (z = 0) := by unfold Hid; rw [SZ.out, if_neg e0, if_neg e1, if_neg e2, if_pos (.inr e4)]
            clear e0 e1
            go_wp2
            go_ret
            exact ⟨ret_int (by rw [E.out]; rfl), rfl⟩
          · have E : Hid (z = y.toNat) := by unfold Hid; rw [SZ.out, if_neg e0, if_neg e1, if_neg e2, if_neg (by omega)]
            clear e0 e1
            go_wp2
            go_ret
            exact ⟨ret_int (by rw [E.out]; omega), rfl⟩
theorem sized_in (n : Nat) (a : Option Addr) (len cap : Nat) (w : World) :
    CallsIn Fence.wide n Try.prog 52 #[.slice a len cap] w fun e w' => e = .returned (.func (.func 54) #[] #[.pointer (some ⟨w.heap.size, 0, none⟩)]) ∧ w' = w.alloc (.cells #[.slice a len cap] 24) := by
  refine callsIn_of_wp Try.func52 rfl trivial ?_ rfl
  simp only [Try.ntmps52, List.size_toArray, List.length_cons, List.length_nil, Nat.reduceAdd, Nat.reduceSub, Array.replicate_succ, Array.replicate_zero, List.push_toArray, List.append_toArray, List.nil_append, List.cons_append]
  gi_wp2
  go_ret
  exact ⟨rfl, rfl⟩
set_option maxRecDepth 100000 in
set_option maxHeartbeats 4000000 in
theorem sized_tells (n : Nat) (hn : 1 ≤ n) (Bc g off N C : Nat) (a0 : Option Addr) (bs : List Int) (hN : bs.length = N) (hNC : N ≤ C) (ha : 0 < N → a0 = some ⟨g, off, none⟩) (hB : Bytes bs) (hlb : (N : Int) ≤ 1000) (I : Nat → World → Prop)
    (hI : ∀ s W, I s W → W.cell? ⟨Bc, 0, none⟩ = some (.slice a0 N C) ∧ ∀ j, j < N → W.cell? ⟨g, off + j, none⟩ = some (.int .u8 (bs[j]?.getD 0))) (hF : ∀ k W, I k W → k < N → bs[k]?.getD 0 = 1 → I (k + 1) W) :
    Tells n 54 #[.pointer (some ⟨Bc, 0, none⟩)] I (fun s args => s < N ∧ szC (bs.drop s) ≠ 0 ∧ ∃ c, args = #[.slice (some ⟨g, off + s, none⟩) (szC (bs.drop s)) c] ∧ szC (bs.drop s) ≤ c) (fun s _ s' => s' = s + szC (bs.drop s)) (fun s => s = N ∨ szC (bs.drop s) = 0) 0 := by
  intro lp B Bx W hBa hXa hBd hXd hY h0 hB0
  obtain ⟨q1, q2⟩ := hI _ W h0
  have KEY := hide hI
  have HY := hide hY
  have HA := hide ha
  have I0 := hide h0
  have B0 := hide hB0
  have HN := hide hN
  have HBY := hide hB
  have HFL := hide hF
  clear hI hY h0 hB0 hBa hXa hBd hXd ha q2 hN hB hF
  refine callsIn_of_wp Try.func54 rfl trivial ?_ rfl
  simp only [Try.ntmps54, List.size_toArray, List.length_cons, List.length_nil, Nat.reduceAdd, Nat.reduceSub, Array.replicate_succ, Array.replicate_zero, List.push_toArray, List.append_toArray, List.nil_append, List.cons_append]
  gi_wp2
  clear q1
  gi_loopw [3] (fun va wr => ∃ (k m c : Nat) (ar : Option Addr), va = .slice ar m c ∧ Hid (k + m = N) ∧ m ≤ c ∧ c ≤ C ∧ Hid (0 < m → ar = some ⟨g, off + k, none⟩) ∧ Hid (I k wr) ∧ Hid (B wr)) (fun va _ => match va with | .slice _ m _ => m | _ => 0)
  case atStart => exact ⟨0, N, C, a0, rfl, Nat.zero_add _, hNC, Nat.le_refl _, fun h => by rw [HA.out h, Nat.add_zero], I0.out, B0.out⟩
  case round =>
    obtain ⟨k, m, c, ar, rfl, hkm, hmc, hcC, har, hIm, hBm⟩ := hrel
    by_cases h0 : 0 < m
    · have ear := har.out h0
      subst ear
      have zm : (0 : Int) < (m : Int) := by omega
      have hl : (bs.drop k).length = m := by rw [List.length_drop]; have := HN.out; have := hkm.out; omega
      obtain ⟨q1, q2⟩ := KEY.out _ wr hIm.out
      have hcs : ∀ j, j < (bs.drop k).length → wr.cell? ⟨g, off + k + j, none⟩ = some (.int .u8 ((bs.drop k)[j]?.getD 0)) := fun j hj => by
        rw [List.getElem?_drop, Nat.add_assoc]
        exact q2 (k + j) (by have := hkm.out; omega)
      have SZ := sizeC_any g (off + k) c (bs.drop k) wr hcs (by have := hkm.out; omega) (by omega) (HBY.out.drop k)
      have zle := szC_le (bs.drop k) (by omega)
      rw [hl] at SZ zle
      have xk : wr.cell? ⟨g, off + k, none⟩ = some (.int .u8 (bs[k]?.getD 0)) := q2 k (by have := hkm.out; omega)
      obtain ⟨z, hz⟩ : ∃ z, z = szC (bs.drop k) := ⟨_, rfl⟩
      obtain ⟨x, hx⟩ : ∃ x, x = bs[k]?.getD 0 := ⟨_, rfl⟩
      have Z1 : Hid (x = 1 → z = 1) := fun h => by
        rw [hz]
        unfold szC
        have : (bs.drop k)[0]?.getD 0 = 1 := by rw [List.getElem?_drop, Nat.add_zero, ← hx, h]
        rw [this, if_neg (by decide), if_pos rfl]
      rw [← hz] at SZ zle
      rw [← hx] at xk
      have HZ := hide hz
      have HX := hide hx
      have HSZ := hide SZ
      clear hz SZ hcs q1 q2 hl hx
      gi_wp2_with fail
      refine ⟨trivial, ?_⟩
      refine (callsIn_wide.2 HSZ.out).mono ?_
      rintro _ w2 ⟨rfl, e2⟩
      rw [e2]
      clear e2
      have HXK := hide xk
      clear HSZ xk
      by_cases hz0 : z = 0
      · subst hz0
        gi_upto_region 3 with fail
        refine wpIn_region_lit ?_
        refine listWV 11 (.int .i64 ((0 : Nat) : Int)) (by rfl) rfl (exec_move _ _ rfl rfl) ?_
        simp only [Act.put, List.setIfInBounds_toArray, List.set_cons_zero, List.set_cons_succ]
        refine listWV 12 (.bool true) (by rfl) rfl (exec_eqi _ _ _ _ _ _ rfl rfl rfl rfl) ?_
        simp only [Act.put, List.setIfInBounds_toArray, List.set_cons_zero, List.set_cons_succ]
        refine listWV 13 (.bool true) (by rfl) rfl (exec_move _ _ rfl rfl) ?_
        simp only [Act.put, List.setIfInBounds_toArray, List.set_cons_zero, List.set_cons_succ]
        refine listWS (by rfl) ?_
        simp only [Act.put, List.setIfInBounds_toArray, List.set_cons_zero, List.set_cons_succ]
        refine listWS (by rfl) ?_
        simp only [Act.put, List.setIfInBounds_toArray, List.set_cons_zero, List.set_cons_succ]
        refine listWS (by rfl) ?_
        simp only [Act.put, List.setIfInBounds_toArray, List.set_cons_zero, List.set_cons_succ]
        refine listWS (by rfl) ?_
        simp only [Act.put, List.setIfInBounds_toArray, List.set_cons_zero, List.set_cons_succ]
        refine listWS (by rfl) ?_
        simp only [Act.put, List.setIfInBounds_toArray, List.set_cons_zero, List.set_cons_succ]
        refine listWS (by rfl) ?_
        simp only [Act.put, List.setIfInBounds_toArray, List.set_cons_zero, List.set_cons_succ]
        refine listWS (by rfl) ?_
        simp only [Act.put, List.setIfInBounds_toArray, List.set_cons_zero, List.set_cons_succ]
        refine listWS (by rfl) ?_
        simp only [Act.put, List.setIfInBounds_toArray, List.set_cons_zero, List.set_cons_succ]
        refine listWS (by rfl) ?_
        simp only [Act.put, List.setIfInBounds_toArray, List.set_cons_zero, List.set_cons_succ]
        refine listWS (by rfl) ?_
        simp only [Act.put, List.setIfInBounds_toArray, List.set_cons_zero, List.set_cons_succ]
        refine listWS (by rfl) ?_
        simp only [Act.put, List.setIfInBounds_toArray, List.set_cons_zero, List.set_cons_succ]
        refine listWS (by rfl) ?_
        simp only [Act.put, List.setIfInBounds_toArray, List.set_cons_zero, List.set_cons_succ]
        refine listWV 26 (.bool true) (by rfl) rfl (exec_pick _ _ _ true _ rfl rfl rfl) ?_
        simp only [Act.put, List.setIfInBounds_toArray, List.set_cons_zero, List.set_cons_succ]
        gi_wp2
        show bodyPost Try.prog Try.f54 _ Exit.ret _ _
        refine bodyPost_ret (v := .tuple #[]) (results_none rfl _ _ _) rfl ?_
        exact ⟨⟨_, rfl⟩, .inl ⟨k, .inr HZ.out.symm, hIm.out, hBm.out⟩⟩
      have q0 : ((z : Int) == 0) = false := by simpa using hz0
      have zz : (z : Int) ≤ (m : Int) := by omega
      have zc : (z : Int) ≤ (c : Int) := by omega
      by_cases hx1 : x = 1
      · have q1 : (x != 1) = false := by simp [hx1]
        have hI1 := HFL.out k _ hIm.out (by have := hkm.out; omega) (by rw [← HX.out]; exact hx1)
        have ez := Z1.out hx1
        subst ez
        have HI1 := hide hI1
        clear hI1
        gi_upto_region 3 with fail
        refine wpIn_region_lit ?_
        refine listWV 11 (.int .i64 ((1 : Nat) : Int)) (by rfl) rfl (exec_move _ _ rfl rfl) ?_
        simp only [Act.put, List.setIfInBounds_toArray, List.set_cons_zero, List.set_cons_succ]
        refine listWV 12 (.bool false) (by rfl) rfl (exec_eqi _ _ _ _ _ _ rfl rfl rfl rfl) ?_
        simp only [Act.put, List.setIfInBounds_toArray, List.set_cons_zero, List.set_cons_succ]
        refine listWV 13 (.bool false) (by rfl) rfl (exec_move _ _ rfl rfl) ?_
        simp only [Act.put, List.setIfInBounds_toArray, List.set_cons_zero, List.set_cons_succ]
        refine listWV 14 (.slice (some ⟨g, off + k, none⟩) m c) (by rfl) rfl (exec_move _ _ rfl rfl) ?_
        simp only [Act.put, List.setIfInBounds_toArray, List.set_cons_zero, List.set_cons_succ]
        refine listWV 15 (.pointer (some ⟨g, off + k, none⟩)) (by rfl) rfl (exec_ixU _ _ g (off + k) m c 0 rfl rfl rfl h0) ?_
        simp only [Act.put, List.setIfInBounds_toArray, List.set_cons_zero, List.set_cons_succ]
        refine listWV 16 (.int .u8 x) (by rfl) rfl (exec_load1 5 oneU _ rfl g (off + k) rfl _ HXK.out) ?_
        simp only [Act.put, List.setIfInBounds_toArray, List.set_cons_zero, List.set_cons_succ]
        refine listWV 17 (.bool false) (by rfl) rfl (exec_neqU _ _ _ _ _ _ rfl rfl rfl q1) ?_
        simp only [Act.put, List.setIfInBounds_toArray, List.set_cons_zero, List.set_cons_succ]
        refine listWV 18 (.bool false) (by rfl) rfl (exec_move _ _ rfl rfl) ?_
        simp only [Act.put, List.setIfInBounds_toArray, List.set_cons_zero, List.set_cons_succ]
        refine listWS (by rfl) ?_
        simp only [Act.put, List.setIfInBounds_toArray, List.set_cons_zero, List.set_cons_succ]
        refine listWS (by rfl) ?_
        simp only [Act.put, List.setIfInBounds_toArray, List.set_cons_zero, List.set_cons_succ]
        refine listWS (by rfl) ?_
        simp only [Act.put, List.setIfInBounds_toArray, List.set_cons_zero, List.set_cons_succ]
        refine listWS (by rfl) ?_
        simp only [Act.put, List.setIfInBounds_toArray, List.set_cons_zero, List.set_cons_succ]
        refine listWS (by rfl) ?_
        simp only [Act.put, List.setIfInBounds_toArray, List.set_cons_zero, List.set_cons_succ]
        refine listWS (by rfl) ?_
        simp only [Act.put, List.setIfInBounds_toArray, List.set_cons_zero, List.set_cons_succ]
        refine listWV 25 (.bool false) (by rfl) rfl (exec_pick _ _ _ false _ rfl rfl rfl) ?_
        simp only [Act.put, List.setIfInBounds_toArray, List.set_cons_zero, List.set_cons_succ]
        refine listWV 26 (.bool false) (by rfl) rfl (exec_pick _ _ _ false _ rfl rfl rfl) ?_
        simp only [Act.put, List.setIfInBounds_toArray, List.set_cons_zero, List.set_cons_succ]
        gi_wp2
        have hkm' := hkm.out
        refine ⟨⟨k + 1, m - 1, c - 1, _, rfl, (by show k + 1 + (m - 1) = N; omega), by omega, by omega, fun h => ?_, HI1.out, hBm.out⟩, ?_⟩
        · rw [if_neg (by omega), Nat.add_assoc]
        · show m - 1 < m
          omega
      · have q1 : (x != 1) = true := by simpa using hx1
        obtain ⟨fn, tmps, assign, body, hy, hR⟩ := HY.out k wr #[.slice (some ⟨g, off + k, none⟩) z c] hIm.out hBm.out ⟨by have := hkm.out; omega, by rw [← HZ.out]; exact hz0, c, by rw [HZ.out], by rw [← HZ.out]; omega⟩
        have HRd := hide hR
        have HYR := hide hy
        clear hR hy
        gi_upto_region 3 with fail
        refine wpIn_region_lit ?_
        refine listWV 11 (.int .i64 (z : Int)) (by rfl) rfl (exec_move _ _ rfl rfl) ?_
        simp only [Act.put, List.setIfInBounds_toArray, List.set_cons_zero, List.set_cons_succ]
        refine listWV 12 (.bool false) (by rfl) rfl (exec_eqi _ _ _ _ _ _ rfl rfl rfl q0) ?_
        simp only [Act.put, List.setIfInBounds_toArray, List.set_cons_zero, List.set_cons_succ]
        refine listWV 13 (.bool false) (by rfl) rfl (exec_move _ _ rfl rfl) ?_
        simp only [Act.put, List.setIfInBounds_toArray, List.set_cons_zero, List.set_cons_succ]
        refine listWV 14 (.slice (some ⟨g, off + k, none⟩) m c) (by rfl) rfl (exec_move _ _ rfl rfl) ?_
        simp only [Act.put, List.setIfInBounds_toArray, List.set_cons_zero, List.set_cons_succ]
        refine listWV 15 (.pointer (some ⟨g, off + k, none⟩)) (by rfl) rfl (exec_ixU _ _ g (off + k) m c 0 rfl rfl rfl h0) ?_
        simp only [Act.put, List.setIfInBounds_toArray, List.set_cons_zero, List.set_cons_succ]
        refine listWV 16 (.int .u8 x) (by rfl) rfl (exec_load1 5 oneU _ rfl g (off + k) rfl _ HXK.out) ?_
        simp only [Act.put, List.setIfInBounds_toArray, List.set_cons_zero, List.set_cons_succ]
        refine listWV 17 (.bool true) (by rfl) rfl (exec_neqU _ _ _ _ _ _ rfl rfl rfl q1) ?_
        simp only [Act.put, List.setIfInBounds_toArray, List.set_cons_zero, List.set_cons_succ]
        refine listWV 18 (.bool true) (by rfl) rfl (exec_move _ _ rfl rfl) ?_
        simp only [Act.put, List.setIfInBounds_toArray, List.set_cons_zero, List.set_cons_succ]
        refine listWV 19 (.func (.yield lp) #[] #[]) (by rfl) rfl (exec_move _ _ rfl rfl) ?_
        simp only [Act.put, List.setIfInBounds_toArray, List.set_cons_zero, List.set_cons_succ]
        refine listWV 20 (.slice (some ⟨g, off + k, none⟩) m c) (by rfl) rfl (exec_move _ _ rfl rfl) ?_
        simp only [Act.put, List.setIfInBounds_toArray, List.set_cons_zero, List.set_cons_succ]
        refine listWV 21 (.int .i64 (z : Int)) (by rfl) rfl (exec_move _ _ rfl rfl) ?_
        simp only [Act.put, List.setIfInBounds_toArray, List.set_cons_zero, List.set_cons_succ]
        refine listWV 22 (.slice (some ⟨g, off + k, none⟩) z c) (by rfl) rfl (exec_slU _ _ _ m c z rfl rfl rfl (by omega)) ?_
        simp only [Act.put, List.setIfInBounds_toArray, List.set_cons_zero, List.set_cons_succ]
        refine listWR 23 (by rfl) rfl (exec_yield1 _ _ _ lp _ _ rfl rfl rfl HYR.out) HRd.out ?_
        rintro e W4 (⟨rfl, s', hs', hI4, hB4⟩ | ⟨rfl, hX⟩)
        · refine ⟨_, rfl, ?_⟩
          simp only [Act.put, List.setIfInBounds_toArray, List.set_cons_zero, List.set_cons_succ]
          have hs' : s' = k + szC (bs.drop k) := hs'
          rw [← HZ.out] at hs'
          subst hs'
          have HI4 := hide hI4
          have HB4 := hide hB4
          clear hI4 hB4 HRd HYR
          refine listWV 24 (.bool false) (by rfl) rfl (exec_not _ _ true rfl rfl) ?_
          simp only [Act.put, List.setIfInBounds_toArray, List.set_cons_zero, List.set_cons_succ]
          refine listWV 25 (.bool false) (by rfl) rfl (exec_pick _ _ _ true _ rfl rfl rfl) ?_
          simp only [Act.put, List.setIfInBounds_toArray, List.set_cons_zero, List.set_cons_succ]
          refine listWV 26 (.bool false) (by rfl) rfl (exec_pick _ _ _ false _ rfl rfl rfl) ?_
          simp only [Act.put, List.setIfInBounds_toArray, List.set_cons_zero, List.set_cons_succ]
          gi_wp2
          have hkm' := hkm.out
          refine ⟨⟨k + z, m - z, c - z, _, rfl, (by show k + z + (m - z) = N; omega), by omega, by omega, fun h => ?_, HI4.out, HB4.out⟩, ?_⟩
          · rw [if_neg (by omega), Nat.add_assoc]
          · show m - z < m
            omega
        · refine ⟨_, rfl, ?_⟩
          simp only [Act.put, List.setIfInBounds_toArray, List.set_cons_zero, List.set_cons_succ]
          have HXX := hide hX
          clear hX HRd HYR
          refine listWV 24 (.bool true) (by rfl) rfl (exec_not _ _ false rfl rfl) ?_
          simp only [Act.put, List.setIfInBounds_toArray, List.set_cons_zero, List.set_cons_succ]
          refine listWV 25 (.bool true) (by rfl) rfl (exec_pick _ _ _ true _ rfl rfl rfl) ?_
          simp only [Act.put, List.setIfInBounds_toArray, List.set_cons_zero, List.set_cons_succ]
          refine listWV 26 (.bool true) (by rfl) rfl (exec_pick _ _ _ false _ rfl rfl rfl) ?_
          simp only [Act.put, List.setIfInBounds_toArray, List.set_cons_zero, List.set_cons_succ]
          gi_wp2
          show bodyPost Try.prog Try.f54 _ Exit.ret _ _
          refine bodyPost_ret (v := .tuple #[]) (results_none rfl _ _ _) rfl ?_
          exact ⟨⟨_, rfl⟩, .inr HXX.out⟩
    · obtain rfl : m = 0 := by omega
      gi_wp2
      go_end0
      exact ⟨⟨_, rfl⟩, .inl ⟨_, .inl (by have := hkm.out; show k = N; omega), hIm.out, hBm.out⟩⟩

attribute [local go_sem] Oper.semAt_some

def padO (l : List Int) : List Int := l ++ List.replicate ((4 - l.length % 4) % 4) 1
theorem padO_step (l : List Int) (h : l.length % 4 ≠ 0) : padO (l ++ [1]) = padO l := by
  unfold padO
  rw [List.length_append, List.length_singleton, List.append_assoc]
  congr 1
  rw [show (4 - l.length % 4) % 4 = (4 - (l.length + 1) % 4) % 4 + 1 by omega, List.replicate_succ]
  rfl
theorem padO_end (l : List Int) (h : l.length % 4 = 0) : padO l = l := by
  unfold padO
  rw [h]
  simp
theorem padO_len (l : List Int) : (padO l).length ≤ l.length + 3 := by
  unfold padO
  rw [List.length_append, List.length_replicate]
  omega
theorem padO_ge (l : List Int) : l.length ≤ (padO l).length := by
  unfold padO
  rw [List.length_append]
  omega
/-- between two rounds: the cell at s holds what was copied so far -/
def CpI (w1 : World) (s : Nat) (bs : List Int) (k : Nat) (W : World) : Prop :=
  But (Only s) w1 W ∧ W.frozen? ⟨s, 0, none⟩ = false ∧ ∃ v A, W.cell? ⟨s, 0, none⟩ = some v ∧ RowB (fun g => w1.heap.size ≤ g ∧ Cel W g) W v A ∧ A ++ cpO (bs.drop k) = cpO bs
theorem CpI.keep {w1 : World} {s : Nat} {bs : List Int} {k : Nat} {W W' : World} {K : Nat → Prop} (h : CpI w1 s bs k W) (hs : s < w1.heap.size) (hb : But K W W') (hk : ∀ g, K g → w1.heap.size ≤ g ∧ ¬ Cel W g) : CpI w1 s bs k W' := by
  obtain ⟨h1, h2, v, A, h3, h4, h5⟩ := h
  have zs : s < W.heap.size := World.block_lt_of_cell? W _ h3
  have ks : ¬ K s := fun e => by have := (hk s e).1; omega
  refine ⟨h1.trans' hb (fun g hg e => by have := (hk g e).1; omega), (hb.frozen (p := ⟨s, 0, none⟩) zs ks).trans h2, v, A, (hb.cell (p := ⟨s, 0, none⟩) zs ks).trans h3, ?_, h5⟩
  exact (h4.but hb (fun g e e2 => (hk g e2).2 e.2)).own (fun g hg e => ⟨e.1, e.2.but hb (fun e2 => (hk g e2).2 e.2)⟩)
theorem RowB.cel {O : Nat → Prop} {W : World} {v : Value} {L : List Int} (h : RowB O W v L) (hl : 0 < L.length) : RowB (fun g => O g ∧ Cel W g) W v L := RowF.cel h hl (by omega)
theorem exec_geU {o : Oper} {w : World} {ev : Operand → Value} (x y : Operand) (t : TypeId) (a b : Int) (r : Bool) (ho : o.op = .binOp .geq 5 x y t) (hx : ev x = .int .u8 a) (hy : ev y = .int .u8 b) (hr : decide (b ≤ a) = r) : (execOp ev o).run Try.prog w = .ok (.value (.bool r)) w := by
  subst hr
  unfold execOp
  simp [ho, hx, hy, go_sem]
theorem cn_lit (W : World) (x : Int) : CB (fun _ => True) (W.alloc (.cells #[.int .u8 x] 5)) (.slice (some ⟨W.heap.size, 0, none⟩) 1 1) [x] := by
  refine ⟨_, 1, rfl, Nat.le_refl _, (fun e => by cases e), fun _ => ⟨W.heap.size, 0, rfl, trivial, by simp, fun k y hy => ?_⟩⟩
  have hk : k = 0 := by have := (List.getElem?_eq_some_iff.1 hy).1; simp at this; omega
  subst hk
  cases hy
  exact CellsAt.new W [_] _ 0 _ rfl
theorem exec_bsU {o : Oper} {w : World} {ev : Operand → Value} (x : Operand) (v : Int) (ho : o.op = .buildSlice 24 1 #[(0, x)]) (hx : ev x = .int .u8 v) : (execOp ev o).run Try.prog w = .ok (.value (.slice (some ⟨w.heap.size, 0, none⟩) 1 1)) (w.alloc (.cells #[.int .u8 v] 5)) := by
  unfold execOp
  simp [ho, hx, go_sem]
/-- between two rounds of the padding -/
structure PdI (w1 : World) (s : Nat) (bs : List Int) (D : Nat) (v : Value) (W : World) : Prop where
  b : But (Only s) w1 W
  f : W.frozen? ⟨s, 0, none⟩ = false
  x : ∃ A, W.cell? ⟨s, 0, none⟩ = some v ∧ RowB (fun g => w1.heap.size ≤ g ∧ Cel W g) W v A ∧ padO A = padO (cpO bs) ∧ (A.length ≤ 43 ∧ (cpO bs).length ≤ 40) ∧ W.heap[D]? = some (.deferred (some []))
def mu3 (s : Nat) (W : World) : Nat := match W.cell? ⟨s, 0, none⟩ with | some (.slice _ n _) => (4 - n % 4) % 4 | _ => 0
theorem PdI.step {w1 W : World} {s D : Nat} {bs : List Int} {va : Option Addr} {q vc : Nat} (h : PdI w1 s bs D (.slice va q vc) W) (hs : s < w1.heap.size) (hq : q % 4 ≠ 0) :
    ∃ (a' : Option Addr) (c' : Nat) (wE wF wG : World), W.cell? ⟨s, 0, none⟩ = some (.slice va q vc) ∧ wE = W.alloc (.cells #[.int .u8 1] 5) ∧ (Builtin.append_ #[24, 24] 24 #[.slice va q vc, .slice (some ⟨W.heap.size, 0, none⟩) 1 1]).run Try.prog wE = .ok (.slice a' (q + 1) c') wF ∧ wF.cell? ⟨s, 0, none⟩ = some (.slice va q vc) ∧ wF.frozen? ⟨s, 0, none⟩ = false ∧ wG = wF.setCell ⟨s, 0, none⟩ (.slice a' (q + 1) c') ∧ PdI w1 s bs D (.slice a' (q + 1) c') wG := by
  obtain ⟨hb, hf, A, hc, hr, hp, hl, hD⟩ := h
  obtain ⟨_, _, e⟩ := hr.shape
  simp only [Value.slice.injEq] at e
  obtain ⟨-, eq, -⟩ := e
  subst eq
  have hls : s < W.heap.size := World.block_lt_of_cell? W _ hc
  obtain ⟨wE, hwE⟩ : ∃ wE, wE = W.alloc (.cells #[.int .u8 1] 5) := ⟨_, rfl⟩
  have bE : Below W.heap.size W wE := by rw [hwE]; exact later_alloc _ _
  have zE : wE.heap.size = W.heap.size + 1 := by rw [hwE, World.size_alloc]
  have hr' := (RowB.own (O' := fun g => (w1.heap.size ≤ g ∧ Cel W g) ∧ g < W.heap.size) hr (fun g hg e => ⟨e, hg⟩)).later bE
  obtain ⟨a', c', wF, hrun, rF, hbF⟩ := hr'.more (ys := [1]) (by rw [hwE]; exact cn_lit W 1) (by simp; omega)
  have ns : ¬ ((w1.heap.size ≤ s ∧ Cel W s) ∧ s < W.heap.size) := fun e => by have := e.1.1; omega
  have cvF := (hbF.cell (p := ⟨s, 0, none⟩) (by show s < _; omega) ns).trans ((bE.cell (p := ⟨s, 0, none⟩) hls).trans hc)
  have fvF := (hbF.frozen (p := ⟨s, 0, none⟩) (by show s < _; omega) ns).trans ((bE.frozen (p := ⟨s, 0, none⟩) hls).trans hf)
  obtain ⟨wG, hwG⟩ : ∃ z', z' = wF.setCell ⟨s, 0, none⟩ (.slice a' (A.length + 1) c') := ⟨_, rfl⟩
  have nG : But (Only s) wF wG := by rw [hwG]; exact (But.refl (Only s) wF).setCell (p := ⟨s, 0, none⟩) (.inr rfl) _
  have lD := (Array.getElem?_eq_some_iff.1 hD).1
  refine ⟨a', c', wE, wF, wG, hc, hwE, hrun, cvF, fvF, hwG, ?_, by rw [hwG, World.frozen?_setCell]; exact fvF, A ++ [1], by rw [hwG]; exact World.cell?_setCell_same _ _ _ cvF, ?_, ?_, ?_, ?_⟩
  · exact ((hb.trans' (below_but bE) (fun _ _ e => e.elim)).trans' hbF (fun g hg e => by have := e.1.1; omega)).trans nG
  · have zF := hbF.size
    have r1 := (rF.own (O' := fun q => w1.heap.size ≤ q) (fun q hq e => by
      rcases e with e | e
      · exact e.1.1
      · have := hb.size; omega)).but nG (fun q e e2 => by have e2 : q = s := e2; omega)
    exact r1.cel (by rw [List.length_append, List.length_singleton]; omega)
  · rw [padO_step A hq]; exact hp
  · have h1 := padO_len (cpO bs)
    have h2 := congrArg List.length hp
    have h3 := congrArg List.length (padO_step A hq)
    have h4 := padO_ge (A ++ [1])
    rw [List.length_append, List.length_singleton] at h4 ⊢
    exact ⟨by omega, hl.2⟩
  · have n1 : ¬ Cel W D := fun e => e.ne hD rfl rfl
    have n2 : D ≠ s := fun e => (cells_of_cell hc).elim (fun o ho => by rw [e] at hD; rw [show (⟨s, 0, none⟩ : Addr).block = s from rfl, hD] at ho; have h1 := ho.1; cases h1; cases ho.2)
    exact (nG.block D (by have := hbF.size; omega) n2).trans ((hbF.block D (by omega) (fun e => n1 e.1.2)).trans ((bE.block D lD).trans hD))
set_option maxRecDepth 100000 in
set_option maxHeartbeats 4000000 in
theorem copied_in (n : Nat) (hn : 3 ≤ n) {P : Nat → Prop} {w : World} {v0 : Value} {bs : List Int} (hb : CB P w v0 bs) (hB : Bytes bs) (hlb : bs.length ≤ 40) :
    CallsIn Fence.wide n Try.prog 46 #[v0] w fun e w' => ∃ v, e = .returned v ∧ RowB (fun g => w.heap.size ≤ g) w' v (padO (cpO bs)) ∧ Below w.heap.size w w' := by
  have h1 : 1 ≤ n := by omega
  obtain ⟨a0, C, rfl, hlc, hnil, hc⟩ := hb
  obtain ⟨N, hN⟩ : ∃ N, N = bs.length := ⟨_, rfl⟩
  obtain ⟨g, off, hga, hgl, hcs⟩ : ∃ g off, (0 < N → a0 = some ⟨g, off, none⟩) ∧ (0 < N → g < w.heap.size) ∧ ∀ j, j < N → w.cell? ⟨g, off + j, none⟩ = some (.int .u8 (bs[j]?.getD 0)) := by
    by_cases h0 : 0 < N
    · obtain ⟨g, off, e, _, hg, hcs⟩ := hc (by omega)
      exact ⟨g, off, fun _ => e, fun _ => hg, fun j hj => by rw [hcs j _ (List.getElem?_eq_getElem (by omega)), List.getElem?_eq_getElem (by omega)]; rfl⟩
    · exact ⟨0, 0, fun h => absurd h h0, fun h => absurd h h0, fun j hj => by omega⟩
  rw [← hN] at hlc hlb ⊢
  have HN := hide hN.symm
  clear hN hc hnil
  refine callsIn_of_wp_marks Try.func46 rfl trivial ?_ rfl
  simp only [Try.ntmps46, List.size_toArray, List.length_cons, List.length_nil, Nat.reduceAdd, Nat.reduceSub, Array.replicate_succ, Array.replicate_zero, List.push_toArray, List.append_toArray, List.nil_append, List.cons_append]
  gi_wp2_with fail
  refine ⟨trivial, ?_⟩
  refine (sized_in (n - 1) a0 N C _).mono ?_
  rintro e w' ⟨rfl, rfl⟩
  simp only [World.size_alloc]
  obtain ⟨s, hs⟩ : ∃ s, s = w.heap.size := ⟨_, rfl⟩
  rw [← hs]
  obtain ⟨w1, hw1⟩ : ∃ w1, w1 = boxes [(.slice none 0 0, 24), (.slice a0 N C, 24)] w := ⟨_, rfl⟩
  have hbx := boxes_at [(.slice none 0 0, 24), (.slice a0 N C, 24)] w
  obtain ⟨hb1, hz0⟩ := boxes_below [(.slice none 0 0, 24), (.slice a0 N C, 24)] w
  rw [← hw1, ← hs] at hbx
  rw [← hw1] at hb1 hz0
  have hz1 : w1.heap.size = s + 2 := by rw [hz0, hs]; rfl
  clear hz0
  have k0 := hbx 0 _ _ rfl
  have cC : w1.cell? ⟨s + 1, 0, none⟩ = some (.slice a0 N C) := (hbx 1 _ _ rfl).1
  have hw1' := hw1.symm
  simp only [boxes] at hw1'
  rw [hw1']
  have hcs1 : ∀ j, j < N → w1.cell? ⟨g, off + j, none⟩ = some (.int .u8 (bs[j]?.getD 0)) := fun j hj => (hb1.cell (p := ⟨g, off + j, none⟩) (hgl (by omega))).trans (hcs j hj)
  have I0 : CpI w1 s bs 0 w1 := ⟨But.refl _ _, k0.2, _, [], k0.1, RowB.nil _ _, by simp⟩
  have HB1 := hide hb1
  have HS := hide hs
  have HZ1 := hide hz1
  have sl : Hid (s < w1.heap.size) := by unfold Hid; omega
  have CC := hide cC
  have HCS := hide hcs1
  have HGL := hide hgl
  have HGA := hide hga
  have HBY := hide hB
  have HLB := hide hlb
  clear hs hw1 hw1' hbx hb1 k0 hz1 cC hcs hcs1 hgl hga hB hlb
  gi_wp2
  refine wpIn_range h1 (gf := 54) (lb := #[.pointer (some ⟨s + 1, 0, none⟩)]) rfl (enters_of Try.func54 (by kernel_rfl) rfl) (CpI w1 s bs) (fun _ _ => False) 0
    (sized_tells (n - 1) (by omega) (s + 1) g off N C a0 bs HN.out hlc HGA.out HBY.out (by have := HLB.out; omega) _ (fun q W h => ⟨(h.1.cell (p := ⟨s + 1, 0, none⟩) (by have := HZ1.out; show s + 1 < _; omega) (fun e => by have e : s + 1 = s := e; omega)).trans CC.out, fun j hj => (h.1.cell (p := ⟨g, off + j, none⟩) (by have := HGL.out (by omega); have := HS.out; have := HZ1.out; show g < _; omega) (fun e => by have e : g = s := e; have := HGL.out (by omega); have := HS.out; omega)).trans (HCS.out j hj)⟩)
      (fun k W h hk hx => by
        obtain ⟨e1, e2, v, A, e3, e4, e5⟩ := h
        refine ⟨e1, e2, v, A, e3, e4, ?_⟩
        have hl : (bs.drop k).length = N - k := by rw [List.length_drop, HN.out]
        have h0 : (bs.drop k)[0]?.getD 0 = 1 := by rw [List.getElem?_drop, Nat.add_zero]; exact hx
        have hz : szC (bs.drop k) = 1 := by unfold szC; rw [h0, if_neg (by decide), if_pos rfl]
        rw [cpO_step (bs.drop k) (by omega) (by rw [hz]; decide), h0, if_neg (by decide), hz, List.drop_drop, List.nil_append] at e5
        exact e5))
    (fun q args h => by obtain ⟨_, _, c, e, _⟩ := h; rw [e]; rfl) (fun j W o hI => hI.keep sl.out ((But.refl (fun _ => False) W).alloc o) (fun _ e => e.elim)) (fun j W l o o' hl ho hc hI => hI.keep sl.out (put_but W l o') (fun q e => by subst e; exact ⟨hl, fun hcc => hcc.ne ho hc rfl⟩)) (fun c W o h => h.elim) (fun c W l o o' hl ho hc h => h.elim) (fun c W h => h.elim) I0 ?round ?done ?stop
  case stop => intro D c W _ h; exact h.elim
  case round =>
    rintro l k args W' hlS hI ⟨hkN, hz0, c, rfl, hzc⟩
    have HI := hide hI
    clear hI
    have hl : (bs.drop k).length = N - k := by rw [List.length_drop, HN.out]
    have zle := szC_le (bs.drop k) (by omega)
    obtain ⟨z, hz⟩ : ∃ z, z = szC (bs.drop k) := ⟨_, rfl⟩
    obtain ⟨x, hx⟩ : ∃ x, x = (bs.drop k)[0]?.getD 0 := ⟨_, rfl⟩
    have ST := cpO_step (bs.drop k) (by omega) hz0
    rw [← hz, ← hx, List.drop_drop] at ST
    rw [← hz] at zle hz0 hzc ⊢
    have HZ := hide hz
    have HX := hide hx
    have HST := hide ST
    have HL := hide hl
    clear hz hx ST hl
    gi_wp2
    refine ⟨KeepsFrom.refl _ _, ?_⟩
    intro o o' hoo hc
    have I2 : CpI w1 s bs k (W'.putObj l o') := HI.out.keep sl.out (put_but W' l o') (fun q e => by subst e; exact ⟨hlS, fun hcc => hcc.ne hoo hc rfl⟩)
    clear hoo hc HI
    generalize W'.putObj l o' = W2 at *
    refine wpIn_block ?_
    obtain ⟨hbW, hfz, v, A, cv, rv, hA⟩ := I2
    have zW := hbW.size
    have hls : s < W2.heap.size := World.block_lt_of_cell? W2 _ cv
    have hcb : ∀ j, j < N → W2.cell? ⟨g, off + j, none⟩ = some (.int .u8 (bs[j]?.getD 0)) := fun j hj => (hbW.cell (p := ⟨g, off + j, none⟩) (by have := HGL.out (by omega); have := HS.out; have := HZ1.out; show g < _; omega) (fun e => by have e : g = s := e; have := HGL.out (by omega); have := HS.out; omega)).trans (HCS.out j hj)
    have c0 : W2.cell? ⟨g, off + k, none⟩ = some (.int .u8 x) := by rw [HX.out, List.getElem?_drop, Nat.add_zero]; exact hcb k hkN
    have zi : (0 : Int) < (z : Int) := by omega
    by_cases h128 : 128 ≤ x
    · have CBz : CB (fun _ => True) W2 (.slice (some ⟨g, off + k, none⟩) z c) ((bs.drop k).take z) := by
        have el : ((bs.drop k).take z).length = z := by rw [List.length_take]; omega
        refine ⟨_, c, by rw [el], by omega, (fun e => by cases e), fun _ => ⟨g, off + k, rfl, trivial, by have := HGL.out (by omega); have := HS.out; have := HZ1.out; omega, fun j y hy => ?_⟩⟩
        have hj : j < z := by have := (List.getElem?_eq_some_iff.1 hy).1; omega
        rw [List.getElem?_take, if_pos hj, List.getElem?_drop] at hy
        rw [Nat.add_assoc, hcb (k + j) (by have := HL.out; omega), hy]
        rfl
      have hAl : A.length ≤ 40 := by
        have := congrArg List.length hA
        rw [List.length_append] at this
        have h2 := cpO_le _ bs (Nat.le_refl _)
        have := HN.out
        have := HLB.out
        omega
      have el : ((bs.drop k).take z).length = z := by rw [List.length_take]; have := HL.out; omega
      obtain ⟨a', c', wF, hrun, rF, hbF⟩ := rv.more CBz (by have := HL.out; have := HLB.out; omega)
      obtain ⟨va, vc, rfl⟩ := rv.shape
      rw [el] at hrun rF
      obtain ⟨q, hq⟩ : ∃ q, q = A.length := ⟨_, rfl⟩
      rw [← hq] at cv hrun rF
      have ns : ¬ (w1.heap.size ≤ s ∧ Cel W2 s) := fun e => by have := e.1; have := HZ1.out; omega
      have cvF : wF.cell? ⟨s, 0, none⟩ = some (.slice va q vc) := (hbF.cell (p := ⟨s, 0, none⟩) hls ns).trans cv
      have fvF : wF.frozen? ⟨s, 0, none⟩ = false := (hbF.frozen (p := ⟨s, 0, none⟩) hls ns).trans hfz
      obtain ⟨wG, hwG⟩ : ∃ z', z' = wF.setCell ⟨s, 0, none⟩ (.slice a' (q + z) c') := ⟨_, rfl⟩
      have nG : But (Only s) wF wG := by rw [hwG]; exact (But.refl (Only s) wF).setCell (p := ⟨s, 0, none⟩) (.inr rfl) _
      have FIN : KeepsFrom w1.heap.size W2 wG ∧ CpI w1 s bs (k + z) wG := by
        refine ⟨keeps_trans (KeepsFrom.of_but hbF (fun q e => e.2)) (KeepsFrom.of_but nG (fun q e => by have e : q = s := e; rw [e]; exact cells_of_cell cvF)), (hbW.trans' hbF (fun q hq e => by have := e.1; omega)).trans nG, by rw [hwG, World.frozen?_setCell]; exact fvF, _, A ++ (bs.drop k).take z, by rw [hwG]; exact World.cell?_setCell_same _ _ _ cvF, ?_, ?_⟩
        · have r1 := (rF.own (O' := fun q => w1.heap.size ≤ q) (fun q hq e => by
            rcases e with e | e
            · exact e.1
            · omega)).but nG (fun q e e2 => by have e2 : q = s := e2; have := HZ1.out; omega)
          exact r1.cel (by rw [List.length_append, el]; omega)
        · rw [List.append_assoc, ← hA, HST.out, if_pos h128]
      clear hcb
      gi_upto_region 5 with fail
      clear c0
      refine wpIn_region_lit ?_
      refine listV (w' := W2) 12 (.slice va q vc) rfl rfl rfl (exec_load1 24 oneS _ rfl s 0 rfl (.slice va q vc) (cv)) ?_
      try simp only [Act.put, List.setIfInBounds_toArray, List.set_cons_zero, List.set_cons_succ]
      refine listV (w' := W2) 13 (.slice (some ⟨g, off + k, none⟩) z c) rfl rfl rfl (exec_move _ _ rfl rfl) ?_
      try simp only [Act.put, List.setIfInBounds_toArray, List.set_cons_zero, List.set_cons_succ]
      refine listV (w' := wF) 14 (.slice a' (q + z) c') rfl rfl rfl (exec_app _ _ 24 24 rfl (.slice va q vc) (.slice (some ⟨g, off + k, none⟩) z c) rfl rfl 24 rfl hrun) ?_
      try simp only [Act.put, List.setIfInBounds_toArray, List.set_cons_zero, List.set_cons_succ]
      refine listS (w' := wG) rfl rfl rfl (by rw [hwG]; exact exec_store1 24 s1S _ _ rfl s 0 rfl _ _ rfl cvF fvF rfl) ?_
      gi_wp2
      first | exact ⟨FIN.1, _, rfl, FIN.2⟩ | exact FIN
    · have FIN : CpI w1 s bs (k + z) W2 := ⟨hbW, hfz, v, A, cv, rv, by rw [← hA, HST.out, if_neg h128]; rfl⟩
      have HF := hide FIN
      clear FIN hbW hfz cv rv hA hcb
      gi_wp2
      first | exact ⟨KeepsFrom.refl _ _, _, rfl, HF.out⟩ | exact ⟨KeepsFrom.refl _ _, HF.out⟩
  case done =>
    intro D j W hD hj hI hDW
    obtain ⟨hbW, hfz, v, A, cv, rv, hA⟩ := hI
    have ee : cpO (bs.drop j) = [] := by
      rcases hj with hj | hj
      · rw [hj, List.drop_of_length_le (by rw [HN.out]; exact Nat.le_refl _)]; exact cpO_nil
      · exact cpO_end _ hj
    rw [ee, List.append_nil] at hA
    subst hA
    obtain ⟨va, vc, rfl⟩ := rv.shape
    have hAl : (cpO bs).length ≤ 40 := by
      have h2 := cpO_le _ bs (Nat.le_refl _)
      have := HN.out
      have := HLB.out
      omega
    have P0 : PdI w1 s bs D (.slice va (cpO bs).length vc) W := ⟨hbW, hfz, _, cv, rv, rfl, ⟨by omega, hAl⟩, hDW⟩
    obtain ⟨q, hq⟩ : ∃ q, q = (cpO bs).length := ⟨_, rfl⟩
    rw [← hq] at P0 cv
    have HP := hide P0
    have HWD := hide hD
    clear P0 hbW hfz cv rv ee hj hDW hD hAl hq
    gi_wp2
    gi_loopw [15] (fun _ wr => ∃ (va : Option Addr) (q vc : Nat), Hid (PdI w1 s bs D (.slice va q vc) wr)) (fun _ wr => mu3 s wr)
    case atStart => exact ⟨_, _, _, HP.out⟩
    case round =>
      obtain ⟨va, q, vc, HQ⟩ := hrel
      obtain ⟨wk, hwk⟩ : ∃ wk, wk = wr := ⟨_, rfl⟩
      rw [← hwk] at HQ ⊢
      clear hwk HP
      have q40 : (q : Int) ≤ 43 := by
        obtain ⟨A, _, hr, _, hl, _⟩ := HQ.out.x
        obtain ⟨_, _, e⟩ := hr.shape
        simp only [Value.slice.injEq] at e
        obtain ⟨-, eq, -⟩ := e
        omega
      have tm : (q : Int).tmod 4 = ((q % 4 : Nat) : Int) := by rw [Int.tmod_eq_emod_of_nonneg (by omega)]; omega
      obtain ⟨r, hr⟩ : ∃ r, r = q % 4 := ⟨_, rfl⟩
      rw [← hr] at tm
      have c0 : wk.cell? ⟨s, 0, none⟩ = some (.slice va q vc) := HQ.out.x.elim (fun _ h => h.1)
      by_cases h0 : r = 0
      · have FE : Hid (RowB (fun g => w.heap.size ≤ g) (wk.putObj D (.deferred none)) (.slice va q vc) (padO (cpO bs)) ∧ Below w.heap.size w (wk.putObj D (.deferred none)) ∧ wk.heap[D]? = some (.deferred (some []))) := by
          obtain ⟨hbk, _, A, _, hrk, hpk, _, hDk⟩ := HQ.out
          obtain ⟨_, _, e⟩ := hrk.shape
          simp only [Value.slice.injEq] at e
          obtain ⟨-, eq, -⟩ := e
          rw [← hpk, padO_end A (by rw [← eq, ← hr]; exact h0)]
          have nD : ¬ Cel wk D := fun e => e.ne hDk rfl rfl
          have bp := put_but wk D (.deferred none)
          have z1 := HZ1.out
          have hsW := HS.out
          have hD := HWD.out
          exact ⟨(hrk.but bp (fun q e e2 => by rw [e2] at e; exact nD e.2)).own (fun q _ e => by have := e.1; omega), (HB1.out.trans (hbk.below HB1.out.size (fun q hq e => by have e : q = s := e; omega))).trans (bp.below (by have := hbk.size; omega) (fun q hq e => by omega)), hDk⟩
        subst h0
        clear HQ hr
        gi_wp2
        refine ⟨by simp, .inl ⟨_, _, rfl, run_takeDeferred FE.out.2.2, ?_⟩⟩
        exact ⟨_, by simp [results, go_sem], _, rfl, FE.out.1, FE.out.2.1⟩
      · have q0 : ((r : Int) != 0) = true := by simpa using h0
        obtain ⟨a', c', wE, wF, wG, cv, hwE, hrun, cvF, fvF, hwG, HG⟩ := HQ.out.step sl.out (by rw [← hr]; exact h0)
        have ME : mu3 s wG < mu3 s wk := by
          have c1 : wG.cell? ⟨s, 0, none⟩ = some (.slice a' (q + 1) c') := by rw [hwG]; exact World.cell?_setCell_same _ _ _ cvF
          unfold mu3
          rw [c1, cv]
          show (4 - (q + 1) % 4) % 4 < (4 - q % 4) % 4
          omega
        have HGG := hide HG
        have HME := hide ME
        have RUN := hide hrun
        have HE := hide hwE
        have HWG := hide hwG
        clear HQ cv hwE hrun hwG HG ME
        gi_upto_region 7 with fail
        clear q0 tm hr h0
        refine wpIn_region_lit ?_
        refine listWV 19 (.slice va q vc) (by rfl) rfl (exec_load1 24 oneS _ rfl s 0 rfl _ c0) ?_
        simp only [Act.put, List.setIfInBounds_toArray, List.set_cons_zero, List.set_cons_succ]
        refine listWV 20 (w' := wE) (.slice (some ⟨wk.heap.size, 0, none⟩) 1 1) (by rfl) rfl (by rw [HE.out]; exact exec_bsU _ _ rfl rfl) ?_
        simp only [Act.put, List.setIfInBounds_toArray, List.set_cons_zero, List.set_cons_succ]
        refine listWV 21 (w' := wF) (.slice a' (q + 1) c') (by rfl) rfl (exec_app _ _ 24 24 rfl (.slice va q vc) (.slice (some ⟨wk.heap.size, 0, none⟩) 1 1) rfl rfl 24 rfl RUN.out) ?_
        simp only [Act.put, List.setIfInBounds_toArray, List.set_cons_zero, List.set_cons_succ]
        refine listWT (w' := wG) (by rfl) rfl (by rw [HWG.out]; exact exec_store1 24 s1S _ _ rfl s 0 rfl _ _ rfl cvF fvF rfl) ?_
        clear c0 cvF fvF RUN HE HWG
        gi_wp2
        go_roundw
        case rel => exact ⟨a', q + 1, c', HGG.out⟩
        case measure => exact HME.out
theorem copied_any {P : Nat → Prop} {w : World} {v0 : Value} {bs : List Int} (hb : CB P w v0 bs) (hB : Bytes bs) (hlb : bs.length ≤ 40) :
    Calls Try.prog 46 #[v0] w fun e w' => ∃ v, e = .returned v ∧ RowB (fun g => w.heap.size ≤ g) w' v (padO (cpO bs)) ∧ Below w.heap.size w w' :=
  callsIn_wide.1 (copied_in 3 (Nat.le_refl _) hb hB hlb)

set_option maxRecDepth 100000 in
set_option maxHeartbeats 4000000 in
/-- the same head in memory of its own -/
theorem anotherR_any {P : Nat → Prop} (p : Pk) (ov : Value) (w : World) (ho : CB P w ov p.opts) (hl : p.opts.length ≤ 140737488355328) : Calls Try.prog 31 #[.agg (p.cells ov).toArray] w fun e w' => ∃ u, e = .returned (.agg (p.cells u).toArray) ∧ RowB (fun g => w.heap.size ≤ g ∧ g < w'.heap.size) w' u p.opts ∧ Below w.heap.size w w' := by
  rw [show (Value.agg (p.cells ov).toArray) = .agg #[.int .u8 p.src.a, .int .u8 p.src.b, .int .u8 p.src.c, .int .u8 p.src.d, .int .u8 p.dst.a, .int .u8 p.dst.b, .int .u8 p.dst.c, .int .u8 p.dst.d, .int .i64 p.proto, .int .i64 p.ttl, .int .i64 p.id, .int .i64 p.tos, .bool p.whole, .bool p.more, .int .i64 p.off, ov] from rfl]
  obtain ⟨w1, s, hs, hw, c1, f1, b1, l1⟩ := boxP w p ov
  obtain ⟨s2, hs2⟩ : ∃ s2, s2 = w1.heap.size := ⟨_, rfl⟩
  obtain ⟨w2, hw2⟩ : ∃ w2, w2 = w1.alloc (.cells (zF.cells (.slice none 0 0)).toArray 26) := ⟨_, rfl⟩
  have b2 : Below w1.heap.size w1 w2 := by rw [hw2]; exact later_alloc _ _
  have c2 : CellsAt w2 s2 0 (zF.cells (.slice none 0 0)) := by rw [hw2, hs2]; exact CellsAt.new w1 _ _
  have f2 : ∀ y, w2.frozen? ⟨s2, y, none⟩ = false := by rw [hw2, hs2]; exact fun y => frozen_new w1 _ _ _
  have l2 : s2 < w2.heap.size := c2.lt (by decide)
  have c12 := c1.later l1 b2
  have f12 : ∀ y, w2.frozen? ⟨s, y, none⟩ = false := fun y => (b2.frozen (p := ⟨s, y, none⟩) l1).trans (f1 y)
  have l12 : s < w2.heap.size := Nat.lt_of_lt_of_le l1 b2.size
  have B2 := later b1 b2
  have k15 : w2.cell? ⟨s, 15, none⟩ = some ov := c12 15 _ rfl
  have CL := hide (cloneR_any (ho.later B2) hl)
  have HB2 := hide B2
  have C2 := hide c2
  have F2 := hide f2
  have C12 := hide c12
  have F12 := hide f12
  have hw2' : w1.alloc (.cells #[.int .u8 0, .int .u8 0, .int .u8 0, .int .u8 0, .int .u8 0, .int .u8 0, .int .u8 0, .int .u8 0, .int .i64 0, .int .i64 0, .int .i64 0, .int .i64 0, .bool false, .bool false, .int .i64 0, .slice none 0 0] 26) = w2 := by rw [hw2]; rfl
  have hs' := hs.symm
  have hw' := hw.symm
  have hs2' := hs2.symm
  have HS := hide hs
  have HS2 : Hid (s < s2 ∧ w.heap.size ≤ s2) := ⟨by omega, by have := b1.size; omega⟩
  clear hs hw hs2 hw2 c1 f1 b1 b2 c2 f2 c12 f12 B2 ho
  go_enter Try.func31, Try.ntmps31
  go_wp2_with fail
  clear hs' hw' hs2' hw2' k15
  refine CL.out.mono ?_
  rintro _ w3 ⟨u, rfl, cu, b3⟩
  have ou := cu.cn.one
  obtain ⟨ua, uc, eu⟩ := cu.shape
  obtain ⟨un, hun⟩ : ∃ un, un = p.opts.length := ⟨_, rfl⟩
  rw [← hun] at eu
  subst eu
  have c3 := C12.out.later l12 b3
  have k3 : w3.cell? ⟨s, 15, none⟩ = some ov := c3 15 _ rfl
  have g3 : w3.frozen? ⟨s, 15, none⟩ = false := (b3.frozen (p := ⟨s, 15, none⟩) l12).trans (F12.out 15)
  obtain ⟨w4, hw4⟩ : ∃ w4, w4 = w3.setCell ⟨s, 15, none⟩ (.slice ua un uc) := ⟨_, rfl⟩
  have b4 : But (Only s) w3 w4 := by rw [hw4]; exact (But.refl (Only s) w3).cellb (b := s) rfl 15 _
  obtain ⟨X, hX⟩ : ∃ X, X = p.cells (.slice ua un uc) := ⟨_, rfl⟩
  have C4 : Hid (CellsAt w4 s 0 X) := by rw [hw4, hX]; exact c3.set 15 _
  have LX : Hid (X.length = 16) := by rw [hX]; exact rfl
  have OX : Hid (∀ v ∈ X, v.oneCell' = true) := by rw [hX]; exact pkV_one p _ ou
  have n2 : ¬ Only s s2 := fun e => by have e : s2 = s := e; have := HS2.out.1; omega
  have l23 : s2 < w3.heap.size := Nat.lt_of_lt_of_le l2 b3.size
  have C24 : Hid (CellsAt w4 s2 0 (zF.cells (.slice none 0 0))) := (C2.out.later l2 b3).but l23 b4 n2
  have F24 : Hid (∀ y, w4.frozen? ⟨s2, y, none⟩ = false) := fun y => (b4.frozen (p := ⟨s2, y, none⟩) l23 n2).trans ((b3.frozen (p := ⟨s2, y, none⟩) l2).trans (F2.out y))
  obtain ⟨w5, hw5⟩ : ∃ w5, w5 = w4.setCells s2 0 X := ⟨_, rfl⟩
  have b5 : But (Only s2) w4 w5 := by rw [hw5]; exact But.cells s2 X 0 w4
  have C5 : Hid (CellsAt w5 s2 0 X) := by rw [hw5]; exact C24.out.stored (by rw [LX.out]; rfl)
  have zs := HS.out
  have zs2 := HS2.out
  have z2 := HB2.out.size
  have z3 := b3.size
  have z4 := b4.size
  have z5 := b5.size
  have B5 : Hid (Below w.heap.size w w5) := ((later HB2.out b3).trans (b4.below (by omega) (fun g hg e => by have e : g = s := e; omega))).trans (b5.below (by omega) (fun g hg e => by have e : g = s2 := e; omega))
  have CU : Hid (RowB (fun g => w.heap.size ≤ g ∧ g < w5.heap.size) w5 (.slice ua un uc) p.opts) := by
    refine (((RowB.own (O' := fun g => w2.heap.size ≤ g) cu (fun g _ e => e.1)).but b4 (fun g e e2 => by have e2 : g = s := e2; omega)).but b5 (fun g e e2 => by have e2 : g = s2 := e2; omega)).own (fun g hg e => ⟨by omega, hg⟩)
  have hw4' := hw4.symm
  have hw5' := hw5.symm
  have HX := hide hX
  clear CL cu b3 c3 hw4 b4 hX hun ou n2 hw5 b5 zs zs2 z2 z3 z4 z5 HS HS2 HB2 C2 F2 C12 F12
  go_wp2_with (first | refine wpList_loadA rfl 26 16 aggP sizP _ rfl s 0 rfl X LX.out C4.out ?_ | (refine wpList_storeA rfl 26 16 sizP _ _ rfl s2 0 rfl X (zF.cells (.slice none 0 0)) rfl LX.out rfl C24.out F24.out OX.out ?_; intro _; rw [hw5']))
  refine bodyPost_ret (v := .agg X.toArray) (results_A rfl _ _ s2 _ rfl (run_loadVarA 26 16 aggP sizP s2 0 _ LX.out C5.out)) rfl ?_
  exact ⟨_, by rw [HX.out], CU.out, B5.out⟩
section
variable {ops : Array Oper} {Q : Exit → Act → World → Prop} {md : Region.Mode} {S : World → Prop} {D : Nat → Bool}
theorem wanted_of {o : Oper} {y : Nat → Option Bool} (h : o.guard = none) : Region.wanted o y = true := by simp [Region.wanted, h]
/-- two calls, whichever comes first -/
theorem twoJ {oi oj : Oper} {fuel : Nat} {listed : Array Bool} {a : Act} {w : World} (i j : Nat) (di dj : Tmp) (hr : Region.ready md ops listed = [i, j]) (hi : ops[i]? = some oi) (hj : ops[j]? = some oj) (hdi : oi.dst = some di) (hdj : oj.dst = some dj) (hgi : oi.guard = none) (hgj : oj.guard = none) (hij : i ≠ j) (hdd : di ≠ dj)
    (Fi Fj : FuncId) (vi vj : Array Value) (hri : ∀ (b : Act) W, (b = a ∨ ∃ v, b = a.put (some dj) v) → (execOp b.eval oi).run Try.prog W = .ok (.enter Fi vi) W) (hrj : ∀ (b : Act) W, (b = a ∨ ∃ v, b = a.put (some di) v) → (execOp b.eval oj).run Try.prog W = .ok (.enter Fj vj) W)
    (R : Value → Value → World → Prop) (h1 : Calls Try.prog Fi vi w fun e w2 => ∃ u, e = .returned u ∧ S w2 ∧ Calls Try.prog Fj vj w2 fun e w3 => ∃ v, e = .returned v ∧ R u v w3) (h2 : Calls Try.prog Fj vj w fun e w2 => ∃ v, e = .returned v ∧ S w2 ∧ Calls Try.prog Fi vi w2 fun e w3 => ∃ u, e = .returned u ∧ R u v w3)
    (hr1 : Region.ready md ops (listed.setIfInBounds i true) = [j]) (hr2 : Region.ready md ops (listed.setIfInBounds j true) = [i])
    (h : ∀ u v w3, R u v w3 → S w3 ∧ wpAnyJ D md ops Q S fuel ((listed.setIfInBounds i true).setIfInBounds j true) ((a.put (some di) u).put (some dj) v) w3) : wpAnyJ D md ops Q S (fuel + 1 + 1) listed a w := by
  refine ⟨fun h0 => (by rw [hr] at h0; cases h0), fun k hk => ?_⟩
  rw [hr] at hk
  rcases List.mem_cons.1 hk with rfl | hk
  · unfold Go.wpOp
    simp only [hi, wanted_of hgi, if_true, Oper.wp, hri a w (.inl rfl), Oper.upon, hdi]
    refine .inl (h1.mono ?_)
    rintro _ w2 ⟨u, rfl, s2, hc⟩
    refine ⟨fun _ => s2, fun h0 => (by rw [hr1] at h0; cases h0), fun k hk => ?_⟩
    obtain rfl : k = j := by rw [hr1] at hk; simpa using hk
    unfold Go.wpOp
    simp only [hj, wanted_of hgj, if_true, Oper.wp, hrj _ w2 (.inr ⟨u, rfl⟩), Oper.upon, hdj]
    refine .inl (hc.mono ?_)
    rintro _ w3 ⟨v, rfl, hR⟩
    exact ⟨fun _ => (h u v w3 hR).1, (h u v w3 hR).2⟩
  · obtain rfl : k = j := by simpa using hk
    unfold Go.wpOp
    simp only [hj, wanted_of hgj, if_true, Oper.wp, hrj a w (.inl rfl), Oper.upon, hdj]
    refine .inl (h2.mono ?_)
    rintro _ w2 ⟨v, rfl, s2, hc⟩
    refine ⟨fun _ => s2, fun h0 => (by rw [hr2] at h0; cases h0), fun q hq => ?_⟩
    obtain rfl : q = i := by rw [hr2] at hq; simpa using hq
    unfold Go.wpOp
    simp only [hi, wanted_of hgi, if_true, Oper.wp, hri _ w2 (.inr ⟨v, rfl⟩), Oper.upon, hdi]
    refine .inl (hc.mono ?_)
    rintro _ w3 ⟨u, rfl, hR⟩
    have e1 : (listed.setIfInBounds k true).setIfInBounds q true = (listed.setIfInBounds q true).setIfInBounds k true := Array.setIfInBounds_comm _ _ (Ne.symm hij)
    have e2 : (a.put (some dj) v).put (some di) u = (a.put (some di) u).put (some dj) v := by
      unfold Act.put
      simp only
      rw [Array.setIfInBounds_comm _ _ (Ne.symm hdd)]
    show (D q = true → S w3) ∧ wpAnyJ D md ops Q S fuel ((listed.setIfInBounds k true).setIfInBounds q true) ((a.put (some dj) v).put (some di) u) w3
    rw [e1, e2]
    exact ⟨fun _ => (h u v w3 hR).1, (h u v w3 hR).2⟩
end
/-- a piece that was cut -/
structure Pi where
  p : Pk
  hv : Value
  dv : Value
  D : List Int
def Pi.cells (x : Pi) : List Value := x.p.cells x.hv ++ [x.dv]
def zPi : Pi := ⟨zF, .slice none 0 0, .slice none 0 0, []⟩
def pic (L : List Pi) (j : Nat) : List Value := ((L[j]?).getD zPi).cells
theorem pic_len (L : List Pi) (j : Nat) : (pic L j).length = 17 := rfl
theorem pic_at {L : List Pi} {j : Nat} {x : Pi} (h : L[j]? = some x) : pic L j = x.cells := by unfold pic; rw [h]; rfl
theorem pic_app (L : List Pi) (x : Pi) (q : Nat) (hq : q < L.length + 1) : pic (L ++ [x]) q = if q < L.length then pic L q else x.cells := by
  unfold pic
  by_cases e : q < L.length
  · rw [if_pos e, List.getElem?_append_left e]
  · rw [if_neg e, show q = L.length by omega]
    simp
theorem aggPi (w : World) : (isAgg 34).run Try.prog w = .ok true w := by kernel_rfl
theorem sizPi (w : World) : (Go.sizeOf 34).run Try.prog w = .ok 17 w := by kernel_rfl
theorem info_pi : (Try.prog.info? 34).map (fun i => (i.zero, i.size, i.bytes)) = some (some (.agg zPi.cells.toArray), 17, 104) := by kernel_rfl

theorem Pi.len (x : Pi) : x.cells.length = 17 := rfl
theorem exec_bldPi {o : Oper} {w : World} {ev : Operand → Value} (x y : Operand) (p : Pk) (ua : Option Addr) (un uc : Nat) (ea : Option Addr) (en ec : Nat) (ho : o.op = .build 34 #[(0, x), (1, y)]) (hx : ev x = .agg (p.cells (.slice ua un uc)).toArray) (hy : ev y = .slice ea en ec) :
    (execOp ev o).run Try.prog w = .ok (.value (.agg (p.cells (.slice ua un uc) ++ [Value.slice ea en ec]).toArray)) w := by
  unfold execOp
  rw [ho]
  simp only [List.map_toArray, List.map_cons, List.map_nil, hx, hy]
  kernel_rfl
theorem exec_bsPi {o : Oper} {w : World} {ev : Operand → Value} (x : Operand) (p : Pk) (ua : Option Addr) (un uc : Nat) (ea : Option Addr) (en ec : Nat) (ho : o.op = .buildSlice 28 1 #[(0, x)]) (hx : ev x = .agg (p.cells (.slice ua un uc) ++ [Value.slice ea en ec]).toArray) : (execOp ev o).run Try.prog w = .ok (.value (.slice (some ⟨w.heap.size, 0, none⟩) 1 1)) (w.alloc (.cells (p.cells (.slice ua un uc) ++ [Value.slice ea en ec]).toArray 34)) := by
  unfold execOp
  rw [ho]
  simp only [List.map_toArray, List.map_cons, List.map_nil, hx]
  kernel_rfl
/-- how a packet is cut from a place on, with these options there and those behind -/
def cutF (p : Pk) (others D : List Int) (mtu : Nat) : Nat → Nat → List Int → List (Pk × List Int)
  | 0, _, _ => []
  | f + 1, o, os => if mtu - 20 - os.length < D.length - o then ({ p with more := true, off := (o : Int), opts := os }, (D.drop o).take ((mtu - 20 - os.length) / 8 * 8)) :: cutF p others D mtu f (o + (mtu - 20 - os.length) / 8 * 8) others
    else [({ p with more := false, off := (o : Int), opts := os }, D.drop o)]
def cutS (p : Pk) (D : List Int) (mtu : Nat) : List (Pk × List Int) := cutF p (padO (cpO p.opts)) D mtu (D.length + 1) 0 p.opts
theorem cutF_more {p : Pk} {others D : List Int} {mtu f o : Nat} {os : List Int} (h : mtu - 20 - os.length < D.length - o) : cutF p others D mtu (f + 1) o os = ({ p with more := true, off := (o : Int), opts := os }, (D.drop o).take ((mtu - 20 - os.length) / 8 * 8)) :: cutF p others D mtu f (o + (mtu - 20 - os.length) / 8 * 8) others := by
  rw [cutF, if_pos h]
theorem cutF_last {p : Pk} {others D : List Int} {mtu f o : Nat} {os : List Int} (h : ¬ mtu - 20 - os.length < D.length - o) : cutF p others D mtu (f + 1) o os = [({ p with more := false, off := (o : Int), opts := os }, D.drop o)] := by
  rw [cutF, if_neg h]
/-- pieces in memory: their row is r's, each one's options and bytes in blocks of their own -/
def Pi.ab (x : Pi) : Pk × List Int := (x.p, x.D)
structure PiAt (τ : Nat → Nat × Nat) (B : Nat) (W : World) (v : Value) (L : List Pi) : Prop where
  row : RowF 17 (fun g => τ g = (1, 0) ∧ B ≤ g) W v L.length (pic L)
  hv : ∀ i x, L[i]? = some x → RowB (fun g => τ g = (2, i) ∧ B ≤ g) W x.hv x.p.opts
  dv : ∀ i x, L[i]? = some x → RowB (fun g => τ g = (3, i) ∧ B ≤ g) W x.dv x.D
section
variable {τ : Nat → Nat × Nat} {B : Nat} {W W' : World} {v : Value} {L : List Pi} {K : Nat → Prop}
theorem PiAt.nil (τ : Nat → Nat × Nat) (B : Nat) (W : World) : PiAt τ B W (.slice none 0 0) [] := ⟨RowF.nil _ _ _ _, fun i x h => by simp at h, fun i x h => by simp at h⟩
theorem PiAt.but (h : PiAt τ B W v L) (hb : But K W W') (hk : ∀ g, g < W.heap.size → B ≤ g → (τ g).1 ≠ 0 → ¬ K g) : PiAt τ B W' v L := by
  refine ⟨((h.row.own (O' := fun g => (τ g = (1, 0) ∧ B ≤ g) ∧ g < W.heap.size) (fun g hg e => ⟨e, hg⟩)).but hb (fun g e => hk g e.2 e.1.2 (by rw [e.1.1]; simp))).own (fun g _ e => e.1), fun i x hx => ?_, fun i x hx => ?_⟩
  · exact (((h.hv i x hx).own (O' := fun g => (τ g = (2, i) ∧ B ≤ g) ∧ g < W.heap.size) (fun g hg e => ⟨e, hg⟩)).but hb (fun g e => hk g e.2 e.1.2 (by rw [e.1.1]; simp))).own (fun g _ e => e.1)
  · exact (((h.dv i x hx).own (O' := fun g => (τ g = (3, i) ∧ B ≤ g) ∧ g < W.heap.size) (fun g hg e => ⟨e, hg⟩)).but hb (fun g e => hk g e.2 e.1.2 (by rw [e.1.1]; simp))).own (fun g _ e => e.1)
theorem PiAt.later (h : PiAt τ B W v L) (hb : Below W.heap.size W W') : PiAt τ B W' v L := h.but (K := fun _ => False) (But.of_below hb) (fun _ _ _ _ e => e.elim)
theorem PiAt.re {τ' : Nat → Nat × Nat} (h : PiAt τ B W v L) (he : ∀ g, g < W.heap.size → τ' g = τ g) : PiAt τ' B W v L :=
  ⟨h.row.own (fun g hg e => ⟨by rw [he g hg]; exact e.1, e.2⟩), fun i x hx => (h.hv i x hx).own (fun g hg e => ⟨by rw [he g hg]; exact e.1, e.2⟩), fun i x hx => (h.dv i x hx).own (fun g hg e => ⟨by rw [he g hg]; exact e.1, e.2⟩)⟩
theorem PiAt.shape (h : PiAt τ B W v L) : ∃ a c, v = .slice a L.length c := h.row.shape
end
theorem Pi.one {x : Pi} (h1 : x.hv.oneCell' = true) (h2 : x.dv.oneCell' = true) : ∀ u ∈ x.cells, u.oneCell' = true := by
  intro u hu
  unfold Pi.cells at hu
  rcases List.mem_append.1 hu with hu | hu
  · exact pkV_one x.p x.hv h1 u hu
  · rw [List.mem_singleton.1 hu]; exact h2
theorem RowB.one {O : Nat → Prop} {W : World} {v : Value} {L : List Int} (h : RowB O W v L) : v.oneCell' = true := by
  obtain ⟨_, _, e⟩ := h.shape
  rw [e]
  rfl
set_option maxHeartbeats 1000000 in
/-- one piece more: all its worlds; hs, ds: the new one's slices, made behind the row's world W0 -/
theorem PiAt.push {τ : Nat → Nat × Nat} {B : Nat} {W0 W : World} {v : Value} {L : List Pi} (h : PiAt τ B W0 v L) (hb : Below W0.heap.size W0 W) (hB : B ≤ W0.heap.size) (x : Pi) (σ : Nat → Nat) (h1 : RowB (fun g => σ g = 2 ∧ W0.heap.size ≤ g) W x.hv x.p.opts) (h2 : RowB (fun g => σ g = 3 ∧ W0.heap.size ≤ g) W x.dv x.D) (hl : L.length < 100000000) :
    ∃ (a' : Option Addr) (c' : Nat) (wE wF : World), wE = W.alloc (.cells x.cells.toArray 34) ∧ (Builtin.append_ #[28, 28] 28 #[v, .slice (some ⟨W.heap.size, 0, none⟩) 1 1]).run Try.prog wE = .ok (.slice a' (L.length + 1) c') wF ∧ But (fun g => τ g = (1, 0) ∧ B ≤ g ∧ g < W0.heap.size) W wF ∧ ∃ τ', PiAt τ' B wF (.slice a' (L.length + 1) c') (L ++ [x]) ∧ (∀ g, g < W0.heap.size → τ' g = τ g) := by
  obtain ⟨i0, hi0, hz0, hz1, hz2⟩ := info_parts info_pi
  obtain ⟨wE, hwE⟩ : ∃ wE, wE = W.alloc (.cells x.cells.toArray 34) := ⟨_, rfl⟩
  have bE : Below W.heap.size W wE := by rw [hwE]; exact later_alloc _ _
  have zE : wE.heap.size = W.heap.size + 1 := by rw [hwE, World.size_alloc]
  have cE : CellsAt wE W.heap.size 0 x.cells := by rw [hwE]; exact CellsAt.new W _ _
  have hz := hb.size
  have row' := (h.row.own (O' := fun g => τ g = (1, 0) ∧ B ≤ g ∧ g < W0.heap.size) (fun g hg e => ⟨e.1, e.2, hg⟩)).later hb
  have rowE := row'.later bE
  obtain ⟨a', c', wF, hrun, rF, hbF⟩ := rowE.push 28 34 i0 _ Try.underlying28 hi0 hz0 hz1 (by omega) rfl (fun j hj => pic_len L j) (fun q hq => by
    obtain ⟨y, hy⟩ : ∃ y, L[q]? = some y := ⟨_, List.getElem?_eq_getElem hq⟩
    rw [pic_at hy]; exact Pi.one (h.hv q y hy).one (h.dv q y hy).one) x.cells rfl (Pi.one h1.one h2.one) W.heap.size cE (by omega)
  have zF := hbF.size
  refine ⟨a', c', wE, wF, hwE, hrun, (But.of_below bE).trans hbF, ?_⟩
  obtain ⟨τ', hτ⟩ : ∃ τ' : Nat → Nat × Nat, τ' = fun g => if g < W0.heap.size then τ g else if wE.heap.size ≤ g then (1, 0) else if σ g = 2 then (2, L.length) else if σ g = 3 then (3, L.length) else (0, 0) := ⟨_, rfl⟩
  have e1 : ∀ g, g < W0.heap.size → τ' g = τ g := fun g hg => by rw [hτ]; exact if_pos hg
  have e2 : ∀ g, wE.heap.size ≤ g → τ' g = (1, 0) := fun g hg => by rw [hτ]; show (if _ then _ else _) = _; rw [if_neg (by omega), if_pos hg]
  have e3 : ∀ g, W0.heap.size ≤ g → g < W.heap.size → σ g = 2 → τ' g = (2, L.length) := fun g hg h2 h3 => by rw [hτ]; show (if _ then _ else _) = _; rw [if_neg (by omega), if_neg (by omega), if_pos h3]
  have e4 : ∀ g, W0.heap.size ≤ g → g < W.heap.size → σ g = 3 → τ' g = (3, L.length) := fun g hg h2 h3 => by rw [hτ]; show (if _ then _ else _) = _; rw [if_neg (by omega), if_neg (by omega), if_neg (by omega), if_pos h3]
  clear hτ
  refine ⟨τ', ⟨?_, fun i y hy => ?_, fun i y hy => ?_⟩, e1⟩
  · rw [List.length_append]
    refine RowF.cong (c := fun q => if q < L.length then pic L q else x.cells) (rF.own (fun g hg e => ?_)) (fun j hj => by rw [pic_app L x j hj])
    rcases e with e | e
    · exact ⟨by rw [e1 g e.2.2]; exact e.1, e.2.1⟩
    · exact ⟨e2 g (by omega), by omega⟩
  · by_cases hi : i < L.length
    · rw [List.getElem?_append_left hi] at hy
      exact ((((((h.hv i y hy).own (O' := fun g => (τ g = (2, i) ∧ B ≤ g) ∧ g < W0.heap.size) (fun g hg e => ⟨e, hg⟩)).later hb).later bE).but hbF (fun g e e2 => by rw [e.1.1] at e2; simp at e2)).own (fun g _ e => ⟨by rw [e1 g e.2]; exact e.1.1, e.1.2⟩))
    · rw [List.getElem?_append_right (by omega)] at hy
      have hi0 : i - L.length = 0 := by have := (List.getElem?_eq_some_iff.1 hy).1; simp at this; omega
      rw [hi0] at hy
      cases hy
      have ei : i = L.length := by omega
      subst ei
      exact ((((h1.own (O' := fun g => (σ g = 2 ∧ W0.heap.size ≤ g) ∧ g < W.heap.size) (fun g hg e => ⟨e, hg⟩)).later bE).but hbF (fun g e e2 => by omega)).own (fun g _ e => ⟨e3 g e.1.2 e.2 e.1.1, by omega⟩))
  · by_cases hi : i < L.length
    · rw [List.getElem?_append_left hi] at hy
      exact ((((((h.dv i y hy).own (O' := fun g => (τ g = (3, i) ∧ B ≤ g) ∧ g < W0.heap.size) (fun g hg e => ⟨e, hg⟩)).later hb).later bE).but hbF (fun g e e2 => by rw [e.1.1] at e2; simp at e2)).own (fun g _ e => ⟨by rw [e1 g e.2]; exact e.1.1, e.1.2⟩))
    · rw [List.getElem?_append_right (by omega)] at hy
      have hi0 : i - L.length = 0 := by have := (List.getElem?_eq_some_iff.1 hy).1; simp at this; omega
      rw [hi0] at hy
      cases hy
      have ei : i = L.length := by omega
      subst ei
      exact ((((h2.own (O' := fun g => (σ g = 3 ∧ W0.heap.size ≤ g) ∧ g < W.heap.size) (fun g hg e => ⟨e, hg⟩)).later bE).but hbF (fun g e e2 => by omega)).own (fun g _ e => ⟨e4 g e.1.2 e.2 e.1.1, by omega⟩))

theorem Cn.drop {mk : Int → Value} {P : Nat → Prop} {W : World} {a : Option Addr} {n c : Nat} {L : List Int} (h : Cn mk P W (.slice a n c) L) (k : Nat) (hk : k ≤ n) : Cn mk P W (.slice (if c = k then a else a.map (fun x : Addr => x.add k)) (n - k) (c - k)) (L.drop k) := by
  obtain ⟨a', c', e, h1, h2, h3⟩ := h
  simp only [Value.slice.injEq] at e
  obtain ⟨rfl, rfl, rfl⟩ := e
  have e : (L.drop k).length = L.length - k := List.length_drop
  refine ⟨_, c - k, by rw [e], by omega, fun h0 => ?_, fun h0 => ?_⟩
  · by_cases ek : c = k
    · omega
    · rw [if_neg ek] at h0
      cases a with
      | none => have := h2 rfl; omega
      | some ad => cases h0
  · obtain ⟨g, off, rfl, d2, d3, d4⟩ := h3 (by omega)
    refine ⟨g, off + k, ?_, d2, d3, fun j x hj => ?_⟩
    · rw [if_neg (by omega)]
      show some (Addr.add _ _) = _
      rw [Addr.add_lit]
    · rw [List.getElem?_drop] at hj
      rw [Nat.add_assoc]
      exact d4 (k + j) x hj
theorem Cn.take {mk : Int → Value} {P : Nat → Prop} {W : World} {a : Option Addr} {n c : Nat} {L : List Int} (h : Cn mk P W (.slice a n c) L) (k : Nat) (hk : k ≤ n) : Cn mk P W (.slice a k c) (L.take k) := by
  obtain ⟨a', c', e, h1, h2, h3⟩ := h
  simp only [Value.slice.injEq] at e
  obtain ⟨rfl, rfl, rfl⟩ := e
  have e : (L.take k).length = k := by rw [List.length_take]; omega
  refine ⟨a, c, by rw [e], by omega, h2, fun h0 => ?_⟩
  obtain ⟨g, off, rfl, d2, d3, d4⟩ := h3 (by omega)
  exact ⟨g, off, rfl, d2, d3, fun j x hj => d4 j x (by rw [List.getElem?_take] at hj; split at hj; exact hj; cases hj)⟩
/-- what both calls bring -/
def TwR (pk : Pk) (wb : World) (os ds : List Int) (u v : Value) (W : World) : Prop :=
  ∃ (ua : Option Addr) (un uc : Nat) (ea : Option Addr) (en ec : Nat) (σ : Nat → Nat), u = .agg (pk.cells (.slice ua un uc)).toArray ∧ v = .slice ea en ec ∧ RowB (fun g => σ g = 2 ∧ wb.heap.size ≤ g) W (.slice ua un uc) os ∧ RowB (fun g => σ g = 3 ∧ wb.heap.size ≤ g) W (.slice ea en ec) ds ∧ Below wb.heap.size wb W
theorem two_calls {P Q : Nat → Prop} (pk : Pk) (hv lv : Value) (ds : List Int) (wb : World) (s : Nat) (X : List Value) (hX : X = pk.cells hv) (hs : s < wb.heap.size) (hS : CellsAt wb s 0 X) (ho : CB P wb hv pk.opts) (hol : pk.opts.length ≤ 140737488355328) (hl : CB Q wb lv ds) (hll : ds.length ≤ 140737488355328) :
    (Calls Try.prog 31 #[.agg X.toArray] wb fun e w2 => ∃ u, e = .returned u ∧ CellsAt w2 s 0 X ∧ Calls Try.prog 32 #[lv] w2 fun e w3 => ∃ v, e = .returned v ∧ TwR pk wb pk.opts ds u v w3) ∧
    (Calls Try.prog 32 #[lv] wb fun e w2 => ∃ v, e = .returned v ∧ CellsAt w2 s 0 X ∧ Calls Try.prog 31 #[.agg X.toArray] w2 fun e w3 => ∃ u, e = .returned u ∧ TwR pk wb pk.opts ds u v w3) := by
  subst hX
  constructor
  · refine (anotherR_any pk hv wb ho hol).mono ?_
    rintro _ w2 ⟨u, rfl, hu, b2⟩
    refine ⟨_, rfl, hS.later hs b2, (cloneR_any (hl.later b2) hll).mono ?_⟩
    rintro _ w3 ⟨v, rfl, hvv, b3⟩
    obtain ⟨ua, uc, rfl⟩ := hu.shape
    obtain ⟨ea, ec, rfl⟩ := hvv.shape
    have z2 := b2.size
    exact ⟨_, rfl, ua, _, uc, ea, _, ec, fun g => if g < w2.heap.size then 2 else 3, rfl, rfl, ((hu.own (O' := fun g => (wb.heap.size ≤ g ∧ g < w2.heap.size)) (fun g _ e => e)).later b3).own (fun g _ e => ⟨if_pos e.2, e.1⟩), hvv.own (fun g _ e => by have e1 := e.1; exact ⟨if_neg (by omega), by omega⟩), later b2 b3⟩
  · refine (cloneR_any hl hll).mono ?_
    rintro _ w2 ⟨v, rfl, hvv, b2⟩
    refine ⟨_, rfl, hS.later hs b2, (anotherR_any pk hv w2 (ho.later b2) hol).mono ?_⟩
    rintro _ w3 ⟨u, rfl, hu, b3⟩
    obtain ⟨ua, uc, rfl⟩ := hu.shape
    obtain ⟨ea, ec, rfl⟩ := hvv.shape
    have z2 := b2.size
    exact ⟨_, rfl, ua, _, uc, ea, _, ec, fun g => if g < w2.heap.size then 3 else 2, rfl, rfl, hu.own (fun g _ e => by have e1 := e.1; exact ⟨if_neg (by omega), by omega⟩), ((hvv.own (O' := fun g => (wb.heap.size ≤ g ∧ g < w2.heap.size)) (fun g _ e => e)).later b3).own (fun g _ e => ⟨if_pos e.2, e.1⟩), later b2 b3⟩
/-- between two rounds of cut -/
structure CutM (w : World) (s B : Nat) (p : Pk) (others D : List Int) (mtu : Nat) (bv0 vo v : Value) (o vn : Nat) (W : World) : Prop where
  b : Below w.heap.size w W
  x : ∃ (mo : Bool) (hv : Value) (os : List Int), CellsAt W s 0 (Pk.cells { p with more := mo, off := (o : Int), opts := os } hv) ∧ CB (fun g => g < B ∧ g ≠ s) W hv os ∧ os.length ≤ 40 ∧ ∃ (τ : Nat → Nat × Nat) (L : List Pi) (f : Nat), PiAt τ B W v L ∧ vn = L.length ∧ cutS p D mtu = L.map Pi.ab ++ cutF p others D mtu (f + 1) o os ∧ D.length ≤ f + o
  f : ∀ y, W.frozen? ⟨s, y, none⟩ = false
  hd : CB (fun g => g < B ∧ g ≠ s) W bv0 D
  ho : CB (fun g => g < B ∧ g ≠ s) W vo others
  hB : s < B ∧ B ≤ W.heap.size
  le : o ≤ D.length ∧ vn ≤ o
end Go.Proofs.Ytgempelfamjabaa
