
/-
  The document's Drop.
-/
import Derived.Test.YtlfacppkgamkgaaM29
namespace Go.Proofs.Ytlfacppkgamkgaa
open Go.RowKit Go.Shelf

section
variable {ops : Array Oper} {rest : List Oper} {o : Oper} {a : Act} {w : World} {Q : Exit → Act → World → Prop}
/-- 'append', by its run -/
theorem wpList_appT (hgd : o.guard = none) (t : TypeId) (s x : Operand) (hop : o.op = Op.call { callee := Callee.builtin Builtin.append, args := #[s, x], argTypes := #[t, t] }) (hty : o.type = t) (v u : Value) (hs : a.eval s = v) (hx : a.eval x = u) {v' : Value} {w' : World}
    (hr : (Builtin.append_ #[t, t] t #[v, u]).run Try.prog w = .ok v' w') (h : wpList Try.prog ops Q rest (a.put o.dst v') w') : wpList Try.prog ops Q (o :: rest) a w := by
  refine wpList_plain hgd fun K hK => ?_
  unfold Oper.wp
  simp only [execOp, hop, hty]
  simp [resolve, invoke, builtin, hs, hx, hr, Result.andThen]
  exact hK _ _ h
end
theorem flat_len (d : Nat → List Value) : ∀ (m : Nat), (∀ q, q < m → (d q).length = 10) → ((List.range m).flatMap d).length = m * 10
  | 0, _ => by simp
  | m + 1, h => by
    rw [List.range_succ, List.flatMap_append, List.length_append, flat_len d m (fun q hq => h q (by omega))]
    simp [h m (by omega)]
    omega
theorem flat_at (d : Nat → List Value) : ∀ (m : Nat), (∀ q, q < m → (d q).length = 10) → ∀ q, q < m → ∀ r, r < 10 → ((List.range m).flatMap d)[q * 10 + r]? = (d q)[r]?
  | 0, _, q, hq, _, _ => by omega
  | m + 1, h, q, hq, r, hr => by
    have hl := flat_len d m (fun q hq => h q (by omega))
    rw [List.range_succ, List.flatMap_append]
    by_cases e : q < m
    · rw [List.getElem?_append_left (by omega)]
      exact flat_at d m (fun q hq => h q (by omega)) q e r hr
    · have : q = m := by omega
      subst this
      rw [List.getElem?_append_right (by omega), hl, show q * 10 + r - q * 10 = r by omega]
      simp
/-- some ways more: a part of a row behind another -/
theorem wy_more {O : Nat → Prop} {W : World} {v : Value} {len : Nat} {c : Nat → List Value} (h : RowF 10 O W v len c) (hn : ∀ q, q < len → (c q).length = 10) (h1 : ∀ q, q < len → ∀ u ∈ c q, u.oneCell' = true) (g o cc mm : Nat) (d : Nat → List Value) (hd : ∀ q, q < mm → (d q).length = 10) (hd1 : ∀ q, q < mm → ∀ u ∈ d q, u.oneCell' = true) (hc : ∀ q, q < mm → CellsAt W g (o + q * 10) (d q)) (hm : 0 < mm) (hl : len + mm ≤ 1000) :
    ∃ a' c' w2, (Builtin.append_ #[27, 27] 27 #[v, .slice (some ⟨g, o, none⟩) mm cc]).run Try.prog W = .ok (.slice a' (len + mm) c') w2 ∧ RowF 10 (fun g => O g ∨ g = W.heap.size) w2 (.slice a' (len + mm) c') (len + mm) (fun q => if q < len then c q else d (q - len)) ∧ But O W w2 := by
  obtain ⟨i0, hi, hz0, hz1, hz2⟩ := info_parts info_way
  have hlen := flat_len d mm hd
  refine h.more 27 33 i0 _ Try.underlying27 hi hz0 hz1 (by omega) rfl hn h1 _ mm d ((List.range mm).flatMap d) hlen (fun q hq j u hu => ?_) hd (Src.ofSlice (P := Try.prog) _ Try.underlying27 ⟨g, o, none⟩ mm cc ((List.range mm).flatMap d) hlen (fun j u hu => ?_) (fun u hu => ?_)) hm (by omega)
  · have hj : j < 10 := by have := (List.getElem?_eq_some_iff.1 hu).1; rw [hd q hq] at this; exact this
    rw [flat_at d mm hd q hq j hj]
    exact hu
  · have hj : j < mm * 10 := by have := (List.getElem?_eq_some_iff.1 hu).1; omega
    have e : j = j / 10 * 10 + j % 10 := by omega
    rw [e, flat_at d mm hd (j / 10) (by omega) (j % 10) (by omega)] at hu
    rw [Addr.add_mid, show o + j = o + j / 10 * 10 + j % 10 by omega]
    exact hc (j / 10) (by omega) (j % 10) u hu
  · obtain ⟨q, hq, hu⟩ := List.mem_flatMap.1 hu
    exact hd1 q (List.mem_range.1 hq) u hu
/-- 'append' of no way -/
theorem run_appW_zero (W : World) (a : Option Addr) (n c : Nat) (hc : n ≤ c) (a2 : Option Addr) (c2 : Nat) : (Builtin.append_ #[27, 27] 27 #[.slice a n c, .slice a2 0 c2]).run Try.prog W = .ok (.slice a n c) W := by
  obtain ⟨i, hi, hz0, hz1, hz2⟩ := info_parts info_way
  have hs : (loadCells (a2.getD ⟨0, 0, none⟩) 0).run Try.prog W = .ok #[] W := rfl
  cases a2 with
  | none => cases a with
    | none => simp [Builtin.append_, run_underlying Try.underlying27, sizeOf, typeInfo, hi, hc, Builtin.lenOf, Builtin.firstCells]
    | some ad => simp [Builtin.append_, run_underlying Try.underlying27, sizeOf, typeInfo, hi, hc, Builtin.lenOf, Builtin.firstCells, storeCells]
  | some a2 =>
    simp only [Option.getD_some] at hs
    cases a with
    | none => simp [Builtin.append_, run_underlying Try.underlying27, sizeOf, typeInfo, hi, hc, Builtin.lenOf, Builtin.firstCells, hs]
    | some ad => simp [Builtin.append_, run_underlying Try.underlying27, sizeOf, typeInfo, hi, hc, Builtin.lenOf, Builtin.firstCells, storeCells, hs]
theorem exec_slF {o : Oper} {w : World} {ev : Operand → Value} (x y : Operand) (g n c k : Nat) (ho : o.op = .slice 27 x none (some y) none) (hx : ev x = .slice (some ⟨g, 0, none⟩) n c) (hy : ev y = .int .i64 (k : Int)) (hk : k ≤ n) (hc : n ≤ c) (h0 : 0 < c) : (execOp ev o).run Try.prog w = .ok (.value (.slice (some ⟨g, 0, none⟩) k c)) w := by
  have h1 : (k : Int) ≤ c := by omega
  have h2 : ¬ c = 0 := by omega
  unfold execOp
  simp [ho, hx, hy, go_sem, h1, h2]
theorem exec_slG {o : Oper} {w : World} {ev : Operand → Value} (x y : Operand) (g n c k : Nat) (ho : o.op = .slice 27 x (some y) none none) (hx : ev x = .slice (some ⟨g, 0, none⟩) n c) (hy : ev y = .int .i64 (k : Int)) (hk : k ≤ n) (hc : n ≤ c) : (execOp ev o).run Try.prog w = .ok (.value (.slice (some ⟨g, if c = k then 0 else k * 10, none⟩) (n - k) (c - k))) w := by
  have h1 : (k : Int) ≤ n := by omega
  unfold execOp
  by_cases h2 : c = k
  · subst h2
    have : n = c := by omega
    subst this
    simp [ho, hx, hy, go_sem]
  · simp [ho, hx, hy, go_sem, h1, h2]
theorem wyc_erase {ws : List Wy} {j : Nat} (q : Nat) : wyc (ws.eraseIdx j) q = if q < j then wyc ws q else wyc ws (q + 1) := by
  unfold wyc
  rw [List.getElem?_eraseIdx]
  by_cases e : q < j
  · simp only [if_pos e]
  · simp only [if_neg e]
set_option maxRecDepth 100000 in
set_option maxHeartbeats 8000000 in
theorem rDrop_any (n : I4) (k : Int) {w : World} {q : Nat} {ws : List Wy} (h : RfR w q ws) : Calls Try.prog 11 #[.pointer (some ⟨q, 0, none⟩), n.val, .int .i64 k] w fun e w' => e = .returned (.int .i64 (drE ws n k)) ∧ RfR w' q (drL ws n k) ∧ But (Only q) w w' := by
  obtain ⟨s, hs⟩ : ∃ s, s = w.heap.size := ⟨_, rfl⟩
  obtain ⟨V, hV⟩ : ∃ V, V = n.vals := ⟨_, rfl⟩
  obtain ⟨w1, hw1⟩ : ∃ w1, w1 = w.alloc (.cells V.toArray 31) := ⟨_, rfl⟩
  have b1 : Below w.heap.size w w1 := by rw [hw1]; exact (Below.refl _ w).alloc (Nat.le_refl _) _
  have c1 : CellsAt w1 s 0 V := by rw [hw1, hs]; exact CellsAt.new w V 31
  have LV : Hid (V.length = 4) := by rw [hV]; exact (rfl : n.vals.length = 4)
  have EV : Hid (n.val = .agg V.toArray) := by rw [hV]; exact rfl
  have AT := hide (at_any n k (h.later b1))
  rw [EV.out] at AT ⊢
  have HB1 := hide b1
  have C1 := hide c1
  have H := hide h
  have hw1' := hw1.symm
  have hs' := hs.symm
  clear b1 c1 h hw1 hs hV EV
  go_enter Try.func11, Try.ntmps11
  go_wp2_with (refine wpList_loadA rfl 31 4 aggI sizI _ rfl s 0 rfl V LV.out C1.out ?_)
  clear hw1' hs'
  refine AT.out.mono ?_
  rintro _ w3 ⟨rfl, b3⟩
  have HB3 : Hid (Below w.heap.size w w3) := later HB1.out b3
  have R3 := hide (H.out.later HB3.out)
  clear b3 AT C1 HB1 LV
  cases hf : ix n k ws with
  | none =>
    have ek : ixI n k ws = -1 := by unfold ixI; rw [hf]
    have e1 : Hid (drE ws n k = 7) := by unfold Hid drE; rw [if_pos hf]
    have e2 : Hid (drL ws n k = ws) := by unfold Hid drL; rw [hf]
    rw [ek]
    clear hf ek
    go_wp2
    go_ret
    exact ⟨by rw [e1.out]; rfl, by rw [e2.out]; exact R3.out, But.of_below HB3.out⟩
  | some j =>
    have ek : ixI n k ws = (j : Int) := by unfold ixI; rw [hf]
    have e1 : Hid (drE ws n k = 0) := by unfold Hid drE; rw [if_neg (by rw [hf]; simp)]
    have e2 : Hid (drL ws n k = ws.eraseIdx j) := by unfold Hid drL; rw [hf]
    rw [ek]
    have hj := ix_lt hf
    clear hf ek
    obtain ⟨lv, cl, hR0⟩ := R3.out.row
    obtain ⟨a0, c0, rfl⟩ := hR0.shape
    obtain ⟨g, eg, hg0, hro, -, hc0⟩ := hR0.at (by omega)
    subst eg
    have hlen := R3.out.len
    have hnc : ws.length ≤ c0 := by
      obtain ⟨a9, c9, e9, h9, _⟩ := hR0
      simp only [Value.slice.injEq] at e9
      omega
    have S1 : ∃ a1 c1 w1, (Builtin.append_ #[27, 27] 27 #[.slice none 0 0, .slice (some ⟨g, 0, none⟩) j c0]).run Try.prog w3 = .ok (.slice a1 j c1) w1 ∧ RowF 10 (fun q => w3.heap.size ≤ q) w1 (.slice a1 j c1) j (wyc ws) ∧ Below w3.heap.size w3 w1 := by
      by_cases e : j = 0
      · subst e
        exact ⟨none, 0, w3, run_appW_zero w3 none 0 0 (Nat.le_refl _) _ _, RowF.nil _ _ _ _, Below.refl _ _⟩
      · obtain ⟨a1, c1, w1, hrun, hR, hb⟩ := wy_more (RowF.nil 10 (fun _ => False) w3 (fun _ => [])) (fun q hq => by omega) (fun q hq => by omega) g 0 c0 j (wyc ws) (fun q hq => wyc_len ws q) (fun q hq => wy_one _) (fun q hq => by rw [Nat.zero_add]; exact hc0 q (by omega)) (by omega) (by omega)
        rw [Nat.zero_add] at hrun hR
        refine ⟨a1, c1, w1, hrun, RowF.cong (c := fun q => if q < 0 then [] else wyc ws (q - 0)) (hR.own (fun q _ e => ?_)) (fun q hq => by rw [if_neg (by omega), Nat.sub_zero]), hb.below (Nat.le_refl _) (fun _ _ e => e)⟩
        rcases e with e | e
        · exact e.elim
        · omega
    obtain ⟨a1, c1, w4, run1, hR1, b1⟩ := S1
    have S2 : ∃ a2 c2 w2, (Builtin.append_ #[27, 27] 27 #[.slice a1 j c1, .slice (some ⟨g, if c0 = j + 1 then 0 else (j + 1) * 10, none⟩) (ws.length - (j + 1)) (c0 - (j + 1))]).run Try.prog w4 = .ok (.slice a2 (ws.length - 1) c2) w2 ∧ RowF 10 (fun q => w3.heap.size ≤ q) w2 (.slice a2 (ws.length - 1) c2) (ws.length - 1) (wyc (ws.eraseIdx j)) ∧ Below w3.heap.size w3 w2 := by
      have lR : j ≤ c1 := by
        obtain ⟨a9, c9, e9, h9, _⟩ := hR1
        simp only [Value.slice.injEq] at e9
        omega
      by_cases e : ws.length = j + 1
      · refine ⟨a1, c1, w4, ?_, ?_, b1⟩
        · rw [show ws.length - (j + 1) = 0 by omega, show ws.length - 1 = j by omega]
          exact run_appW_zero w4 a1 j c1 lR _ _
        · rw [show ws.length - 1 = j by omega]
          exact hR1.cong (fun q hq => by rw [wyc_erase, if_pos hq])
      · have hc1 : ¬ c0 = j + 1 := by omega
        rw [if_neg hc1]
        obtain ⟨a2, c2, w2, hrun, hR, hb⟩ := wy_more hR1 (fun q hq => wyc_len ws q) (fun q hq => wy_one _) g ((j + 1) * 10) (c0 - (j + 1)) (ws.length - (j + 1)) (fun q => wyc ws (j + 1 + q)) (fun q hq => wyc_len ws _) (fun q hq => wy_one _) (fun q hq => by rw [← Nat.add_mul]; exact (hc0 (j + 1 + q) (by omega)).later hg0 b1) (by omega) (by omega)
        rw [show j + (ws.length - (j + 1)) = ws.length - 1 by omega] at hrun hR
        refine ⟨a2, c2, w2, hrun, ?_, b1.trans (hb.below b1.size (fun q hq e => by have e : w3.heap.size ≤ q := e; omega))⟩
        refine RowF.cong (c := fun q => if q < j then wyc ws q else wyc ws (j + 1 + (q - j))) (hR.own (fun q _ e => ?_)) (fun q hq => ?_)
        · rcases e with e | e
          · exact e
          · have := b1.size; omega
        · rw [wyc_erase]
          by_cases e2 : q < j
          · rw [if_pos e2, if_pos e2]
          · rw [if_neg e2, if_neg e2, show j + 1 + (q - j) = q + 1 by omega]
    obtain ⟨a2, c2, w2, run2, hR2, b2⟩ := S2
    obtain ⟨m, hm⟩ : ∃ m, m = ws.length := ⟨_, rfl⟩
    have hql := R3.out.lt
    rw [← hm] at cl
    have x1 : w4.cell? ⟨q, 0, none⟩ = some (.slice (some ⟨g, 0, none⟩) m c0) := (b1.cell (p := ⟨q, 0, none⟩) hql).trans cl
    have x2 : w2.cell? ⟨q, 0, none⟩ = some (.slice (some ⟨g, 0, none⟩) m c0) := (b2.cell (p := ⟨q, 0, none⟩) hql).trans cl
    have f2 : w2.frozen? ⟨q, 0, none⟩ = false := (b2.frozen (p := ⟨q, 0, none⟩) hql).trans R3.out.fz
    obtain ⟨n1, hn1⟩ : ∃ n1, n1 = ws.length - 1 := ⟨_, rfl⟩
    rw [← hn1] at run2 hR2
    rw [← hm] at run2
    obtain ⟨n2, hn2⟩ : ∃ n2, n2 = m - (j + 1) := ⟨_, rfl⟩
    obtain ⟨c3, hc3⟩ : ∃ c3, c3 = c0 - (j + 1) := ⟨_, rfl⟩
    obtain ⟨o3, ho3⟩ : ∃ o3, o3 = if c0 = j + 1 then 0 else (j + 1) * 10 := ⟨_, rfl⟩
    rw [← hn2, ← hc3, ← ho3] at run2
    have el : (ws.eraseIdx j).length = n1 := by rw [List.length_eraseIdx_of_lt hj, hn1]
    have bG : But (Only q) w2 (w2.setCell ⟨q, 0, none⟩ (.slice a2 n1 c2)) := (But.refl (Only q) w2).cellb (b := q) rfl 0 _
    have FIN : Hid (RfR (w2.setCell ⟨q, 0, none⟩ (.slice a2 n1 c2)) q (ws.eraseIdx j) ∧ But (Only q) w (w2.setCell ⟨q, 0, none⟩ (.slice a2 n1 c2))) := by
      refine ⟨⟨⟨.slice a2 n1 c2, World.cell?_setCell_same _ _ _ x2, ?_⟩, by rw [World.frozen?_setCell]; exact f2, by rw [el]; omega, fun y hy => R3.out.ok y (List.mem_of_mem_eraseIdx hy)⟩, ?_⟩
      · rw [el]
        exact (hR2.but bG (fun g e e2 => by have e2 : g = q := e2; have e : w3.heap.size ≤ g := e; omega)).own (fun g _ e => by have e : w3.heap.size ≤ g := e; show q < g; omega)
      · exact (But.of_below (later HB3.out b2)).trans bG
    have jn : j ≤ m := by omega
    have jn1 : j + 1 ≤ m := by omega
    have nc : m ≤ c0 := by omega
    have c00 : 0 < c0 := by omega
    have zj : (j : Int) ≤ 8 := by omega
    have RUN1 := hide run1
    have RUN2 := hide run2
    have HJ := hide (And.intro jn (And.intro jn1 (And.intro nc c00)))
    have HO3 := hide ho3
    have HN2 := hide hn2
    have HC3 := hide hc3
    clear hR0 hg0 hro hc0 hnc run1 hR1 b1 run2 hR2 b2 hql hm hn1 hn2 hc3 ho3 el bG jn jn1 nc c00 hlen hj
    have EX : Hid (∀ (ev : Operand → Value) (o : Oper) (W : World) (x y : Operand), o.op = .slice 27 x (some y) none none → ev x = .slice (some ⟨g, 0, none⟩) m c0 → ev y = .int .i64 ((j : Int) + 1) → (execOp ev o).run Try.prog W = .ok (.value (.slice (some ⟨g, o3, none⟩) n2 c3)) W) := fun ev o W x y ho hx hy => by
      rw [HO3.out, HN2.out, HC3.out]
      exact exec_slG x y g m c0 (j + 1) ho hx hy HJ.out.2.1 HJ.out.2.2.1
    go_wp2_with (first | refine wpList_val rfl (exec_slF (.tmp 18) (.tmp 19) g m c0 j rfl rfl rfl HJ.out.1 HJ.out.2.2.1 HJ.out.2.2.2) ?_ | (at_builtin; refine wpList_appT rfl 27 _ _ rfl rfl _ _ rfl rfl RUN1.out ?_) | refine wpList_val rfl (EX.out _ _ _ (.tmp 27) (.tmp 29) rfl rfl rfl) ?_ | (at_builtin; refine wpList_appT rfl 27 _ _ rfl rfl _ _ rfl rfl RUN2.out ?_))
    go_ret
    exact ⟨by rw [e1.out]; rfl, by rw [e2.out]; exact FIN.out.1, FIN.out.2⟩
end Go.Proofs.Ytlfacppkgamkgaa
