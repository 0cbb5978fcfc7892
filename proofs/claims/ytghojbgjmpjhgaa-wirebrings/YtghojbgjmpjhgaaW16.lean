
/-
  Package wire: letGo.
-/
import Derived.Test.YtghojbgjmpjhgaaW15
namespace Go.Proofs.Ytghojbgjmpjhgaa
open Go.RowKit Go.Shelf
attribute [local go_sem] Oper.semAt_some

theorem wpListIn_app {F : Fence} {n : Nat} {w : World} {ops : Array Oper} {rest : List Oper} {o : Oper} {a : Act} {Q : Exit → Act → World → Prop} (hgd : o.guard = none) (d s : Operand) (t : TypeId)
    (hop : o.op = .call { callee := .builtin .append, args := #[d, s], argTypes := #[t, t] }) (v u : Value) (hd : a.eval d = v) (hs : a.eval s = u) {v' : Value} {w' : World}
    (hr : (Builtin.append_ #[t, t] o.type #[v, u]).run Try.prog w = .ok v' w') (h : wpListIn F n Try.prog ops Q rest (a.put o.dst v') w') : wpListIn F n Try.prog ops Q (o :: rest) a w := by
  refine wpListIn_plain hgd fun K hK => ?_
  unfold Oper.wpIn
  refine ⟨?_, ?_⟩
  · simp [Oper.about, hop, resolve, Target.leads, Sem.run_pure]
  · rw [Oper.semAt_plain F _ _ (by rw [hop]; intro c hc'; cases hc')]
    simp [execOp, hop, resolve, invoke, builtin, hd, hs, hr, Result.andThen]
    exact hK _ _ h

theorem Net.putO {ρ : Nat → Nat} {W : World} {b : Nat} {dv : Nat → Nat} {ck : Int} {L : Nat → List (Value × Frm)} {D : Nat → Dev} (h : Net ρ W b dv ck L D) {l : Nat} {o : Obj} (ho : W.heap[l]? = some o) (hc : o.isCells = false) (o' : Obj) : Net ρ (W.putObj l o') b dv ck L D := by
  have hb := put_but W l o'
  have nc : ∀ g, (∃ o, W.heap[g]? = some o ∧ o.isCells = true) → ¬ g = l := fun g ⟨o2, h1, h2⟩ e => by rw [e, ho] at h1; cases h1; rw [hc] at h2; cases h2
  have nb : ¬ b = l := nc b (cells_of_cell h.clock)
  refine ⟨fun g e => Nat.lt_of_lt_of_le (h.lt g e) hb.size, h.rb, h.rd, (hb.cell (p := ⟨b, 0, none⟩) h.blt nb).trans h.clock, fun i hi => (hb.cell (p := ⟨b, 1 + i, none⟩) h.blt nb).trans (h.ends i hi), fun i => (hb.frozen (p := ⟨b, i, none⟩) h.blt nb).trans (h.fz i), fun i hi => ?_, fun i hi => (h.dev i hi).grown (grownBy_putObj' W l o') (fun r e => by cases e; exact ⟨o, ho, hc⟩), h.ok, h.fl⟩
  obtain ⟨v, hv, hL⟩ := h.ls i hi
  exact ⟨v, (hb.cell (p := ⟨b, 3 + i, none⟩) h.blt nb).trans hv, row_keep hL.row hb (fun k e => nc k (cells_of_own hL.row k e)), hL.role, fun p hp => ⟨(hL.fr p hp).1.keep hb (fun k e => nc k (cells_of_own (hL.fr p hp).1 k e)), (hL.fr p hp).2⟩, hL.pw⟩
theorem fin4 {ρ ρ' : Nat → Nat} {w W : World} {b : Nat} {dv : Nat → Nat} {ck : Int} {L : Nat → List (Value × Frm)} {D : Nat → Dev} (h : Net ρ' W b dv ck L D) (he : ∀ g, g < w.heap.size → ρ' g = ρ g) (hb : But (Ro ρ) w W) (D1 D2 D3 D4 : Nat) (m1 : W.heap[D1]? = some (.deferred (some []))) (m2 : W.heap[D2]? = some (.deferred (some []))) (m3 : W.heap[D3]? = some (.deferred (some []))) (m4 : W.heap[D4]? = some (.deferred (some [])))
    (h1 : w.heap.size ≤ D1) (h2 : D1 < D2) (h3 : D2 < D3) (h4 : D3 < D4) :
    Did ρ w ((((W.putObj D4 (.deferred none)).putObj D3 (.deferred none)).putObj D2 (.deferred none)).putObj D1 (.deferred none)) b dv ck L D ∧ (W.putObj D4 (.deferred none)).heap[D3]? = some (.deferred (some [])) ∧ ((W.putObj D4 (.deferred none)).putObj D3 (.deferred none)).heap[D2]? = some (.deferred (some [])) ∧ (((W.putObj D4 (.deferred none)).putObj D3 (.deferred none)).putObj D2 (.deferred none)).heap[D1]? = some (.deferred (some [])) := by
  have q3 : (W.putObj D4 (.deferred none)).heap[D3]? = some (.deferred (some [])) := (World.putObj_heap_other (by omega)).trans m3
  have q2 : ((W.putObj D4 (.deferred none)).putObj D3 (.deferred none)).heap[D2]? = some (.deferred (some [])) := (World.putObj_heap_other (by omega)).trans ((World.putObj_heap_other (by omega)).trans m2)
  have q1 : (((W.putObj D4 (.deferred none)).putObj D3 (.deferred none)).putObj D2 (.deferred none)).heap[D1]? = some (.deferred (some [])) := (World.putObj_heap_other (by omega)).trans ((World.putObj_heap_other (by omega)).trans ((World.putObj_heap_other (by omega)).trans m1))
  refine ⟨⟨ρ', (((h.putO m4 rfl _).putO q3 rfl _).putO q2 rfl _).putO q1 rfl _, he, (((hb.put (by omega) _).put (by omega) _).put (by omega) _).put (by omega) _⟩, q3, q2, q1⟩

set_option maxRecDepth 100000 in
set_option maxHeartbeats 16000000 in
theorem letGo_in (n : Nat) (hn : 4 ≤ n) {ρ : Nat → Nat} {w : World} {b : Nat} {dv : Nat → Nat} {ck : Int} {L : Nat → List (Value × Frm)} {D : Nat → Dev} (h : Net ρ w b dv ck L D) (hck : 0 ≤ ck ∧ ck ≤ 4611686018427387904) (hT : ∀ i, i < 2 → ∀ j, j < 16 → 0 ≤ (D i).posted j ∧ (D i).posted j ≤ ck) (hTL : ∀ i, i < 2 → ∀ p ∈ L i, 0 ≤ p.2.tick ∧ p.2.tick ≤ ck) (hl : ∀ i, i < 2 → (L i).length ≤ 2513169434843) :
    CallsIn Fence.wide n Try.prog 53 #[.pointer (some ⟨b, 0, none⟩)] w fun e W' => e = .returned (.tuple #[]) ∧ Did ρ w W' b dv ck (upd (upd L 0 (youngs ck (L 0))) 1 (youngs ck (L 1))) (upd (upd D 0 (lg 16 ck (D 0))) 1 (lg 16 ck (D 1))) := by
  have h1n : 1 ≤ n := by omega
  have e0 := h.ends 0 (by omega)
  have e1 := h.ends 1 (by omega)
  have H := hide h
  have HT := hide hT
  have HTL := hide hTL
  have HL := hide hl
  have hblt := h.blt
  clear h hT hTL hl
  obtain ⟨B1, hB1⟩ : ∃ B1, B1 = w.heap.size := ⟨_, rfl⟩
  have cB1 : (w.alloc (.cells #[.pointer (some ⟨b, 0, none⟩)] 37)).cell? ⟨B1, 0, none⟩ = some (.pointer (some ⟨b, 0, none⟩)) := by rw [hB1, cell_of_row _ w.heap.size 0 _ 37 (0, 0) (heap_alloc_new w _)]; rfl
  have N0 := hide (H.out.al (.cells #[.pointer (some ⟨b, 0, none⟩)] 37))
  have f0 := N0.out.ends 0 (by omega)
  have f1 := N0.out.ends 1 (by omega)
  have hBW : w.heap.size ≤ B1 := Nat.le_of_eq hB1.symm
  have hd0 : dv 0 < w.heap.size := H.out.dlt 0 (by omega)
  have hd1 : dv 1 < w.heap.size := H.out.dlt 1 (by omega)
  have BL0 : Hid (Below w.heap.size w (w.alloc (.cells #[.pointer (some ⟨b, 0, none⟩)] 37))) := (Below.refl _ _).alloc (Nat.le_refl _) _
  have hWs : w.heap.size ≤ (w.alloc (.cells #[.pointer (some ⟨b, 0, none⟩)] 37)).heap.size := BL0.out.size
  have HTL0 := hide (HTL.out 0 (by omega))
  have HL0 := hide (HL.out 0 (by omega))
  have HT0 := hide (HT.out 0 (by omega))
  refine callsIn_of_wp_marks Try.func53 rfl trivial ?_ rfl
  simp only [Try.ntmps53, List.size_toArray, List.length_cons, List.length_nil, Nat.reduceAdd, Nat.reduceSub, Array.replicate_succ, Array.replicate_zero, List.push_toArray, List.append_toArray, List.nil_append, List.cons_append]
  gi_wp2
  rw [← hB1]
  clear hB1 e0 e1
  generalize w.alloc (.cells #[.pointer (some ⟨b, 0, none⟩)] 37) = W at *
  refine wpIn_scope_straight ?_
  gi_wp2
  refine wpIn_label ?_
  gi_wp2
  refine wpIn_loop_rounds 3 ?_
  have i0 : ∀ w, (Instr.index 36 (.agg #[.pointer (some ⟨dv 0, 0, none⟩), .pointer (some ⟨dv 1, 0, none⟩)]) (.int .i64 0)).run Try.prog w = .ok (.pointer (some ⟨dv 0, 0, none⟩)) w := fun _ => by kernel_rfl
  have i1 : ∀ w, (Instr.index 36 (.agg #[.pointer (some ⟨dv 0, 0, none⟩), .pointer (some ⟨dv 1, 0, none⟩)]) (.int .i64 1)).run Try.prog w = .ok (.pointer (some ⟨dv 1, 0, none⟩)) w := fun _ => by kernel_rfl
  clear f0 f1
  rw [roundsIn_succ]
  obtain ⟨sa, hsa⟩ : ∃ s, s = W.heap.size := ⟨_, rfl⟩
  have hBlta : B1 < W.heap.size := World.block_lt_of_cell? W _ cB1
  have YIa := young_in (n - 1) b 0 ((W.alloc (.cells #[.pointer (some ⟨dv 0, 0, none⟩)] 35)).alloc (.cells #[.slice none 0 0] 56))
  rw [show ((0 : Nat) : Int) = 0 from rfl] at YIa
  simp only [World.size_alloc, Nat.add_assoc, Nat.reduceAdd] at YIa
  have HYIa := hide YIa
  clear YIa
  gi_wp2_with fail
  refine ⟨trivial, ?_⟩
  refine HYIa.out.mono ?_
  rintro e w' ⟨rfl, rfl⟩
  clear HYIa
  gi_wp2
  have hSa : Below W.heap.size W ((((W.alloc (.cells #[.pointer (some ⟨dv 0, 0, none⟩)] 35)).alloc (.cells #[.slice none 0 0] 56)).alloc (.cells #[.pointer (some ⟨b, 0, none⟩)] 37)).alloc (.cells #[.int .i64 0] 3)) := ((((Below.refl _ W).alloc (Nat.le_refl _) _).alloc (by simp) _).alloc (by simp; omega) _).alloc (by simp; omega) _
  have b3a := (((Boxed.new W 35 (.pointer (some ⟨dv 0, 0, none⟩))).alloc (.cells #[.slice none 0 0] 56)).alloc (.cells #[.pointer (some ⟨b, 0, none⟩)] 37)).alloc (.cells #[.int .i64 0] 3)
  have b4a := ((Boxed.new (W.alloc (.cells #[.pointer (some ⟨dv 0, 0, none⟩)] 35)) 56 (.slice none 0 0)).alloc (.cells #[.pointer (some ⟨b, 0, none⟩)] 37)).alloc (.cells #[.int .i64 0] 3)
  have b5a := (Boxed.new ((W.alloc (.cells #[.pointer (some ⟨dv 0, 0, none⟩)] 35)).alloc (.cells #[.slice none 0 0] 56)) 37 (.pointer (some ⟨b, 0, none⟩))).alloc (.cells #[.int .i64 0] 3)
  have b6a := Boxed.new (((W.alloc (.cells #[.pointer (some ⟨dv 0, 0, none⟩)] 35)).alloc (.cells #[.slice none 0 0] 56)).alloc (.cells #[.pointer (some ⟨b, 0, none⟩)] 37)) 3 (.int .i64 0)
  have hsza : ((((W.alloc (.cells #[.pointer (some ⟨dv 0, 0, none⟩)] 35)).alloc (.cells #[.slice none 0 0] 56)).alloc (.cells #[.pointer (some ⟨b, 0, none⟩)] 37)).alloc (.cells #[.int .i64 0] 3)).heap.size = sa + 4 := by simp [hsa]
  simp only [World.size_alloc, Nat.add_assoc, Nat.reduceAdd] at b4a b5a b6a
  rw [← hsa] at b3a b4a b5a b6a ⊢
  generalize (((W.alloc (.cells #[.pointer (some ⟨dv 0, 0, none⟩)] 35)).alloc (.cells #[.slice none 0 0] 56)).alloc (.cells #[.pointer (some ⟨b, 0, none⟩)] 37)).alloc (.cells #[.int .i64 0] 3) = wSa at *
  have nSa := N0.out.later hSa
  have cB1a : wSa.cell? ⟨B1, 0, none⟩ = some (.pointer (some ⟨b, 0, none⟩)) := (hSa.cell (p := ⟨B1, 0, none⟩) hBlta).trans cB1
  obtain ⟨v0a, hv0a, hL0a⟩ := nSa.ls 0 (by omega)
  obtain ⟨a0a, c0a, rfl⟩ := hL0a.row.shape
  have hh4a : sa + 1 < wSa.heap.size := by omega
  have h4a : sa + 1 ≠ b ∧ b < sa := ⟨by have := N0.out.blt; omega, by have := N0.out.blt; omega⟩
  have I0a : I1 wSa (sa + 1) (youngs ck (L 0)) 0 wSa := ⟨But.refl _ _, Nat.zero_le _, _, b4a.cell, b4a.frozen, World.ownsRow_nil _ _ _ _⟩
  obtain ⟨g0a, hg4a, hg0a⟩ : ∃ g0, g0 ≠ sa + 1 ∧ ∀ k p, (L 0)[k]? = some p → a0a = some ⟨g0, 0, none⟩ ∧ wSa.cell? ⟨g0, k * 3, none⟩ = some p.1 ∧ wSa.cell? ⟨g0, k * 3 + 1, none⟩ = some (.bool p.2.bad) ∧ wSa.cell? ⟨g0, k * 3 + 2, none⟩ = some (.int .i64 p.2.tick) ∧ (∃ ap cp, p.1 = .slice ap p.2.bs.length cp) := by
    by_cases hne : L 0 = []
    · exact ⟨b, by omega, fun k p hp => by rw [hne] at hp; simp at hp⟩
    · obtain ⟨p0, hp0⟩ := List.exists_mem_of_ne_nil _ hne
      obtain ⟨k0, hk0⟩ := List.getElem?_of_mem hp0
      obtain ⟨g, c, ev, _⟩ := hL0a.at hk0
      simp only [Value.slice.injEq] at ev
      refine ⟨g, fun e => by have h1 := hL0a.role g (by rw [ev.1]; rfl); have h2 := N0.out.lt g (by rw [h1]; omega); omega, fun k p hp => ?_⟩
      obtain ⟨g', c', ev', _, _, q0, q1, q2, _⟩ := hL0a.at hp
      simp only [Value.slice.injEq] at ev'
      have : g' = g := by have := ev'.1.symm.trans ev.1; simpa using this
      subst this
      exact ⟨ev'.1, q0, q1, q2, (hL0a.fr p (List.mem_of_getElem? hp)).1.sl⟩
  have hs'a : W.heap.size ≤ sa := by omega
  have hsz'a : sa + 4 ≤ wSa.heap.size := by omega
  clear hsa hsza
  refine wpIn_range h1n (gf := 82) (lb := #[.pointer (some ⟨sa + 2, 0, none⟩), .pointer (some ⟨sa + 3, 0, none⟩)]) rfl (enters_of Try.func82 (by kernel_rfl) rfl) (I1 wSa (sa + 1) (youngs ck (L 0))) (fun _ _ => False) 0
    (young_tells (n - 1) (by omega) wSa (sa + 2) (sa + 3) b 0 g0a c0a (sa + 1) (by omega) (L 0) ck a0a b5a.cell b6a.cell hv0a nSa.clock hg0a hck HTL0.out (by have := HL0.out; omega) ⟨by omega, by omega, by omega, hg4a⟩ _ (fun k W h => h.1) (fun k W o h => h.al hh4a o) (fun k W h => h.dr hh4a))
    (fun s args ⟨p, _, e⟩ => by rw [e]; rfl) (fun k W o h => h.al hh4a o) (fun k W l o o' hl ho hc h => h.pu hh4a o' hl ho hc) (fun _ _ _ e => e) (fun _ _ _ _ _ _ _ _ e => e) (fun _ _ e => e) I0a ?rounda ?donea (fun _ _ _ _ e _ => e.elim)
  case rounda =>
    rintro l k args W' hlS hI ⟨p, hp, rfl⟩
    obtain ⟨ap, cp, epv⟩ := (hL0a.fr p (List.mem_filter.1 (List.mem_of_getElem? hp)).1).1.sl
    have hYl : (youngs ck (L 0)).length ≤ 2513169434843 := Nat.le_trans (List.length_filter_le _ _) HL0.out
    obtain ⟨pv, f⟩ := p
    simp only at epv
    subst epv
    have HP := hide hp
    have HI := hide hI
    clear hp hI hg0a hv0a hL0a nSa cB1a b3a b4a b5a b6a
    simp only [encF]
    gi_wp2
    refine ⟨KeepsFrom.of_but (K := fun _ => False) ((But.refl _ _).alloc _) (fun _ e => e.elim), ?_⟩
    intro o o' ho hc
    have hne5 : ¬ W'.heap.size = l := fun e => by rw [← e, heap_alloc_new] at ho; cases ho; cases hc
    have t5 := (T3.new W' (.slice ap f.bs.length cp) (.bool f.bad) (.int .i64 f.tick) 48).but (put_but _ l o') hne5
    have hI2 := (HI.out.al hh4a (.cells #[.slice ap f.bs.length cp, .bool f.bad, .int .i64 f.tick] 48)).pu hh4a o' hlS ho hc
    obtain ⟨t5n, ht5n⟩ : ∃ t5n, t5n = W'.heap.size := ⟨_, rfl⟩
    rw [← ht5n] at t5 ⊢
    clear ht5n hne5 ho hc
    generalize (W'.alloc (.cells #[.slice ap f.bs.length cp, .bool f.bad, .int .i64 f.tick] 48)).putObj l o' = W2 at *
    obtain ⟨v, g', c', w5, hv, ⟨a5, c5, rfl⟩, hrun, k0, k1, hI5, hK5⟩ := (hI2.al hh4a (.cells #[.slice ap f.bs.length cp, .bool f.bad, .int .i64 f.tick] 48)).push hh4a HP.out rfl hYl W2.heap.size (T3.new W2 (.slice ap f.bs.length cp) (.bool f.bad) (.int .i64 f.tick) 48)
    have h4lt : sa + 1 < W2.heap.size := Nat.lt_of_lt_of_le hh4a hI2.1.size
    have hv2 : W2.cell? ⟨sa + 1, 0, none⟩ = some (.slice a5 k c5) := by rw [← hv]; exact (((But.refl (fun _ => False) W2).alloc _).cell (p := ⟨sa + 1, 0, none⟩) h4lt id).symm
    obtain ⟨x0, x1, x2, _, _, _⟩ := t5
    have HR := hide hrun
    have FI := hide (And.intro hI5 hK5)
    clear hv hrun hI5 hK5 hI2 HI
    gi_wp2_with (gi_at_builtin; refine wpListIn_app rfl _ _ 56 rfl _ _ rfl rfl HR.out ?_)
    exact ⟨(KeepsFrom.of_but (K := fun _ => False) ((But.refl _ _).alloc _) (fun _ e => e.elim)).trans FI.out.2, FI.out.1⟩
  case donea =>
    rintro D1a k W1a hD1a rfl hI1a hK1a
    obtain ⟨va, hva, ⟨ava, cva, rfl⟩, ⟨ua, hua⟩, hfza, ρ1a, n1a, hext1a⟩ := side_store N0.out 0 (by omega) hSa (sa + 1) (by omega) hI1a
    have hb1a := hI1a.1
    have cB2a : W1a.cell? ⟨B1, 0, none⟩ = some (.pointer (some ⟨b, 0, none⟩)) := (hb1a.cell (p := ⟨B1, 0, none⟩) (show B1 < wSa.heap.size by omega) (fun e => by have e : B1 = sa + 1 := e; omega)).trans cB1a
    have c3a : W1a.cell? ⟨sa, 0, none⟩ = some (.pointer (some ⟨dv 0, 0, none⟩)) := (hb1a.cell (p := ⟨sa, 0, none⟩) (show sa < wSa.heap.size by omega) (fun e => by have e : sa = sa + 1 := e; omega)).trans b3a.cell
    have HN1a := hide n1a
    have HE1a := hide hext1a
    clear n1a hext1a hI1a hg0a hv0a hL0a nSa cB1a b3a b4a b5a b6a I0a
    have hua : W1a.cell? ⟨b, 3, none⟩ = some ua := hua
    have hfza : W1a.frozen? ⟨b, 3, none⟩ = false := hfza
    gi_wp2
    refine wpIn_mono (Q := fun e a w' => match e with
      | .normal => a = { tmps := #[.pointer (some ⟨b, 0, none⟩), .pointer (some ⟨B1, 0, none⟩), .int .i64 0, .pointer (some ⟨sa, 0, none⟩), .pointer (some ⟨sa + 1, 0, none⟩), undef, undef, undef, undef, .pointer (some ⟨b, 0, none⟩), .pointer (some ⟨b, 0, none⟩), .pointer (some ⟨b, 1, none⟩), .agg #[.pointer (some ⟨dv 0, 0, none⟩), .pointer (some ⟨dv 1, 0, none⟩)], .int .i64 0, .bool true, .int .i64 0, .pointer (some ⟨dv 0, 0, none⟩), .pointer (some ⟨b, 0, none⟩), .int .i64 0, .func (.func 82) #[] #[.pointer (some ⟨sa + 2, 0, none⟩), .pointer (some ⟨sa + 3, 0, none⟩)], undef, undef, undef, undef, undef, .pointer (some ⟨b, 0, none⟩), .int .i64 0, .slice ava (youngs ck (L 0)).length cva, .pointer (some ⟨b, 0, none⟩), .pointer (some ⟨b, 3, none⟩), .pointer (some ⟨b, 3, none⟩), undef, undef, undef, undef, undef, undef, undef, undef, undef, undef, undef, undef, undef, undef, undef], defers := [{ target := .collected D1a, args := #[] }] } ∧ w' = (W1a.setCell ⟨b, 3, none⟩ (.slice ava (youngs ck (L 0)).length cva)).drew
      | _ => False) ?_ ?_
    · gi_region_with (fail)
      all_goals exact ⟨rfl, rfl⟩
    rintro e a1 w2a hq
    cases e with
    | normal => ?_
    | _ => exact hq.elim
    obtain ⟨rfl, hw2a⟩ := hq
    have n2a : Net ρ1a w2a b dv ck (upd L 0 (youngs ck (L 0))) D := by rw [hw2a]; exact HN1a.out.drew
    have hb2a : But (Only b) W1a w2a := by rw [hw2a]; exact ((But.refl (Only b) W1a).setCell (p := ⟨b, 3, none⟩) (.inr rfl) _).drew
    have cB3a : w2a.cell? ⟨B1, 0, none⟩ = some (.pointer (some ⟨b, 0, none⟩)) := (hb2a.cell (p := ⟨B1, 0, none⟩) (World.block_lt_of_cell? W1a _ cB2a) (fun e => by have e : B1 = b := e; omega)).trans cB2a
    have c3'a : w2a.cell? ⟨sa, 0, none⟩ = some (.pointer (some ⟨dv 0, 0, none⟩)) := (hb2a.cell (p := ⟨sa, 0, none⟩) (World.block_lt_of_cell? W1a _ c3a) (fun e => by have e : sa = b := e; omega)).trans c3a
    have hK2a : w2a.heap[D1a]? = some (.deferred (some [])) := (hb2a.block D1a (Array.getElem?_eq_some_iff.1 hK1a).1 (fun e => by have e : D1a = b := e; omega)).trans hK1a
    have hD1lta : D1a < w2a.heap.size := (Array.getElem?_eq_some_iff.1 hK2a).1
    have hszwa : wSa.heap.size ≤ w2a.heap.size := by have h1 := hb1a.size; have h2 := hb2a.size; omega
    have BW2a : Hid (But (fun g => g = b ∨ g = dv 0) W w2a) := ((But.of_below hSa).trans' hb1a (fun g hg e => by have e : g = sa + 1 := e; omega)).trans' hb2a (fun g hg e => .inl e)
    clear hw2a hb2a hua hfza hva cB2a c3a hK1a HN1a
    obtain ⟨s2a, hs2a⟩ : ∃ s2, s2 = w2a.heap.size := ⟨_, rfl⟩
    have WIa := hide (waiting_in (n - 1) (dv 0) w2a)
    gi_wp2_with fail
    refine ⟨trivial, ?_⟩
    refine WIa.out.mono ?_
    rintro e w' ⟨rfl, rfl⟩
    clear WIa
    gi_wp2
    rw [← hs2a]
    have b7a := Boxed.new w2a 35 (.pointer (some ⟨dv 0, 0, none⟩))
    rw [← hs2a] at b7a
    have n3a := n2a.al (.cells #[.pointer (some ⟨dv 0, 0, none⟩)] 35)
    have hbaa : But (fun _ => False) w2a (w2a.alloc (.cells #[.pointer (some ⟨dv 0, 0, none⟩)] 35)) := (But.refl _ w2a).alloc _
    have cB4a := (hbaa.cell (p := ⟨B1, 0, none⟩) (World.block_lt_of_cell? w2a _ cB3a) id).trans cB3a
    have c34a := (hbaa.cell (p := ⟨sa, 0, none⟩) (World.block_lt_of_cell? w2a _ c3'a) id).trans c3'a
    have hK3a : (w2a.alloc (.cells #[.pointer (some ⟨dv 0, 0, none⟩)] 35)).heap[D1a]? = some (.deferred (some [])) := (Below.heap_alloc _ _ _ (Array.getElem?_eq_some_iff.1 hK2a).1).trans hK2a
    have BW3a : Hid (But (fun g => g = b ∨ g = dv 0) W (w2a.alloc (.cells #[.pointer (some ⟨dv 0, 0, none⟩)] 35))) := BW2a.out.alloc _
    have hs3a : s2a < (w2a.alloc (.cells #[.pointer (some ⟨dv 0, 0, none⟩)] 35)).heap.size := by simp [hs2a]
    have hs4a : w2a.heap.size ≤ s2a := by omega
    clear hbaa cB3a c3'a hK2a BW2a n2a hs2a
    generalize w2a.alloc (.cells #[.pointer (some ⟨dv 0, 0, none⟩)] 35) = wTa at *
    have nBa : ¬ Only (dv 0) B1 := fun e => by have e : B1 = dv 0 := e; omega
    have nS'a : ¬ Only (dv 0) sa := fun e => by have e : sa = dv 0 := e; omega
    have nb0a : ¬ Only (dv 0) b := fun e => by have e : b = dv 0 := e; have h1 := n3a.rb; rw [e, n3a.rd 0 (by omega)] at h1; omega
    have n7a : ¬ Only (dv 0) s2a := fun e => by have e : s2a = dv 0 := e; omega
    obtain ⟨Aa, hAa⟩ : ∃ A : Nat → Prop, A = fun g => ρ1a g ≠ 0 ∨ wTa.heap.size ≤ g := ⟨_, rfl⟩
    have dAa : DevAt LN Aa wTa (dv 0) (D 0) := by rw [hAa]; exact (n3a.dev 0 (by omega)).avoid (fun x hx e => e.elim id (fun e => by omega)) (.inl (n3a.dev 0 (by omega)).mem)
    have HAa := hide hAa
    have J0a : I2 wTa Aa (dv 0) ck (lg 16 ck (D 0)) (0, D 0) wTa := ⟨But.refl _ _, dAa, n3a.ok 0 (by omega), rfl, by simp only; unfold spnD; omega, HT0.out⟩
    have hclka := n3a.clock
    have hbTa := n3a.blt
    have HN3a := hide n3a
    have HK3a := hide hK3a
    clear hAa n3a hK3a
    refine wpIn_range h1n (gf := 83) (lb := #[.pointer (some ⟨s2a, 0, none⟩)]) rfl (enters_of Try.func83 (by kernel_rfl) rfl) (I2 wTa Aa (dv 0) ck (lg 16 ck (D 0))) (X2 wTa Aa (dv 0) (lg 16 ck (D 0))) (0, D 0)
      (waiting_tells (n - 1) (by omega) s2a (dv 0) Aa _ (fun s W h => ⟨(h.1.cell (p := ⟨s2a, 0, none⟩) hs3a n7a).trans b7a.cell, h.2.1, h.2.2.1⟩) _)
      (fun s args ⟨_, e⟩ => by rw [e]; rfl) (fun s W o h => h.al o) (fun s W l o o' hl ho hc h => h.pu o' hl ho hc) (fun c W o h => h.al o) (fun c W l o o' hl ho hc h => h.pu o' hl ho hc) (fun c W h => h.dr) J0a ?round2a ?done2a ?stop2a
    case round2a =>
      rintro l ⟨k, Dk⟩ args W' hlS hI ⟨ho, rfl⟩
      simp only at ho
      have HI := hide hI
      have HO := hide ho
      clear hI ho
      gi_wp2
      refine ⟨KeepsFrom.refl _ _, ?_⟩
      intro o o' hoo hc
      have hI2 := HI.out.pu o' hlS hoo hc
      clear hoo hc HI
      generalize W'.putObj l o' = W2 at *
      have hb := hI2.1
      have cB5 : W2.cell? ⟨B1, 0, none⟩ = some (.pointer (some ⟨b, 0, none⟩)) := (hb.cell (p := ⟨B1, 0, none⟩) (World.block_lt_of_cell? wTa _ cB4a) nBa).trans cB4a
      have c35 : W2.cell? ⟨sa, 0, none⟩ = some (.pointer (some ⟨dv 0, 0, none⟩)) := (hb.cell (p := ⟨sa, 0, none⟩) (World.block_lt_of_cell? wTa _ c34a) nS'a).trans c34a
      have ck5 : W2.cell? ⟨b, 0, none⟩ = some (.int .i64 ck) := (hb.cell (p := ⟨b, 0, none⟩) hbTa nb0a).trans hclka
      have hol : 0 ≤ Dk.olT ∧ Dk.olT ≤ ck := by
        unfold Dev.olT
        split
        · omega
        · exact hI2.2.2.2.2.2 _ (by have := hI2.2.2.1.ring 4 (by omega) (by omega); simp only at this; omega)
      have O := hide (isOld_any ck5 Dk.olT hck ⟨hol.1, by omega⟩)
      have T := hide (Take_any hI2.2.1 hI2.2.2.1)
      have HI2 := hide hI2
      clear hI2 hb ck5 hol cB4a c34a b7a hclka dAa J0a
      gi_wp2_with fail
      refine ⟨trivial, fun _ => (by omega), ?_⟩
      refine ((callsIn_wide.2 O.out).inRound l).mono ?_
      rintro e W3 ⟨rfl, rfl⟩
      clear O
      cases hold : old ck Dk.olT with
      | false =>
        have HH := hide hold
        clear hold T
        gi_wp2
        exact ⟨KeepsFrom.refl _ _, HI2.out.stop (by simp only; rw [HH.out]; simp) HI2.out.2.1 (But.refl _ _)⟩
      | true =>
        have HH := hide hold
        clear hold
        obtain ⟨er, her⟩ : ∃ er, er = Dk.tkE := ⟨_, rfl⟩
        rw [← her] at T
        have HER := hide her
        clear her
        gi_wp2_with fail
        refine ⟨trivial, fun _ => (by omega), ?_⟩
        refine ((callsIn_wide.2 T.out).inRound l).mono ?_
        rintro e W4 ⟨xa, xc, rfl, _, hd4, hb4⟩
        have KF : Hid (∀ o, KeepsFrom wTa.heap.size W3 (W4.alloc o)) := fun o => (KeepsFrom.of_but hb4 (fun g e => by have e : g = dv 0 := e; rw [e]; exact cells_of_cell (HI2.out.2.1.creg 0 (by omega)))).trans (KeepsFrom.of_but (K := fun _ => False) ((But.refl _ _).alloc _) (fun _ e => e.elim))
        have D4 : Hid (∀ o, DevAt LN Aa (W4.alloc o) (dv 0) Dk.tkD ∧ But (Only (dv 0)) W3 (W4.alloc o)) := fun o => ⟨hd4.later ((Below.refl _ _).alloc (Nat.le_refl _) o), hb4.alloc o⟩
        clear hd4 hb4 T
        by_cases e0 : er = 0
        · subst e0
          have FF : Hid (∀ o, I2 wTa Aa (dv 0) ck (lg 16 ck (D 0)) (k + 1, Dk.tkD) (W4.alloc o)) := fun o => HI2.out.tk HO.out HH.out HER.out.symm (D4.out o).1 (D4.out o).2
          gi_wp2
          first
            | exact ⟨KF.out _, _, ⟨rfl, HER.out.symm⟩, FF.out _⟩
            | exact ⟨KF.out _, k + 1, Dk.tkD, ⟨⟨rfl, rfl⟩, HER.out.symm⟩, FF.out _⟩
            | exact ⟨KF.out _, k + 1, Dk.tkD, ⟨rfl, HER.out.symm⟩, FF.out _⟩
            | exact ⟨KF.out _, k + 1, Dk.tkD, (by simp [← HER.out]), FF.out _⟩
        · have q : (er != 0) = true := by simp [e0]
          have tkd : Dk.tkD = Dk := by unfold Dev.tkD; rw [if_neg (by rw [← HER.out]; exact e0)]
          rw [tkd] at D4
          have E0 := hide e0
          clear e0 tkd
          gi_wp2
          exact ⟨KF.out _, HI2.out.stop (by simp only; rw [← HER.out]; intro c; exact E0.out c.2.2) (D4.out _).1 (D4.out _).2⟩
    case done2a =>
      rintro D2a ⟨k, Dk⟩ W5a hD2a hfin hI5 hK5a
      have hXa := hI5.fin hfin
      clear hI5 hfin
      gi_wp2
      have nEa := HN3a.out.acts' 0 (by omega) (by rw [← HAa.out]; exact hXa.2.1) hXa.2.2 hXa.1 (fun _ _ => rfl) (fun g e => Nat.lt_of_lt_of_le (HN3a.out.lt g e) hXa.1.size)
      have hKaa : W5a.heap[D1a]? = some (.deferred (some [])) := (hXa.1.block D1a (Array.getElem?_eq_some_iff.1 HK3a.out).1 (fun e => by have e : D1a = dv 0 := e; omega)).trans HK3a.out
      have cBEa : W5a.cell? ⟨B1, 0, none⟩ = some (.pointer (some ⟨b, 0, none⟩)) := (hXa.1.cell (p := ⟨B1, 0, none⟩) (World.block_lt_of_cell? wTa _ cB4a) nBa).trans cB4a
      have BWEa : Hid (But (fun g => g = b ∨ g = dv 0) W W5a) := BW3a.out.trans' hXa.1 (fun g _ e => .inr e)
      have hExta : Hid (∀ g, g < W.heap.size → ρ1a g = ρ g) := fun g hg => HE1a.out g (by omega)
      have HNEa := hide nEa
      have HKAa := hide hKaa
      have HKBa := hide hK5a
      have hD5a : D2a < W5a.heap.size := (Array.getElem?_eq_some_iff.1 hK5a).1
      have hD6a : D1a < W5a.heap.size := (Array.getElem?_eq_some_iff.1 hKaa).1
      have hszEa : wTa.heap.size ≤ W5a.heap.size := hXa.1.size
      have hszTa : w2a.heap.size ≤ wTa.heap.size := by omega
      clear nEa hKaa hK5a hXa cB4a c34a b7a hclka dAa J0a HN3a HK3a BW3a HE1a
      obtain ⟨Lx, hLx⟩ : ∃ Lx, Lx = upd L 0 (youngs ck (L 0)) := ⟨_, rfl⟩
      obtain ⟨Dx, hDx⟩ : ∃ Dx, Dx = upd D 0 (lg 16 ck (D 0)) := ⟨_, rfl⟩
      have eL : Lx 1 = L 1 := by rw [hLx, upd_other _ _ _ _ (by omega)]
      have eD : Dx 1 = D 1 := by rw [hDx, upd_other _ _ _ _ (by omega)]
      have HTL1 : Hid (∀ p ∈ Lx 1, 0 ≤ p.2.tick ∧ p.2.tick ≤ ck) := by rw [eL]; exact HTL.out 1 (by omega)
      have HL1 : Hid ((Lx 1).length ≤ 2513169434843) := by rw [eL]; exact HL.out 1 (by omega)
      have HT1 : Hid (∀ j, j < 16 → 0 ≤ (Dx 1).posted j ∧ (Dx 1).posted j ≤ ck) := by rw [eD]; exact HT.out 1 (by omega)
      have HLX : Hid (upd Lx 1 (youngs ck (Lx 1)) = upd (upd L 0 (youngs ck (L 0))) 1 (youngs ck (L 1))) := by rw [eL, hLx]; rfl
      have HDX : Hid (upd Dx 1 (lg 16 ck (Dx 1)) = upd (upd D 0 (lg 16 ck (D 0))) 1 (lg 16 ck (D 1))) := by rw [eD, hDx]; rfl
      rw [← hLx, ← hDx] at HNEa
      clear hLx hDx eL eD
      rw [roundsIn_succ]
      obtain ⟨sba, hsba⟩ : ∃ s, s = W5a.heap.size := ⟨_, rfl⟩
      have hBltba : B1 < W5a.heap.size := World.block_lt_of_cell? W5a _ cBEa
      have YIba := young_in (n - 1) b 1 ((W5a.alloc (.cells #[.pointer (some ⟨dv 1, 0, none⟩)] 35)).alloc (.cells #[.slice none 0 0] 56))
      rw [show ((1 : Nat) : Int) = 1 from rfl] at YIba
      simp only [World.size_alloc, Nat.add_assoc, Nat.reduceAdd] at YIba
      have HYIba := hide YIba
      clear YIba
      gi_wp2_with fail
      refine ⟨trivial, ?_⟩
      refine HYIba.out.mono ?_
      rintro e w' ⟨rfl, rfl⟩
      clear HYIba
      gi_wp2
      have hSba : Below W5a.heap.size W5a ((((W5a.alloc (.cells #[.pointer (some ⟨dv 1, 0, none⟩)] 35)).alloc (.cells #[.slice none 0 0] 56)).alloc (.cells #[.pointer (some ⟨b, 0, none⟩)] 37)).alloc (.cells #[.int .i64 1] 3)) := ((((Below.refl _ W5a).alloc (Nat.le_refl _) _).alloc (by simp) _).alloc (by simp; omega) _).alloc (by simp; omega) _
      have b3ba := (((Boxed.new W5a 35 (.pointer (some ⟨dv 1, 0, none⟩))).alloc (.cells #[.slice none 0 0] 56)).alloc (.cells #[.pointer (some ⟨b, 0, none⟩)] 37)).alloc (.cells #[.int .i64 1] 3)
      have b4ba := ((Boxed.new (W5a.alloc (.cells #[.pointer (some ⟨dv 1, 0, none⟩)] 35)) 56 (.slice none 0 0)).alloc (.cells #[.pointer (some ⟨b, 0, none⟩)] 37)).alloc (.cells #[.int .i64 1] 3)
      have b5ba := (Boxed.new ((W5a.alloc (.cells #[.pointer (some ⟨dv 1, 0, none⟩)] 35)).alloc (.cells #[.slice none 0 0] 56)) 37 (.pointer (some ⟨b, 0, none⟩))).alloc (.cells #[.int .i64 1] 3)
      have b6ba := Boxed.new (((W5a.alloc (.cells #[.pointer (some ⟨dv 1, 0, none⟩)] 35)).alloc (.cells #[.slice none 0 0] 56)).alloc (.cells #[.pointer (some ⟨b, 0, none⟩)] 37)) 3 (.int .i64 1)
      have hszba : ((((W5a.alloc (.cells #[.pointer (some ⟨dv 1, 0, none⟩)] 35)).alloc (.cells #[.slice none 0 0] 56)).alloc (.cells #[.pointer (some ⟨b, 0, none⟩)] 37)).alloc (.cells #[.int .i64 1] 3)).heap.size = sba + 4 := by simp [hsba]
      simp only [World.size_alloc, Nat.add_assoc, Nat.reduceAdd] at b4ba b5ba b6ba
      rw [← hsba] at b3ba b4ba b5ba b6ba ⊢
      generalize (((W5a.alloc (.cells #[.pointer (some ⟨dv 1, 0, none⟩)] 35)).alloc (.cells #[.slice none 0 0] 56)).alloc (.cells #[.pointer (some ⟨b, 0, none⟩)] 37)).alloc (.cells #[.int .i64 1] 3) = wSba at *
      have nSba := HNEa.out.later hSba
      have cB1ba : wSba.cell? ⟨B1, 0, none⟩ = some (.pointer (some ⟨b, 0, none⟩)) := (hSba.cell (p := ⟨B1, 0, none⟩) hBltba).trans cBEa
      obtain ⟨v0ba, hv0ba, hL0ba⟩ := nSba.ls 1 (by omega)
      obtain ⟨a0ba, c0ba, rfl⟩ := hL0ba.row.shape
      have hh4ba : sba + 1 < wSba.heap.size := by omega
      have h4ba : sba + 1 ≠ b ∧ b < sba := ⟨by have := HNEa.out.blt; omega, by have := HNEa.out.blt; omega⟩
      have I0ba : I1 wSba (sba + 1) (youngs ck (Lx 1)) 0 wSba := ⟨But.refl _ _, Nat.zero_le _, _, b4ba.cell, b4ba.frozen, World.ownsRow_nil _ _ _ _⟩
      obtain ⟨g0ba, hg4ba, hg0ba⟩ : ∃ g0, g0 ≠ sba + 1 ∧ ∀ k p, (Lx 1)[k]? = some p → a0ba = some ⟨g0, 0, none⟩ ∧ wSba.cell? ⟨g0, k * 3, none⟩ = some p.1 ∧ wSba.cell? ⟨g0, k * 3 + 1, none⟩ = some (.bool p.2.bad) ∧ wSba.cell? ⟨g0, k * 3 + 2, none⟩ = some (.int .i64 p.2.tick) ∧ (∃ ap cp, p.1 = .slice ap p.2.bs.length cp) := by
        by_cases hne : Lx 1 = []
        · exact ⟨b, by omega, fun k p hp => by rw [hne] at hp; simp at hp⟩
        · obtain ⟨p0, hp0⟩ := List.exists_mem_of_ne_nil _ hne
          obtain ⟨k0, hk0⟩ := List.getElem?_of_mem hp0
          obtain ⟨g, c, ev, _⟩ := hL0ba.at hk0
          simp only [Value.slice.injEq] at ev
          refine ⟨g, fun e => by have h1 := hL0ba.role g (by rw [ev.1]; rfl); have h2 := HNEa.out.lt g (by rw [h1]; omega); omega, fun k p hp => ?_⟩
          obtain ⟨g', c', ev', _, _, q0, q1, q2, _⟩ := hL0ba.at hp
          simp only [Value.slice.injEq] at ev'
          have : g' = g := by have := ev'.1.symm.trans ev.1; simpa using this
          subst this
          exact ⟨ev'.1, q0, q1, q2, (hL0ba.fr p (List.mem_of_getElem? hp)).1.sl⟩
      have hs'ba : W5a.heap.size ≤ sba := by omega
      have hsz'ba : sba + 4 ≤ wSba.heap.size := by omega
      clear hsba hszba
      refine wpIn_range h1n (gf := 82) (lb := #[.pointer (some ⟨sba + 2, 0, none⟩), .pointer (some ⟨sba + 3, 0, none⟩)]) rfl (enters_of Try.func82 (by kernel_rfl) rfl) (I1 wSba (sba + 1) (youngs ck (Lx 1))) (fun _ _ => False) 0
        (young_tells (n - 1) (by omega) wSba (sba + 2) (sba + 3) b 1 g0ba c0ba (sba + 1) (by omega) (Lx 1) ck a0ba b5ba.cell b6ba.cell hv0ba nSba.clock hg0ba hck HTL1.out (by have := HL1.out; omega) ⟨by omega, by omega, by omega, hg4ba⟩ _ (fun k W h => h.1) (fun k W o h => h.al hh4ba o) (fun k W h => h.dr hh4ba))
        (fun s args ⟨p, _, e⟩ => by rw [e]; rfl) (fun k W o h => h.al hh4ba o) (fun k W l o o' hl ho hc h => h.pu hh4ba o' hl ho hc) (fun _ _ _ e => e) (fun _ _ _ _ _ _ _ _ e => e) (fun _ _ e => e) I0ba ?roundba ?doneba (fun _ _ _ _ e _ => e.elim)
      case roundba =>
        rintro l k args W' hlS hI ⟨p, hp, rfl⟩
        obtain ⟨ap, cp, epv⟩ := (hL0ba.fr p (List.mem_filter.1 (List.mem_of_getElem? hp)).1).1.sl
        have hYl : (youngs ck (Lx 1)).length ≤ 2513169434843 := Nat.le_trans (List.length_filter_le _ _) HL1.out
        obtain ⟨pv, f⟩ := p
        simp only at epv
        subst epv
        have HP := hide hp
        have HI := hide hI
        clear hp hI hg0ba hv0ba hL0ba nSba cB1ba b3ba b4ba b5ba b6ba
        simp only [encF]
        gi_wp2
        refine ⟨KeepsFrom.of_but (K := fun _ => False) ((But.refl _ _).alloc _) (fun _ e => e.elim), ?_⟩
        intro o o' ho hc
        have hne5 : ¬ W'.heap.size = l := fun e => by rw [← e, heap_alloc_new] at ho; cases ho; cases hc
        have t5 := (T3.new W' (.slice ap f.bs.length cp) (.bool f.bad) (.int .i64 f.tick) 48).but (put_but _ l o') hne5
        have hI2 := (HI.out.al hh4ba (.cells #[.slice ap f.bs.length cp, .bool f.bad, .int .i64 f.tick] 48)).pu hh4ba o' hlS ho hc
        obtain ⟨t5n, ht5n⟩ : ∃ t5n, t5n = W'.heap.size := ⟨_, rfl⟩
        rw [← ht5n] at t5 ⊢
        clear ht5n hne5 ho hc
        generalize (W'.alloc (.cells #[.slice ap f.bs.length cp, .bool f.bad, .int .i64 f.tick] 48)).putObj l o' = W2 at *
        obtain ⟨v, g', c', w5, hv, ⟨a5, c5, rfl⟩, hrun, k0, k1, hI5, hK5⟩ := (hI2.al hh4ba (.cells #[.slice ap f.bs.length cp, .bool f.bad, .int .i64 f.tick] 48)).push hh4ba HP.out rfl hYl W2.heap.size (T3.new W2 (.slice ap f.bs.length cp) (.bool f.bad) (.int .i64 f.tick) 48)
        have h4lt : sba + 1 < W2.heap.size := Nat.lt_of_lt_of_le hh4ba hI2.1.size
        have hv2 : W2.cell? ⟨sba + 1, 0, none⟩ = some (.slice a5 k c5) := by rw [← hv]; exact (((But.refl (fun _ => False) W2).alloc _).cell (p := ⟨sba + 1, 0, none⟩) h4lt id).symm
        obtain ⟨x0, x1, x2, _, _, _⟩ := t5
        have HR := hide hrun
        have FI := hide (And.intro hI5 hK5)
        clear hv hrun hI5 hK5 hI2 HI
        gi_wp2_with (gi_at_builtin; refine wpListIn_app rfl _ _ 56 rfl _ _ rfl rfl HR.out ?_)
        exact ⟨(KeepsFrom.of_but (K := fun _ => False) ((But.refl _ _).alloc _) (fun _ e => e.elim)).trans FI.out.2, FI.out.1⟩
      case doneba =>
        rintro D1ba k W1ba hD1ba rfl hI1ba hK1ba
        obtain ⟨vba, hvba, ⟨avba, cvba, rfl⟩, ⟨uba, huba⟩, hfzba, ρ1ba, n1ba, hext1ba⟩ := side_store HNEa.out 1 (by omega) hSba (sba + 1) (by omega) hI1ba
        have hb1ba := hI1ba.1
        have cB2ba : W1ba.cell? ⟨B1, 0, none⟩ = some (.pointer (some ⟨b, 0, none⟩)) := (hb1ba.cell (p := ⟨B1, 0, none⟩) (show B1 < wSba.heap.size by omega) (fun e => by have e : B1 = sba + 1 := e; omega)).trans cB1ba
        have c3ba : W1ba.cell? ⟨sba, 0, none⟩ = some (.pointer (some ⟨dv 1, 0, none⟩)) := (hb1ba.cell (p := ⟨sba, 0, none⟩) (show sba < wSba.heap.size by omega) (fun e => by have e : sba = sba + 1 := e; omega)).trans b3ba.cell
        have HN1ba := hide n1ba
        have HE1ba := hide hext1ba
        clear n1ba hext1ba hI1ba hg0ba hv0ba hL0ba nSba cB1ba b3ba b4ba b5ba b6ba I0ba
        have huba : W1ba.cell? ⟨b, 4, none⟩ = some uba := huba
        have hfzba : W1ba.frozen? ⟨b, 4, none⟩ = false := hfzba
        gi_wp2
        refine wpIn_mono (Q := fun e a w' => match e with
          | .normal => a = { tmps := #[.pointer (some ⟨b, 0, none⟩), .pointer (some ⟨B1, 0, none⟩), .int .i64 1, .pointer (some ⟨sba, 0, none⟩), .pointer (some ⟨sba + 1, 0, none⟩), undef, undef, undef, undef, .pointer (some ⟨b, 0, none⟩), .pointer (some ⟨b, 0, none⟩), .pointer (some ⟨b, 1, none⟩), .agg #[.pointer (some ⟨dv 0, 0, none⟩), .pointer (some ⟨dv 1, 0, none⟩)], .int .i64 1, .bool true, .int .i64 1, .pointer (some ⟨dv 1, 0, none⟩), .pointer (some ⟨b, 0, none⟩), .int .i64 1, .func (.func 82) #[] #[.pointer (some ⟨sba + 2, 0, none⟩), .pointer (some ⟨sba + 3, 0, none⟩)], undef, undef, undef, undef, undef, .pointer (some ⟨b, 0, none⟩), .int .i64 1, .slice avba (youngs ck (Lx 1)).length cvba, .pointer (some ⟨b, 0, none⟩), .pointer (some ⟨b, 3, none⟩), .pointer (some ⟨b, 4, none⟩), .pointer (some ⟨dv 0, 0, none⟩), .func (.func 83) #[] #[.pointer (some ⟨s2a, 0, none⟩)], undef, undef, undef, undef, undef, undef, undef, undef, undef, undef, undef, undef, .int .i64 1], defers := [{ target := .collected D1ba, args := #[] }, { target := .collected D2a, args := #[] }, { target := .collected D1a, args := #[] }] } ∧ w' = (W1ba.setCell ⟨b, 4, none⟩ (.slice avba (youngs ck (Lx 1)).length cvba)).drew
          | _ => False) ?_ ?_
        · gi_region_with (fail)
          all_goals exact ⟨rfl, rfl⟩
        rintro e a1 w2ba hq
        cases e with
        | normal => ?_
        | _ => exact hq.elim
        obtain ⟨rfl, hw2ba⟩ := hq
        have n2ba : Net ρ1ba w2ba b dv ck (upd Lx 1 (youngs ck (Lx 1))) Dx := by rw [hw2ba]; exact HN1ba.out.drew
        have hb2ba : But (Only b) W1ba w2ba := by rw [hw2ba]; exact ((But.refl (Only b) W1ba).setCell (p := ⟨b, 4, none⟩) (.inr rfl) _).drew
        have cB3ba : w2ba.cell? ⟨B1, 0, none⟩ = some (.pointer (some ⟨b, 0, none⟩)) := (hb2ba.cell (p := ⟨B1, 0, none⟩) (World.block_lt_of_cell? W1ba _ cB2ba) (fun e => by have e : B1 = b := e; omega)).trans cB2ba
        have c3'ba : w2ba.cell? ⟨sba, 0, none⟩ = some (.pointer (some ⟨dv 1, 0, none⟩)) := (hb2ba.cell (p := ⟨sba, 0, none⟩) (World.block_lt_of_cell? W1ba _ c3ba) (fun e => by have e : sba = b := e; omega)).trans c3ba
        have hK2ba : w2ba.heap[D1ba]? = some (.deferred (some [])) := (hb2ba.block D1ba (Array.getElem?_eq_some_iff.1 hK1ba).1 (fun e => by have e : D1ba = b := e; omega)).trans hK1ba
        have hD1ltba : D1ba < w2ba.heap.size := (Array.getElem?_eq_some_iff.1 hK2ba).1
        have hszwba : wSba.heap.size ≤ w2ba.heap.size := by have h1 := hb1ba.size; have h2 := hb2ba.size; omega
        have BW2ba : Hid (But (fun g => g = b ∨ g = dv 1) W5a w2ba) := ((But.of_below hSba).trans' hb1ba (fun g hg e => by have e : g = sba + 1 := e; omega)).trans' hb2ba (fun g hg e => .inl e)
        clear hw2ba hb2ba huba hfzba hvba cB2ba c3ba hK1ba HN1ba
        obtain ⟨s2ba, hs2ba⟩ : ∃ s2, s2 = w2ba.heap.size := ⟨_, rfl⟩
        have WIba := hide (waiting_in (n - 1) (dv 1) w2ba)
        gi_wp2_with fail
        refine ⟨trivial, ?_⟩
        refine WIba.out.mono ?_
        rintro e w' ⟨rfl, rfl⟩
        clear WIba
        gi_wp2
        rw [← hs2ba]
        have b7ba := Boxed.new w2ba 35 (.pointer (some ⟨dv 1, 0, none⟩))
        rw [← hs2ba] at b7ba
        have n3ba := n2ba.al (.cells #[.pointer (some ⟨dv 1, 0, none⟩)] 35)
        have hbaba : But (fun _ => False) w2ba (w2ba.alloc (.cells #[.pointer (some ⟨dv 1, 0, none⟩)] 35)) := (But.refl _ w2ba).alloc _
        have cB4ba := (hbaba.cell (p := ⟨B1, 0, none⟩) (World.block_lt_of_cell? w2ba _ cB3ba) id).trans cB3ba
        have c34ba := (hbaba.cell (p := ⟨sba, 0, none⟩) (World.block_lt_of_cell? w2ba _ c3'ba) id).trans c3'ba
        have hK3ba : (w2ba.alloc (.cells #[.pointer (some ⟨dv 1, 0, none⟩)] 35)).heap[D1ba]? = some (.deferred (some [])) := (Below.heap_alloc _ _ _ (Array.getElem?_eq_some_iff.1 hK2ba).1).trans hK2ba
        have BW3ba : Hid (But (fun g => g = b ∨ g = dv 1) W5a (w2ba.alloc (.cells #[.pointer (some ⟨dv 1, 0, none⟩)] 35))) := BW2ba.out.alloc _
        have hs3ba : s2ba < (w2ba.alloc (.cells #[.pointer (some ⟨dv 1, 0, none⟩)] 35)).heap.size := by simp [hs2ba]
        have hs4ba : w2ba.heap.size ≤ s2ba := by omega
        clear hbaba cB3ba c3'ba hK2ba BW2ba n2ba hs2ba
        generalize w2ba.alloc (.cells #[.pointer (some ⟨dv 1, 0, none⟩)] 35) = wTba at *
        have nBba : ¬ Only (dv 1) B1 := fun e => by have e : B1 = dv 1 := e; omega
        have nS'ba : ¬ Only (dv 1) sba := fun e => by have e : sba = dv 1 := e; omega
        have nb0ba : ¬ Only (dv 1) b := fun e => by have e : b = dv 1 := e; have h1 := n3ba.rb; rw [e, n3ba.rd 1 (by omega)] at h1; omega
        have n7ba : ¬ Only (dv 1) s2ba := fun e => by have e : s2ba = dv 1 := e; omega
        obtain ⟨Aba, hAba⟩ : ∃ A : Nat → Prop, A = fun g => ρ1ba g ≠ 0 ∨ wTba.heap.size ≤ g := ⟨_, rfl⟩
        have dAba : DevAt LN Aba wTba (dv 1) (Dx 1) := by rw [hAba]; exact (n3ba.dev 1 (by omega)).avoid (fun x hx e => e.elim id (fun e => by omega)) (.inl (n3ba.dev 1 (by omega)).mem)
        have HAba := hide hAba
        have J0ba : I2 wTba Aba (dv 1) ck (lg 16 ck (Dx 1)) (0, Dx 1) wTba := ⟨But.refl _ _, dAba, n3ba.ok 1 (by omega), rfl, by simp only; unfold spnD; omega, HT1.out⟩
        have hclkba := n3ba.clock
        have hbTba := n3ba.blt
        have HN3ba := hide n3ba
        have HK3ba := hide hK3ba
        clear hAba n3ba hK3ba
        refine wpIn_range h1n (gf := 83) (lb := #[.pointer (some ⟨s2ba, 0, none⟩)]) rfl (enters_of Try.func83 (by kernel_rfl) rfl) (I2 wTba Aba (dv 1) ck (lg 16 ck (Dx 1))) (X2 wTba Aba (dv 1) (lg 16 ck (Dx 1))) (0, Dx 1)
          (waiting_tells (n - 1) (by omega) s2ba (dv 1) Aba _ (fun s W h => ⟨(h.1.cell (p := ⟨s2ba, 0, none⟩) hs3ba n7ba).trans b7ba.cell, h.2.1, h.2.2.1⟩) _)
          (fun s args ⟨_, e⟩ => by rw [e]; rfl) (fun s W o h => h.al o) (fun s W l o o' hl ho hc h => h.pu o' hl ho hc) (fun c W o h => h.al o) (fun c W l o o' hl ho hc h => h.pu o' hl ho hc) (fun c W h => h.dr) J0ba ?round2ba ?done2ba ?stop2ba
        case round2ba =>
          rintro l ⟨k, Dk⟩ args W' hlS hI ⟨ho, rfl⟩
          simp only at ho
          have HI := hide hI
          have HO := hide ho
          clear hI ho
          gi_wp2
          refine ⟨KeepsFrom.refl _ _, ?_⟩
          intro o o' hoo hc
          have hI2 := HI.out.pu o' hlS hoo hc
          clear hoo hc HI
          generalize W'.putObj l o' = W2 at *
          have hb := hI2.1
          have cB5 : W2.cell? ⟨B1, 0, none⟩ = some (.pointer (some ⟨b, 0, none⟩)) := (hb.cell (p := ⟨B1, 0, none⟩) (World.block_lt_of_cell? wTba _ cB4ba) nBba).trans cB4ba
          have c35 : W2.cell? ⟨sba, 0, none⟩ = some (.pointer (some ⟨dv 1, 0, none⟩)) := (hb.cell (p := ⟨sba, 0, none⟩) (World.block_lt_of_cell? wTba _ c34ba) nS'ba).trans c34ba
          have ck5 : W2.cell? ⟨b, 0, none⟩ = some (.int .i64 ck) := (hb.cell (p := ⟨b, 0, none⟩) hbTba nb0ba).trans hclkba
          have hol : 0 ≤ Dk.olT ∧ Dk.olT ≤ ck := by
            unfold Dev.olT
            split
            · omega
            · exact hI2.2.2.2.2.2 _ (by have := hI2.2.2.1.ring 4 (by omega) (by omega); simp only at this; omega)
          have O := hide (isOld_any ck5 Dk.olT hck ⟨hol.1, by omega⟩)
          have T := hide (Take_any hI2.2.1 hI2.2.2.1)
          have HI2 := hide hI2
          clear hI2 hb ck5 hol cB4ba c34ba b7ba hclkba dAba J0ba
          gi_wp2_with fail
          refine ⟨trivial, fun _ => (by omega), ?_⟩
          refine ((callsIn_wide.2 O.out).inRound l).mono ?_
          rintro e W3 ⟨rfl, rfl⟩
          clear O
          cases hold : old ck Dk.olT with
          | false =>
            have HH := hide hold
            clear hold T
            gi_wp2
            exact ⟨KeepsFrom.refl _ _, HI2.out.stop (by simp only; rw [HH.out]; simp) HI2.out.2.1 (But.refl _ _)⟩
          | true =>
            have HH := hide hold
            clear hold
            obtain ⟨er, her⟩ : ∃ er, er = Dk.tkE := ⟨_, rfl⟩
            rw [← her] at T
            have HER := hide her
            clear her
            gi_wp2_with fail
            refine ⟨trivial, fun _ => (by omega), ?_⟩
            refine ((callsIn_wide.2 T.out).inRound l).mono ?_
            rintro e W4 ⟨xa, xc, rfl, _, hd4, hb4⟩
            have KF : Hid (∀ o, KeepsFrom wTba.heap.size W3 (W4.alloc o)) := fun o => (KeepsFrom.of_but hb4 (fun g e => by have e : g = dv 1 := e; rw [e]; exact cells_of_cell (HI2.out.2.1.creg 0 (by omega)))).trans (KeepsFrom.of_but (K := fun _ => False) ((But.refl _ _).alloc _) (fun _ e => e.elim))
            have D4 : Hid (∀ o, DevAt LN Aba (W4.alloc o) (dv 1) Dk.tkD ∧ But (Only (dv 1)) W3 (W4.alloc o)) := fun o => ⟨hd4.later ((Below.refl _ _).alloc (Nat.le_refl _) o), hb4.alloc o⟩
            clear hd4 hb4 T
            by_cases e0 : er = 0
            · subst e0
              have FF : Hid (∀ o, I2 wTba Aba (dv 1) ck (lg 16 ck (Dx 1)) (k + 1, Dk.tkD) (W4.alloc o)) := fun o => HI2.out.tk HO.out HH.out HER.out.symm (D4.out o).1 (D4.out o).2
              gi_wp2
              first
                | exact ⟨KF.out _, _, ⟨rfl, HER.out.symm⟩, FF.out _⟩
                | exact ⟨KF.out _, k + 1, Dk.tkD, ⟨⟨rfl, rfl⟩, HER.out.symm⟩, FF.out _⟩
                | exact ⟨KF.out _, k + 1, Dk.tkD, ⟨rfl, HER.out.symm⟩, FF.out _⟩
                | exact ⟨KF.out _, k + 1, Dk.tkD, (by simp [← HER.out]), FF.out _⟩
            · have q : (er != 0) = true := by simp [e0]
              have tkd : Dk.tkD = Dk := by unfold Dev.tkD; rw [if_neg (by rw [← HER.out]; exact e0)]
              rw [tkd] at D4
              have E0 := hide e0
              clear e0 tkd
              gi_wp2
              exact ⟨KF.out _, HI2.out.stop (by simp only; rw [← HER.out]; intro c; exact E0.out c.2.2) (D4.out _).1 (D4.out _).2⟩
        case done2ba =>
          rintro D2ba ⟨k, Dk⟩ W5ba hD2ba hfin hI5 hK5ba
          have hXba := hI5.fin hfin
          clear hI5 hfin
          gi_wp2
          have nEba := HN3ba.out.acts' 1 (by omega) (by rw [← HAba.out]; exact hXba.2.1) hXba.2.2 hXba.1 (fun _ _ => rfl) (fun g e => Nat.lt_of_lt_of_le (HN3ba.out.lt g e) hXba.1.size)
          have hKaba : W5ba.heap[D1ba]? = some (.deferred (some [])) := (hXba.1.block D1ba (Array.getElem?_eq_some_iff.1 HK3ba.out).1 (fun e => by have e : D1ba = dv 1 := e; omega)).trans HK3ba.out
          have cBEba : W5ba.cell? ⟨B1, 0, none⟩ = some (.pointer (some ⟨b, 0, none⟩)) := (hXba.1.cell (p := ⟨B1, 0, none⟩) (World.block_lt_of_cell? wTba _ cB4ba) nBba).trans cB4ba
          have BWEba : Hid (But (fun g => g = b ∨ g = dv 1) W5a W5ba) := BW3ba.out.trans' hXba.1 (fun g _ e => .inr e)
          have hExtba : Hid (∀ g, g < W5a.heap.size → ρ1ba g = ρ1a g) := fun g hg => HE1ba.out g (by omega)
          have HNEba := hide nEba
          have HKAba := hide hKaba
          have HKBba := hide hK5ba
          have hD5ba : D2ba < W5ba.heap.size := (Array.getElem?_eq_some_iff.1 hK5ba).1
          have hD6ba : D1ba < W5ba.heap.size := (Array.getElem?_eq_some_iff.1 hKaba).1
          have hszEba : wTba.heap.size ≤ W5ba.heap.size := hXba.1.size
          have hszTba : w2ba.heap.size ≤ wTba.heap.size := by omega
          clear nEba hKaba hK5ba hXba cB4ba c34ba b7ba hclkba dAba J0ba HN3ba HK3ba BW3ba HE1ba
          rw [roundsIn_succ]
          gi_wp2
          have ext2 : ∀ g, g < w.heap.size → ρ1ba g = ρ g := fun g hg => (hExtba.out g (by omega)).trans (hExta.out g (by omega))
          have bF : But (Ro ρ) w W5ba := ((But.of_below BL0.out).trans' BWEa.out (fun g hg e => by rcases e with e | e <;> rw [e] <;> unfold Ro <;> first | (rw [H.out.rb]; omega) | (rw [H.out.rd 0 (by omega)]; omega))).trans' BWEba.out (fun g hg e => by rcases e with e | e <;> rw [e] <;> unfold Ro <;> first | (rw [H.out.rb]; omega) | (rw [H.out.rd 1 (by omega)]; omega))
          have hbl := H.out.blt
          have m1 : W5ba.heap[D1a]? = some (.deferred (some [])) := (BWEba.out.block D1a (by omega) (fun e => by rcases e with e | e <;> omega)).trans HKAa.out
          have m2 : W5ba.heap[D2a]? = some (.deferred (some [])) := (BWEba.out.block D2a (by omega) (fun e => by rcases e with e | e <;> omega)).trans HKBa.out
          obtain ⟨hDid, q3, q2, q1⟩ := fin4 HNEba.out ext2 bF D1a D2a D1ba D2ba m1 m2 HKAba.out HKBba.out (by omega) (by omega) (by omega) (by omega)
          rw [HLX.out, HDX.out] at hDid
          first
            | refine ⟨by simp, .inl ⟨_, _, rfl, run_takeDeferred HKBba.out, ?_⟩⟩
            | (simp only [Exit.noGoto]; refine ⟨by simp, .inl ⟨_, _, rfl, run_takeDeferred HKBba.out, ?_⟩⟩)
          refine ⟨by simp, .inl ⟨_, _, rfl, run_takeDeferred q3, ?_⟩⟩
          refine ⟨by simp, .inl ⟨_, _, rfl, run_takeDeferred q2, ?_⟩⟩
          refine ⟨by simp, .inl ⟨_, _, rfl, run_takeDeferred q1, ?_⟩⟩
          exact ⟨_, results_none rfl _ _ _, rfl, hDid⟩
        case stop2ba =>
          rintro D2ba c W5ba hD2ba ⟨rfl, hXba⟩ hK5ba
          gi_wp2
          have nEba := HN3ba.out.acts' 1 (by omega) (by rw [← HAba.out]; exact hXba.2.1) hXba.2.2 hXba.1 (fun _ _ => rfl) (fun g e => Nat.lt_of_lt_of_le (HN3ba.out.lt g e) hXba.1.size)
          have hKaba : W5ba.heap[D1ba]? = some (.deferred (some [])) := (hXba.1.block D1ba (Array.getElem?_eq_some_iff.1 HK3ba.out).1 (fun e => by have e : D1ba = dv 1 := e; omega)).trans HK3ba.out
          have cBEba : W5ba.cell? ⟨B1, 0, none⟩ = some (.pointer (some ⟨b, 0, none⟩)) := (hXba.1.cell (p := ⟨B1, 0, none⟩) (World.block_lt_of_cell? wTba _ cB4ba) nBba).trans cB4ba
          have BWEba : Hid (But (fun g => g = b ∨ g = dv 1) W5a W5ba) := BW3ba.out.trans' hXba.1 (fun g _ e => .inr e)
          have hExtba : Hid (∀ g, g < W5a.heap.size → ρ1ba g = ρ1a g) := fun g hg => HE1ba.out g (by omega)
          have HNEba := hide nEba
          have HKAba := hide hKaba
          have HKBba := hide hK5ba
          have hD5ba : D2ba < W5ba.heap.size := (Array.getElem?_eq_some_iff.1 hK5ba).1
          have hD6ba : D1ba < W5ba.heap.size := (Array.getElem?_eq_some_iff.1 hKaba).1
          have hszEba : wTba.heap.size ≤ W5ba.heap.size := hXba.1.size
          have hszTba : w2ba.heap.size ≤ wTba.heap.size := by omega
          clear nEba hKaba hK5ba hXba cB4ba c34ba b7ba hclkba dAba J0ba HN3ba HK3ba BW3ba HE1ba
          rw [roundsIn_succ]
          gi_wp2
          have ext2 : ∀ g, g < w.heap.size → ρ1ba g = ρ g := fun g hg => (hExtba.out g (by omega)).trans (hExta.out g (by omega))
          have bF : But (Ro ρ) w W5ba := ((But.of_below BL0.out).trans' BWEa.out (fun g hg e => by rcases e with e | e <;> rw [e] <;> unfold Ro <;> first | (rw [H.out.rb]; omega) | (rw [H.out.rd 0 (by omega)]; omega))).trans' BWEba.out (fun g hg e => by rcases e with e | e <;> rw [e] <;> unfold Ro <;> first | (rw [H.out.rb]; omega) | (rw [H.out.rd 1 (by omega)]; omega))
          have hbl := H.out.blt
          have m1 : W5ba.heap[D1a]? = some (.deferred (some [])) := (BWEba.out.block D1a (by omega) (fun e => by rcases e with e | e <;> omega)).trans HKAa.out
          have m2 : W5ba.heap[D2a]? = some (.deferred (some [])) := (BWEba.out.block D2a (by omega) (fun e => by rcases e with e | e <;> omega)).trans HKBa.out
          obtain ⟨hDid, q3, q2, q1⟩ := fin4 HNEba.out ext2 bF D1a D2a D1ba D2ba m1 m2 HKAba.out HKBba.out (by omega) (by omega) (by omega) (by omega)
          rw [HLX.out, HDX.out] at hDid
          first
            | refine ⟨by simp, .inl ⟨_, _, rfl, run_takeDeferred HKBba.out, ?_⟩⟩
            | (simp only [Exit.noGoto]; refine ⟨by simp, .inl ⟨_, _, rfl, run_takeDeferred HKBba.out, ?_⟩⟩)
          refine ⟨by simp, .inl ⟨_, _, rfl, run_takeDeferred q3, ?_⟩⟩
          refine ⟨by simp, .inl ⟨_, _, rfl, run_takeDeferred q2, ?_⟩⟩
          refine ⟨by simp, .inl ⟨_, _, rfl, run_takeDeferred q1, ?_⟩⟩
          exact ⟨_, results_none rfl _ _ _, rfl, hDid⟩
    case stop2a =>
      rintro D2a c W5a hD2a ⟨rfl, hXa⟩ hK5a
      gi_wp2
      have nEa := HN3a.out.acts' 0 (by omega) (by rw [← HAa.out]; exact hXa.2.1) hXa.2.2 hXa.1 (fun _ _ => rfl) (fun g e => Nat.lt_of_lt_of_le (HN3a.out.lt g e) hXa.1.size)
      have hKaa : W5a.heap[D1a]? = some (.deferred (some [])) := (hXa.1.block D1a (Array.getElem?_eq_some_iff.1 HK3a.out).1 (fun e => by have e : D1a = dv 0 := e; omega)).trans HK3a.out
      have cBEa : W5a.cell? ⟨B1, 0, none⟩ = some (.pointer (some ⟨b, 0, none⟩)) := (hXa.1.cell (p := ⟨B1, 0, none⟩) (World.block_lt_of_cell? wTa _ cB4a) nBa).trans cB4a
      have BWEa : Hid (But (fun g => g = b ∨ g = dv 0) W W5a) := BW3a.out.trans' hXa.1 (fun g _ e => .inr e)
      have hExta : Hid (∀ g, g < W.heap.size → ρ1a g = ρ g) := fun g hg => HE1a.out g (by omega)
      have HNEa := hide nEa
      have HKAa := hide hKaa
      have HKBa := hide hK5a
      have hD5a : D2a < W5a.heap.size := (Array.getElem?_eq_some_iff.1 hK5a).1
      have hD6a : D1a < W5a.heap.size := (Array.getElem?_eq_some_iff.1 hKaa).1
      have hszEa : wTa.heap.size ≤ W5a.heap.size := hXa.1.size
      have hszTa : w2a.heap.size ≤ wTa.heap.size := by omega
      clear nEa hKaa hK5a hXa cB4a c34a b7a hclka dAa J0a HN3a HK3a BW3a HE1a
      obtain ⟨Lx, hLx⟩ : ∃ Lx, Lx = upd L 0 (youngs ck (L 0)) := ⟨_, rfl⟩
      obtain ⟨Dx, hDx⟩ : ∃ Dx, Dx = upd D 0 (lg 16 ck (D 0)) := ⟨_, rfl⟩
      have eL : Lx 1 = L 1 := by rw [hLx, upd_other _ _ _ _ (by omega)]
      have eD : Dx 1 = D 1 := by rw [hDx, upd_other _ _ _ _ (by omega)]
      have HTL1 : Hid (∀ p ∈ Lx 1, 0 ≤ p.2.tick ∧ p.2.tick ≤ ck) := by rw [eL]; exact HTL.out 1 (by omega)
      have HL1 : Hid ((Lx 1).length ≤ 2513169434843) := by rw [eL]; exact HL.out 1 (by omega)
      have HT1 : Hid (∀ j, j < 16 → 0 ≤ (Dx 1).posted j ∧ (Dx 1).posted j ≤ ck) := by rw [eD]; exact HT.out 1 (by omega)
      have HLX : Hid (upd Lx 1 (youngs ck (Lx 1)) = upd (upd L 0 (youngs ck (L 0))) 1 (youngs ck (L 1))) := by rw [eL, hLx]; rfl
      have HDX : Hid (upd Dx 1 (lg 16 ck (Dx 1)) = upd (upd D 0 (lg 16 ck (D 0))) 1 (lg 16 ck (D 1))) := by rw [eD, hDx]; rfl
      rw [← hLx, ← hDx] at HNEa
      clear hLx hDx eL eD
      rw [roundsIn_succ]
      obtain ⟨sbb, hsbb⟩ : ∃ s, s = W5a.heap.size := ⟨_, rfl⟩
      have hBltbb : B1 < W5a.heap.size := World.block_lt_of_cell? W5a _ cBEa
      have YIbb := young_in (n - 1) b 1 ((W5a.alloc (.cells #[.pointer (some ⟨dv 1, 0, none⟩)] 35)).alloc (.cells #[.slice none 0 0] 56))
      rw [show ((1 : Nat) : Int) = 1 from rfl] at YIbb
      simp only [World.size_alloc, Nat.add_assoc, Nat.reduceAdd] at YIbb
      have HYIbb := hide YIbb
      clear YIbb
      gi_wp2_with fail
      refine ⟨trivial, ?_⟩
      refine HYIbb.out.mono ?_
      rintro e w' ⟨rfl, rfl⟩
      clear HYIbb
      gi_wp2
      have hSbb : Below W5a.heap.size W5a ((((W5a.alloc (.cells #[.pointer (some ⟨dv 1, 0, none⟩)] 35)).alloc (.cells #[.slice none 0 0] 56)).alloc (.cells #[.pointer (some ⟨b, 0, none⟩)] 37)).alloc (.cells #[.int .i64 1] 3)) := ((((Below.refl _ W5a).alloc (Nat.le_refl _) _).alloc (by simp) _).alloc (by simp; omega) _).alloc (by simp; omega) _
      have b3bb := (((Boxed.new W5a 35 (.pointer (some ⟨dv 1, 0, none⟩))).alloc (.cells #[.slice none 0 0] 56)).alloc (.cells #[.pointer (some ⟨b, 0, none⟩)] 37)).alloc (.cells #[.int .i64 1] 3)
      have b4bb := ((Boxed.new (W5a.alloc (.cells #[.pointer (some ⟨dv 1, 0, none⟩)] 35)) 56 (.slice none 0 0)).alloc (.cells #[.pointer (some ⟨b, 0, none⟩)] 37)).alloc (.cells #[.int .i64 1] 3)
      have b5bb := (Boxed.new ((W5a.alloc (.cells #[.pointer (some ⟨dv 1, 0, none⟩)] 35)).alloc (.cells #[.slice none 0 0] 56)) 37 (.pointer (some ⟨b, 0, none⟩))).alloc (.cells #[.int .i64 1] 3)
      have b6bb := Boxed.new (((W5a.alloc (.cells #[.pointer (some ⟨dv 1, 0, none⟩)] 35)).alloc (.cells #[.slice none 0 0] 56)).alloc (.cells #[.pointer (some ⟨b, 0, none⟩)] 37)) 3 (.int .i64 1)
      have hszbb : ((((W5a.alloc (.cells #[.pointer (some ⟨dv 1, 0, none⟩)] 35)).alloc (.cells #[.slice none 0 0] 56)).alloc (.cells #[.pointer (some ⟨b, 0, none⟩)] 37)).alloc (.cells #[.int .i64 1] 3)).heap.size = sbb + 4 := by simp [hsbb]
      simp only [World.size_alloc, Nat.add_assoc, Nat.reduceAdd] at b4bb b5bb b6bb
      rw [← hsbb] at b3bb b4bb b5bb b6bb ⊢
      generalize (((W5a.alloc (.cells #[.pointer (some ⟨dv 1, 0, none⟩)] 35)).alloc (.cells #[.slice none 0 0] 56)).alloc (.cells #[.pointer (some ⟨b, 0, none⟩)] 37)).alloc (.cells #[.int .i64 1] 3) = wSbb at *
      have nSbb := HNEa.out.later hSbb
      have cB1bb : wSbb.cell? ⟨B1, 0, none⟩ = some (.pointer (some ⟨b, 0, none⟩)) := (hSbb.cell (p := ⟨B1, 0, none⟩) hBltbb).trans cBEa
      obtain ⟨v0bb, hv0bb, hL0bb⟩ := nSbb.ls 1 (by omega)
      obtain ⟨a0bb, c0bb, rfl⟩ := hL0bb.row.shape
      have hh4bb : sbb + 1 < wSbb.heap.size := by omega
      have h4bb : sbb + 1 ≠ b ∧ b < sbb := ⟨by have := HNEa.out.blt; omega, by have := HNEa.out.blt; omega⟩
      have I0bb : I1 wSbb (sbb + 1) (youngs ck (Lx 1)) 0 wSbb := ⟨But.refl _ _, Nat.zero_le _, _, b4bb.cell, b4bb.frozen, World.ownsRow_nil _ _ _ _⟩
      obtain ⟨g0bb, hg4bb, hg0bb⟩ : ∃ g0, g0 ≠ sbb + 1 ∧ ∀ k p, (Lx 1)[k]? = some p → a0bb = some ⟨g0, 0, none⟩ ∧ wSbb.cell? ⟨g0, k * 3, none⟩ = some p.1 ∧ wSbb.cell? ⟨g0, k * 3 + 1, none⟩ = some (.bool p.2.bad) ∧ wSbb.cell? ⟨g0, k * 3 + 2, none⟩ = some (.int .i64 p.2.tick) ∧ (∃ ap cp, p.1 = .slice ap p.2.bs.length cp) := by
        by_cases hne : Lx 1 = []
        · exact ⟨b, by omega, fun k p hp => by rw [hne] at hp; simp at hp⟩
        · obtain ⟨p0, hp0⟩ := List.exists_mem_of_ne_nil _ hne
          obtain ⟨k0, hk0⟩ := List.getElem?_of_mem hp0
          obtain ⟨g, c, ev, _⟩ := hL0bb.at hk0
          simp only [Value.slice.injEq] at ev
          refine ⟨g, fun e => by have h1 := hL0bb.role g (by rw [ev.1]; rfl); have h2 := HNEa.out.lt g (by rw [h1]; omega); omega, fun k p hp => ?_⟩
          obtain ⟨g', c', ev', _, _, q0, q1, q2, _⟩ := hL0bb.at hp
          simp only [Value.slice.injEq] at ev'
          have : g' = g := by have := ev'.1.symm.trans ev.1; simpa using this
          subst this
          exact ⟨ev'.1, q0, q1, q2, (hL0bb.fr p (List.mem_of_getElem? hp)).1.sl⟩
      have hs'bb : W5a.heap.size ≤ sbb := by omega
      have hsz'bb : sbb + 4 ≤ wSbb.heap.size := by omega
      clear hsbb hszbb
      refine wpIn_range h1n (gf := 82) (lb := #[.pointer (some ⟨sbb + 2, 0, none⟩), .pointer (some ⟨sbb + 3, 0, none⟩)]) rfl (enters_of Try.func82 (by kernel_rfl) rfl) (I1 wSbb (sbb + 1) (youngs ck (Lx 1))) (fun _ _ => False) 0
        (young_tells (n - 1) (by omega) wSbb (sbb + 2) (sbb + 3) b 1 g0bb c0bb (sbb + 1) (by omega) (Lx 1) ck a0bb b5bb.cell b6bb.cell hv0bb nSbb.clock hg0bb hck HTL1.out (by have := HL1.out; omega) ⟨by omega, by omega, by omega, hg4bb⟩ _ (fun k W h => h.1) (fun k W o h => h.al hh4bb o) (fun k W h => h.dr hh4bb))
        (fun s args ⟨p, _, e⟩ => by rw [e]; rfl) (fun k W o h => h.al hh4bb o) (fun k W l o o' hl ho hc h => h.pu hh4bb o' hl ho hc) (fun _ _ _ e => e) (fun _ _ _ _ _ _ _ _ e => e) (fun _ _ e => e) I0bb ?roundbb ?donebb (fun _ _ _ _ e _ => e.elim)
      case roundbb =>
        rintro l k args W' hlS hI ⟨p, hp, rfl⟩
        obtain ⟨ap, cp, epv⟩ := (hL0bb.fr p (List.mem_filter.1 (List.mem_of_getElem? hp)).1).1.sl
        have hYl : (youngs ck (Lx 1)).length ≤ 2513169434843 := Nat.le_trans (List.length_filter_le _ _) HL1.out
        obtain ⟨pv, f⟩ := p
        simp only at epv
        subst epv
        have HP := hide hp
        have HI := hide hI
        clear hp hI hg0bb hv0bb hL0bb nSbb cB1bb b3bb b4bb b5bb b6bb
        simp only [encF]
        gi_wp2
        refine ⟨KeepsFrom.of_but (K := fun _ => False) ((But.refl _ _).alloc _) (fun _ e => e.elim), ?_⟩
        intro o o' ho hc
        have hne5 : ¬ W'.heap.size = l := fun e => by rw [← e, heap_alloc_new] at ho; cases ho; cases hc
        have t5 := (T3.new W' (.slice ap f.bs.length cp) (.bool f.bad) (.int .i64 f.tick) 48).but (put_but _ l o') hne5
        have hI2 := (HI.out.al hh4bb (.cells #[.slice ap f.bs.length cp, .bool f.bad, .int .i64 f.tick] 48)).pu hh4bb o' hlS ho hc
        obtain ⟨t5n, ht5n⟩ : ∃ t5n, t5n = W'.heap.size := ⟨_, rfl⟩
        rw [← ht5n] at t5 ⊢
        clear ht5n hne5 ho hc
        generalize (W'.alloc (.cells #[.slice ap f.bs.length cp, .bool f.bad, .int .i64 f.tick] 48)).putObj l o' = W2 at *
        obtain ⟨v, g', c', w5, hv, ⟨a5, c5, rfl⟩, hrun, k0, k1, hI5, hK5⟩ := (hI2.al hh4bb (.cells #[.slice ap f.bs.length cp, .bool f.bad, .int .i64 f.tick] 48)).push hh4bb HP.out rfl hYl W2.heap.size (T3.new W2 (.slice ap f.bs.length cp) (.bool f.bad) (.int .i64 f.tick) 48)
        have h4lt : sbb + 1 < W2.heap.size := Nat.lt_of_lt_of_le hh4bb hI2.1.size
        have hv2 : W2.cell? ⟨sbb + 1, 0, none⟩ = some (.slice a5 k c5) := by rw [← hv]; exact (((But.refl (fun _ => False) W2).alloc _).cell (p := ⟨sbb + 1, 0, none⟩) h4lt id).symm
        obtain ⟨x0, x1, x2, _, _, _⟩ := t5
        have HR := hide hrun
        have FI := hide (And.intro hI5 hK5)
        clear hv hrun hI5 hK5 hI2 HI
        gi_wp2_with (gi_at_builtin; refine wpListIn_app rfl _ _ 56 rfl _ _ rfl rfl HR.out ?_)
        exact ⟨(KeepsFrom.of_but (K := fun _ => False) ((But.refl _ _).alloc _) (fun _ e => e.elim)).trans FI.out.2, FI.out.1⟩
      case donebb =>
        rintro D1bb k W1bb hD1bb rfl hI1bb hK1bb
        obtain ⟨vbb, hvbb, ⟨avbb, cvbb, rfl⟩, ⟨ubb, hubb⟩, hfzbb, ρ1bb, n1bb, hext1bb⟩ := side_store HNEa.out 1 (by omega) hSbb (sbb + 1) (by omega) hI1bb
        have hb1bb := hI1bb.1
        have cB2bb : W1bb.cell? ⟨B1, 0, none⟩ = some (.pointer (some ⟨b, 0, none⟩)) := (hb1bb.cell (p := ⟨B1, 0, none⟩) (show B1 < wSbb.heap.size by omega) (fun e => by have e : B1 = sbb + 1 := e; omega)).trans cB1bb
        have c3bb : W1bb.cell? ⟨sbb, 0, none⟩ = some (.pointer (some ⟨dv 1, 0, none⟩)) := (hb1bb.cell (p := ⟨sbb, 0, none⟩) (show sbb < wSbb.heap.size by omega) (fun e => by have e : sbb = sbb + 1 := e; omega)).trans b3bb.cell
        have HN1bb := hide n1bb
        have HE1bb := hide hext1bb
        clear n1bb hext1bb hI1bb hg0bb hv0bb hL0bb nSbb cB1bb b3bb b4bb b5bb b6bb I0bb
        have hubb : W1bb.cell? ⟨b, 4, none⟩ = some ubb := hubb
        have hfzbb : W1bb.frozen? ⟨b, 4, none⟩ = false := hfzbb
        gi_wp2
        refine wpIn_mono (Q := fun e a w' => match e with
          | .normal => a = { tmps := #[.pointer (some ⟨b, 0, none⟩), .pointer (some ⟨B1, 0, none⟩), .int .i64 1, .pointer (some ⟨sbb, 0, none⟩), .pointer (some ⟨sbb + 1, 0, none⟩), undef, undef, undef, undef, .pointer (some ⟨b, 0, none⟩), .pointer (some ⟨b, 0, none⟩), .pointer (some ⟨b, 1, none⟩), .agg #[.pointer (some ⟨dv 0, 0, none⟩), .pointer (some ⟨dv 1, 0, none⟩)], .int .i64 1, .bool true, .int .i64 1, .pointer (some ⟨dv 1, 0, none⟩), .pointer (some ⟨b, 0, none⟩), .int .i64 1, .func (.func 82) #[] #[.pointer (some ⟨sbb + 2, 0, none⟩), .pointer (some ⟨sbb + 3, 0, none⟩)], undef, undef, undef, undef, undef, .pointer (some ⟨b, 0, none⟩), .int .i64 1, .slice avbb (youngs ck (Lx 1)).length cvbb, .pointer (some ⟨b, 0, none⟩), .pointer (some ⟨b, 3, none⟩), .pointer (some ⟨b, 4, none⟩), .pointer (some ⟨dv 0, 0, none⟩), .func (.func 83) #[] #[.pointer (some ⟨s2a, 0, none⟩)], undef, undef, undef, undef, undef, undef, undef, undef, undef, undef, undef, undef, .int .i64 1], defers := [{ target := .collected D1bb, args := #[] }, { target := .collected D2a, args := #[] }, { target := .collected D1a, args := #[] }] } ∧ w' = (W1bb.setCell ⟨b, 4, none⟩ (.slice avbb (youngs ck (Lx 1)).length cvbb)).drew
          | _ => False) ?_ ?_
        · gi_region_with (fail)
          all_goals exact ⟨rfl, rfl⟩
        rintro e a1 w2bb hq
        cases e with
        | normal => ?_
        | _ => exact hq.elim
        obtain ⟨rfl, hw2bb⟩ := hq
        have n2bb : Net ρ1bb w2bb b dv ck (upd Lx 1 (youngs ck (Lx 1))) Dx := by rw [hw2bb]; exact HN1bb.out.drew
        have hb2bb : But (Only b) W1bb w2bb := by rw [hw2bb]; exact ((But.refl (Only b) W1bb).setCell (p := ⟨b, 4, none⟩) (.inr rfl) _).drew
        have cB3bb : w2bb.cell? ⟨B1, 0, none⟩ = some (.pointer (some ⟨b, 0, none⟩)) := (hb2bb.cell (p := ⟨B1, 0, none⟩) (World.block_lt_of_cell? W1bb _ cB2bb) (fun e => by have e : B1 = b := e; omega)).trans cB2bb
        have c3'bb : w2bb.cell? ⟨sbb, 0, none⟩ = some (.pointer (some ⟨dv 1, 0, none⟩)) := (hb2bb.cell (p := ⟨sbb, 0, none⟩) (World.block_lt_of_cell? W1bb _ c3bb) (fun e => by have e : sbb = b := e; omega)).trans c3bb
        have hK2bb : w2bb.heap[D1bb]? = some (.deferred (some [])) := (hb2bb.block D1bb (Array.getElem?_eq_some_iff.1 hK1bb).1 (fun e => by have e : D1bb = b := e; omega)).trans hK1bb
        have hD1ltbb : D1bb < w2bb.heap.size := (Array.getElem?_eq_some_iff.1 hK2bb).1
        have hszwbb : wSbb.heap.size ≤ w2bb.heap.size := by have h1 := hb1bb.size; have h2 := hb2bb.size; omega
        have BW2bb : Hid (But (fun g => g = b ∨ g = dv 1) W5a w2bb) := ((But.of_below hSbb).trans' hb1bb (fun g hg e => by have e : g = sbb + 1 := e; omega)).trans' hb2bb (fun g hg e => .inl e)
        clear hw2bb hb2bb hubb hfzbb hvbb cB2bb c3bb hK1bb HN1bb
        obtain ⟨s2bb, hs2bb⟩ : ∃ s2, s2 = w2bb.heap.size := ⟨_, rfl⟩
        have WIbb := hide (waiting_in (n - 1) (dv 1) w2bb)
        gi_wp2_with fail
        refine ⟨trivial, ?_⟩
        refine WIbb.out.mono ?_
        rintro e w' ⟨rfl, rfl⟩
        clear WIbb
        gi_wp2
        rw [← hs2bb]
        have b7bb := Boxed.new w2bb 35 (.pointer (some ⟨dv 1, 0, none⟩))
        rw [← hs2bb] at b7bb
        have n3bb := n2bb.al (.cells #[.pointer (some ⟨dv 1, 0, none⟩)] 35)
        have hbabb : But (fun _ => False) w2bb (w2bb.alloc (.cells #[.pointer (some ⟨dv 1, 0, none⟩)] 35)) := (But.refl _ w2bb).alloc _
        have cB4bb := (hbabb.cell (p := ⟨B1, 0, none⟩) (World.block_lt_of_cell? w2bb _ cB3bb) id).trans cB3bb
        have c34bb := (hbabb.cell (p := ⟨sbb, 0, none⟩) (World.block_lt_of_cell? w2bb _ c3'bb) id).trans c3'bb
        have hK3bb : (w2bb.alloc (.cells #[.pointer (some ⟨dv 1, 0, none⟩)] 35)).heap[D1bb]? = some (.deferred (some [])) := (Below.heap_alloc _ _ _ (Array.getElem?_eq_some_iff.1 hK2bb).1).trans hK2bb
        have BW3bb : Hid (But (fun g => g = b ∨ g = dv 1) W5a (w2bb.alloc (.cells #[.pointer (some ⟨dv 1, 0, none⟩)] 35))) := BW2bb.out.alloc _
        have hs3bb : s2bb < (w2bb.alloc (.cells #[.pointer (some ⟨dv 1, 0, none⟩)] 35)).heap.size := by simp [hs2bb]
        have hs4bb : w2bb.heap.size ≤ s2bb := by omega
        clear hbabb cB3bb c3'bb hK2bb BW2bb n2bb hs2bb
        generalize w2bb.alloc (.cells #[.pointer (some ⟨dv 1, 0, none⟩)] 35) = wTbb at *
        have nBbb : ¬ Only (dv 1) B1 := fun e => by have e : B1 = dv 1 := e; omega
        have nS'bb : ¬ Only (dv 1) sbb := fun e => by have e : sbb = dv 1 := e; omega
        have nb0bb : ¬ Only (dv 1) b := fun e => by have e : b = dv 1 := e; have h1 := n3bb.rb; rw [e, n3bb.rd 1 (by omega)] at h1; omega
        have n7bb : ¬ Only (dv 1) s2bb := fun e => by have e : s2bb = dv 1 := e; omega
        obtain ⟨Abb, hAbb⟩ : ∃ A : Nat → Prop, A = fun g => ρ1bb g ≠ 0 ∨ wTbb.heap.size ≤ g := ⟨_, rfl⟩
        have dAbb : DevAt LN Abb wTbb (dv 1) (Dx 1) := by rw [hAbb]; exact (n3bb.dev 1 (by omega)).avoid (fun x hx e => e.elim id (fun e => by omega)) (.inl (n3bb.dev 1 (by omega)).mem)
        have HAbb := hide hAbb
        have J0bb : I2 wTbb Abb (dv 1) ck (lg 16 ck (Dx 1)) (0, Dx 1) wTbb := ⟨But.refl _ _, dAbb, n3bb.ok 1 (by omega), rfl, by simp only; unfold spnD; omega, HT1.out⟩
        have hclkbb := n3bb.clock
        have hbTbb := n3bb.blt
        have HN3bb := hide n3bb
        have HK3bb := hide hK3bb
        clear hAbb n3bb hK3bb
        refine wpIn_range h1n (gf := 83) (lb := #[.pointer (some ⟨s2bb, 0, none⟩)]) rfl (enters_of Try.func83 (by kernel_rfl) rfl) (I2 wTbb Abb (dv 1) ck (lg 16 ck (Dx 1))) (X2 wTbb Abb (dv 1) (lg 16 ck (Dx 1))) (0, Dx 1)
          (waiting_tells (n - 1) (by omega) s2bb (dv 1) Abb _ (fun s W h => ⟨(h.1.cell (p := ⟨s2bb, 0, none⟩) hs3bb n7bb).trans b7bb.cell, h.2.1, h.2.2.1⟩) _)
          (fun s args ⟨_, e⟩ => by rw [e]; rfl) (fun s W o h => h.al o) (fun s W l o o' hl ho hc h => h.pu o' hl ho hc) (fun c W o h => h.al o) (fun c W l o o' hl ho hc h => h.pu o' hl ho hc) (fun c W h => h.dr) J0bb ?round2bb ?done2bb ?stop2bb
        case round2bb =>
          rintro l ⟨k, Dk⟩ args W' hlS hI ⟨ho, rfl⟩
          simp only at ho
          have HI := hide hI
          have HO := hide ho
          clear hI ho
          gi_wp2
          refine ⟨KeepsFrom.refl _ _, ?_⟩
          intro o o' hoo hc
          have hI2 := HI.out.pu o' hlS hoo hc
          clear hoo hc HI
          generalize W'.putObj l o' = W2 at *
          have hb := hI2.1
          have cB5 : W2.cell? ⟨B1, 0, none⟩ = some (.pointer (some ⟨b, 0, none⟩)) := (hb.cell (p := ⟨B1, 0, none⟩) (World.block_lt_of_cell? wTbb _ cB4bb) nBbb).trans cB4bb
          have c35 : W2.cell? ⟨sbb, 0, none⟩ = some (.pointer (some ⟨dv 1, 0, none⟩)) := (hb.cell (p := ⟨sbb, 0, none⟩) (World.block_lt_of_cell? wTbb _ c34bb) nS'bb).trans c34bb
          have ck5 : W2.cell? ⟨b, 0, none⟩ = some (.int .i64 ck) := (hb.cell (p := ⟨b, 0, none⟩) hbTbb nb0bb).trans hclkbb
          have hol : 0 ≤ Dk.olT ∧ Dk.olT ≤ ck := by
            unfold Dev.olT
            split
            · omega
            · exact hI2.2.2.2.2.2 _ (by have := hI2.2.2.1.ring 4 (by omega) (by omega); simp only at this; omega)
          have O := hide (isOld_any ck5 Dk.olT hck ⟨hol.1, by omega⟩)
          have T := hide (Take_any hI2.2.1 hI2.2.2.1)
          have HI2 := hide hI2
          clear hI2 hb ck5 hol cB4bb c34bb b7bb hclkbb dAbb J0bb
          gi_wp2_with fail
          refine ⟨trivial, fun _ => (by omega), ?_⟩
          refine ((callsIn_wide.2 O.out).inRound l).mono ?_
          rintro e W3 ⟨rfl, rfl⟩
          clear O
          cases hold : old ck Dk.olT with
          | false =>
            have HH := hide hold
            clear hold T
            gi_wp2
            exact ⟨KeepsFrom.refl _ _, HI2.out.stop (by simp only; rw [HH.out]; simp) HI2.out.2.1 (But.refl _ _)⟩
          | true =>
            have HH := hide hold
            clear hold
            obtain ⟨er, her⟩ : ∃ er, er = Dk.tkE := ⟨_, rfl⟩
            rw [← her] at T
            have HER := hide her
            clear her
            gi_wp2_with fail
            refine ⟨trivial, fun _ => (by omega), ?_⟩
            refine ((callsIn_wide.2 T.out).inRound l).mono ?_
            rintro e W4 ⟨xa, xc, rfl, _, hd4, hb4⟩
            have KF : Hid (∀ o, KeepsFrom wTbb.heap.size W3 (W4.alloc o)) := fun o => (KeepsFrom.of_but hb4 (fun g e => by have e : g = dv 1 := e; rw [e]; exact cells_of_cell (HI2.out.2.1.creg 0 (by omega)))).trans (KeepsFrom.of_but (K := fun _ => False) ((But.refl _ _).alloc _) (fun _ e => e.elim))
            have D4 : Hid (∀ o, DevAt LN Abb (W4.alloc o) (dv 1) Dk.tkD ∧ But (Only (dv 1)) W3 (W4.alloc o)) := fun o => ⟨hd4.later ((Below.refl _ _).alloc (Nat.le_refl _) o), hb4.alloc o⟩
            clear hd4 hb4 T
            by_cases e0 : er = 0
            · subst e0
              have FF : Hid (∀ o, I2 wTbb Abb (dv 1) ck (lg 16 ck (Dx 1)) (k + 1, Dk.tkD) (W4.alloc o)) := fun o => HI2.out.tk HO.out HH.out HER.out.symm (D4.out o).1 (D4.out o).2
              gi_wp2
              first
                | exact ⟨KF.out _, _, ⟨rfl, HER.out.symm⟩, FF.out _⟩
                | exact ⟨KF.out _, k + 1, Dk.tkD, ⟨⟨rfl, rfl⟩, HER.out.symm⟩, FF.out _⟩
                | exact ⟨KF.out _, k + 1, Dk.tkD, ⟨rfl, HER.out.symm⟩, FF.out _⟩
                | exact ⟨KF.out _, k + 1, Dk.tkD, (by simp [← HER.out]), FF.out _⟩
            · have q : (er != 0) = true := by simp [e0]
              have tkd : Dk.tkD = Dk := by unfold Dev.tkD; rw [if_neg (by rw [← HER.out]; exact e0)]
              rw [tkd] at D4
              have E0 := hide e0
              clear e0 tkd
              gi_wp2
              exact ⟨KF.out _, HI2.out.stop (by simp only; rw [← HER.out]; intro c; exact E0.out c.2.2) (D4.out _).1 (D4.out _).2⟩
        case done2bb =>
          rintro D2bb ⟨k, Dk⟩ W5bb hD2bb hfin hI5 hK5bb
          have hXbb := hI5.fin hfin
          clear hI5 hfin
          gi_wp2
          have nEbb := HN3bb.out.acts' 1 (by omega) (by rw [← HAbb.out]; exact hXbb.2.1) hXbb.2.2 hXbb.1 (fun _ _ => rfl) (fun g e => Nat.lt_of_lt_of_le (HN3bb.out.lt g e) hXbb.1.size)
          have hKabb : W5bb.heap[D1bb]? = some (.deferred (some [])) := (hXbb.1.block D1bb (Array.getElem?_eq_some_iff.1 HK3bb.out).1 (fun e => by have e : D1bb = dv 1 := e; omega)).trans HK3bb.out
          have cBEbb : W5bb.cell? ⟨B1, 0, none⟩ = some (.pointer (some ⟨b, 0, none⟩)) := (hXbb.1.cell (p := ⟨B1, 0, none⟩) (World.block_lt_of_cell? wTbb _ cB4bb) nBbb).trans cB4bb
          have BWEbb : Hid (But (fun g => g = b ∨ g = dv 1) W5a W5bb) := BW3bb.out.trans' hXbb.1 (fun g _ e => .inr e)
          have hExtbb : Hid (∀ g, g < W5a.heap.size → ρ1bb g = ρ1a g) := fun g hg => HE1bb.out g (by omega)
          have HNEbb := hide nEbb
          have HKAbb := hide hKabb
          have HKBbb := hide hK5bb
          have hD5bb : D2bb < W5bb.heap.size := (Array.getElem?_eq_some_iff.1 hK5bb).1
          have hD6bb : D1bb < W5bb.heap.size := (Array.getElem?_eq_some_iff.1 hKabb).1
          have hszEbb : wTbb.heap.size ≤ W5bb.heap.size := hXbb.1.size
          have hszTbb : w2bb.heap.size ≤ wTbb.heap.size := by omega
          clear nEbb hKabb hK5bb hXbb cB4bb c34bb b7bb hclkbb dAbb J0bb HN3bb HK3bb BW3bb HE1bb
          rw [roundsIn_succ]
          gi_wp2
          have ext2 : ∀ g, g < w.heap.size → ρ1bb g = ρ g := fun g hg => (hExtbb.out g (by omega)).trans (hExta.out g (by omega))
          have bF : But (Ro ρ) w W5bb := ((But.of_below BL0.out).trans' BWEa.out (fun g hg e => by rcases e with e | e <;> rw [e] <;> unfold Ro <;> first | (rw [H.out.rb]; omega) | (rw [H.out.rd 0 (by omega)]; omega))).trans' BWEbb.out (fun g hg e => by rcases e with e | e <;> rw [e] <;> unfold Ro <;> first | (rw [H.out.rb]; omega) | (rw [H.out.rd 1 (by omega)]; omega))
          have hbl := H.out.blt
          have m1 : W5bb.heap[D1a]? = some (.deferred (some [])) := (BWEbb.out.block D1a (by omega) (fun e => by rcases e with e | e <;> omega)).trans HKAa.out
          have m2 : W5bb.heap[D2a]? = some (.deferred (some [])) := (BWEbb.out.block D2a (by omega) (fun e => by rcases e with e | e <;> omega)).trans HKBa.out
          obtain ⟨hDid, q3, q2, q1⟩ := fin4 HNEbb.out ext2 bF D1a D2a D1bb D2bb m1 m2 HKAbb.out HKBbb.out (by omega) (by omega) (by omega) (by omega)
          rw [HLX.out, HDX.out] at hDid
          first
            | refine ⟨by simp, .inl ⟨_, _, rfl, run_takeDeferred HKBbb.out, ?_⟩⟩
            | (simp only [Exit.noGoto]; refine ⟨by simp, .inl ⟨_, _, rfl, run_takeDeferred HKBbb.out, ?_⟩⟩)
          refine ⟨by simp, .inl ⟨_, _, rfl, run_takeDeferred q3, ?_⟩⟩
          refine ⟨by simp, .inl ⟨_, _, rfl, run_takeDeferred q2, ?_⟩⟩
          refine ⟨by simp, .inl ⟨_, _, rfl, run_takeDeferred q1, ?_⟩⟩
          exact ⟨_, results_none rfl _ _ _, rfl, hDid⟩
        case stop2bb =>
          rintro D2bb c W5bb hD2bb ⟨rfl, hXbb⟩ hK5bb
          gi_wp2
          have nEbb := HN3bb.out.acts' 1 (by omega) (by rw [← HAbb.out]; exact hXbb.2.1) hXbb.2.2 hXbb.1 (fun _ _ => rfl) (fun g e => Nat.lt_of_lt_of_le (HN3bb.out.lt g e) hXbb.1.size)
          have hKabb : W5bb.heap[D1bb]? = some (.deferred (some [])) := (hXbb.1.block D1bb (Array.getElem?_eq_some_iff.1 HK3bb.out).1 (fun e => by have e : D1bb = dv 1 := e; omega)).trans HK3bb.out
          have cBEbb : W5bb.cell? ⟨B1, 0, none⟩ = some (.pointer (some ⟨b, 0, none⟩)) := (hXbb.1.cell (p := ⟨B1, 0, none⟩) (World.block_lt_of_cell? wTbb _ cB4bb) nBbb).trans cB4bb
          have BWEbb : Hid (But (fun g => g = b ∨ g = dv 1) W5a W5bb) := BW3bb.out.trans' hXbb.1 (fun g _ e => .inr e)
          have hExtbb : Hid (∀ g, g < W5a.heap.size → ρ1bb g = ρ1a g) := fun g hg => HE1bb.out g (by omega)
          have HNEbb := hide nEbb
          have HKAbb := hide hKabb
          have HKBbb := hide hK5bb
          have hD5bb : D2bb < W5bb.heap.size := (Array.getElem?_eq_some_iff.1 hK5bb).1
          have hD6bb : D1bb < W5bb.heap.size := (Array.getElem?_eq_some_iff.1 hKabb).1
          have hszEbb : wTbb.heap.size ≤ W5bb.heap.size := hXbb.1.size
          have hszTbb : w2bb.heap.size ≤ wTbb.heap.size := by omega
          clear nEbb hKabb hK5bb hXbb cB4bb c34bb b7bb hclkbb dAbb J0bb HN3bb HK3bb BW3bb HE1bb
          rw [roundsIn_succ]
          gi_wp2
          have ext2 : ∀ g, g < w.heap.size → ρ1bb g = ρ g := fun g hg => (hExtbb.out g (by omega)).trans (hExta.out g (by omega))
          have bF : But (Ro ρ) w W5bb := ((But.of_below BL0.out).trans' BWEa.out (fun g hg e => by rcases e with e | e <;> rw [e] <;> unfold Ro <;> first | (rw [H.out.rb]; omega) | (rw [H.out.rd 0 (by omega)]; omega))).trans' BWEbb.out (fun g hg e => by rcases e with e | e <;> rw [e] <;> unfold Ro <;> first | (rw [H.out.rb]; omega) | (rw [H.out.rd 1 (by omega)]; omega))
          have hbl := H.out.blt
          have m1 : W5bb.heap[D1a]? = some (.deferred (some [])) := (BWEbb.out.block D1a (by omega) (fun e => by rcases e with e | e <;> omega)).trans HKAa.out
          have m2 : W5bb.heap[D2a]? = some (.deferred (some [])) := (BWEbb.out.block D2a (by omega) (fun e => by rcases e with e | e <;> omega)).trans HKBa.out
          obtain ⟨hDid, q3, q2, q1⟩ := fin4 HNEbb.out ext2 bF D1a D2a D1bb D2bb m1 m2 HKAbb.out HKBbb.out (by omega) (by omega) (by omega) (by omega)
          rw [HLX.out, HDX.out] at hDid
          first
            | refine ⟨by simp, .inl ⟨_, _, rfl, run_takeDeferred HKBbb.out, ?_⟩⟩
            | (simp only [Exit.noGoto]; refine ⟨by simp, .inl ⟨_, _, rfl, run_takeDeferred HKBbb.out, ?_⟩⟩)
          refine ⟨by simp, .inl ⟨_, _, rfl, run_takeDeferred q3, ?_⟩⟩
          refine ⟨by simp, .inl ⟨_, _, rfl, run_takeDeferred q2, ?_⟩⟩
          refine ⟨by simp, .inl ⟨_, _, rfl, run_takeDeferred q1, ?_⟩⟩
          exact ⟨_, results_none rfl _ _ _, rfl, hDid⟩
end Go.Proofs.Ytghojbgjmpjhgaa
