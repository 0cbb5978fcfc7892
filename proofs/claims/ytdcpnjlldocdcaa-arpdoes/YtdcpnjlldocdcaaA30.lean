
/-
  Package arp: the contract of Tick.
-/
import Derived.Test.YtdcpnjlldocdcaaA29
namespace Go.Proofs.Ytdcpnjlldocdcaa
open Go.RowKit Go.Shelf
attribute [local go_sem] Oper.semAt_some

theorem keeps_trans {B : Nat} {a b c : World} (h : KeepsFrom B a b) (h' : KeepsFrom B b c) : KeepsFrom B a c := ⟨Nat.le_trans h.size h'.size, fun k o hk ho hc => h'.same k o hk (h.same k o hk ho hc) hc⟩
/-- those that are left, with their tags -/
def tkT (now : Int) (Lt : List (Nat × Nb)) : List (Nat × Nb) := Lt.filterMap (fun p => (tk1 now p.2).map (fun y => (p.1, y)))
theorem tkT_snd (now : Int) : ∀ (Lt : List (Nat × Nb)), (tkT now Lt).map Prod.snd = tkL now (Lt.map Prod.snd)
  | [] => rfl
  | p :: Lt => by
    have ih := tkT_snd now Lt
    unfold tkT tkL at ih ⊢
    rw [List.map_cons, List.filterMap_cons, List.filterMap_cons]
    cases tk1 now p.2 with
    | none => exact ih
    | some y => simp only [Option.map_some, List.map_cons, ih]
theorem tkT_fst (now : Int) : ∀ (Lt : List (Nat × Nb)), ((tkT now Lt).map Prod.fst).Sublist (Lt.map Prod.fst)
  | [] => List.Sublist.refl _
  | p :: Lt => by
    have ih := tkT_fst now Lt
    unfold tkT at ih ⊢
    rw [List.map_cons, List.filterMap_cons]
    cases tk1 now p.2 with
    | none => exact ih.cons _
    | some y => simp only [Option.map_some, List.map_cons]; exact ih.cons_cons _
theorem take_one {α : Type} {l : List α} {j : Nat} {a : α} (h : l[j]? = some a) : l.take (j + 1) = l.take j ++ [a] := by rw [List.take_add_one, h]; rfl
theorem tkT_take {now : Int} {Lt : List (Nat × Nb)} {j t : Nat} {x : Nb} (h : Lt[j]? = some (t, x)) : tkT now (Lt.take (j + 1)) = tkT now (Lt.take j) ++ ((tk1 now x).map (fun y => (t, y))).toList := by
  rw [take_one h]
  unfold tkT
  rw [List.filterMap_append]
  cases ht : tk1 now x <;> simp [ht]
theorem tkA_take {now : Int} {Lt : List (Nat × Nb)} {j t : Nat} {x : Nb} (h : Lt[j]? = some (t, x)) : tkA now ((Lt.take (j + 1)).map Prod.snd) = tkA now ((Lt.take j).map Prod.snd) ++ (tkA1 now x).toList := by
  rw [take_one h, List.map_append]
  unfold tkA
  rw [List.filterMap_append]
  cases ht : tkA1 now x <;> simp [ht]
theorem tkG_take {now : Int} {Lt : List (Nat × Nb)} {j t : Nat} {x : Nb} (h : Lt[j]? = some (t, x)) : tkG now ((Lt.take (j + 1)).map Prod.snd) = tkG now ((Lt.take j).map Prod.snd) ++ tkG1 now x := by
  rw [take_one h, List.map_append]
  unfold tkG
  rw [List.flatMap_append]
  simp
theorem tkG_len {now : Int} {L : List Nb} (h : ∀ x ∈ L, x.pd.length ≤ 2) : (tkG now L).length ≤ 2 * L.length := by
  induction L with
  | nil => simp [tkG]
  | cons x L ih =>
    have h1 := ih (fun y hy => h y (List.mem_cons_of_mem _ hy))
    have h2 := h x (by simp)
    unfold tkG at h1 ⊢
    rw [List.flatMap_cons, List.length_append, List.length_cons]
    have h3 : (tkG1 now x).length ≤ 2 := by
      unfold tkG1
      split
      · simp
      · split
        · exact h2
        · simp
    omega
/-- 'append' of nothing -/
theorem run_app_nil (W : World) (a : Option Addr) (n c : Nat) (hc : n ≤ c) : (Builtin.append_ #[54, 54] 54 #[.slice a n c, .slice none 0 0]).run Try.prog W = .ok (.slice a n c) W := by
  obtain ⟨i, hi, hz0, hz1, hz2⟩ := info_parts info_int
  cases a with
  | none => simp [Builtin.append_, run_underlying Try.underlying54, sizeOf, typeInfo, hi, hc, Builtin.lenOf, Builtin.firstCells]
  | some ad => simp [Builtin.append_, run_underlying Try.underlying54, sizeOf, typeInfo, hi, hc, Builtin.lenOf, Builtin.firstCells, storeCells]
/-- variables that are boxed one behind the other -/
def boxes : List (Value × TypeId) → World → World
  | [], w => w
  | p :: l, w => boxes l (w.alloc (.cells #[p.1] p.2))
theorem boxes_below : ∀ (l : List (Value × TypeId)) (w : World), Below w.heap.size w (boxes l w) ∧ (boxes l w).heap.size = w.heap.size + l.length
  | [], w => ⟨Below.refl _ _, rfl⟩
  | p :: l, w => by
    obtain ⟨h1, h2⟩ := boxes_below l (w.alloc (.cells #[p.1] p.2))
    rw [World.size_alloc] at h1 h2
    exact ⟨((Below.refl _ w).alloc (Nat.le_refl _) _).trans (h1.mono (by omega)), by unfold boxes; rw [h2, List.length_cons]; omega⟩
theorem boxes_at : ∀ (l : List (Value × TypeId)) (w : World) (j : Nat) (v : Value) (t : TypeId), l[j]? = some (v, t) → (boxes l w).cell? ⟨w.heap.size + j, 0, none⟩ = some v ∧ (boxes l w).frozen? ⟨w.heap.size + j, 0, none⟩ = false
  | p :: l, w, 0, v, t, h => by
    cases h
    have hb := (boxes_below l (w.alloc (.cells #[v] t))).1
    have hc := CellsAt.new w [v] t 0 v rfl
    have hf := frozen_new w #[v] t 0
    have hl : w.heap.size < (w.alloc (.cells #[v] t)).heap.size := by simp
    exact ⟨(hb.cell (p := ⟨w.heap.size, 0, none⟩) hl).trans hc, (hb.frozen (p := ⟨w.heap.size, 0, none⟩) hl).trans hf⟩
  | p :: l, w, j + 1, v, t, h => by
    have := boxes_at l (w.alloc (.cells #[p.1] p.2)) j v t (by simpa using h)
    rw [World.size_alloc, show w.heap.size + 1 + j = w.heap.size + (j + 1) by omega] at this
    exact this
theorem TkR.same3 {ρ : Nat → Role} {k : Nat} {m : M6} {i : I4} {B s : Nat} {A : List I4} {G : List Int} {T : List (Nat × Nb)} {σ : Nat → Nat} {av gv lv : Value} {V : Nat → Value} {W : World} (h : TkR ρ k m i B s A G T σ av gv lv V W) (hsB : s + 5 ≤ B) (hρ : ∀ g t, ρ g = (k, 2, t) → g < B ∧ g ≠ s + 3) : TkR ρ k m i B s A G T σ av gv lv V (W.setCell ⟨s + 3, 0, none⟩ gv) := by
  have bo : But (Only (s + 3)) W (W.setCell ⟨s + 3, 0, none⟩ gv) := (But.refl (Only (s + 3)) W).setCell (p := ⟨s + 3, 0, none⟩) (.inr rfl) _
  obtain ⟨l2, l3, l4⟩ := h.lt
  have go : ∀ q g, q ≠ 0 → σ g = q ∧ Cel W g → ¬ Only (s + 3) g := fun q g hq e e2 => by
    have := (h.new g (by rw [e.1]; exact hq)).1
    have e2 : g = s + 3 := e2
    omega
  have co : ∀ q g, q ≠ 0 → σ g = q ∧ Cel W g → σ g = q ∧ Cel (W.setCell ⟨s + 3, 0, none⟩ gv) g := fun q g hq e => ⟨e.1, e.2.but bo (go q g hq e)⟩
  have no : ∀ x, x ≠ 3 → ¬ Only (s + 3) (s + x) := fun x hx e => by have e : s + x = s + 3 := e; omega
  exact ⟨fun g hg => ⟨(h.new g hg).1, by have := (h.new g hg).2; simpa using this⟩, (bo.cell (p := ⟨s + 2, 0, none⟩) l2 (no 2 (by omega))).trans h.c2, World.cell?_setCell_same _ _ _ h.c3, (bo.cell (p := ⟨s + 4, 0, none⟩) l4 (no 4 (by omega))).trans h.c4, (bo.frozen (p := ⟨s + 2, 0, none⟩) l2 (no 2 (by omega))).trans h.f2, by rw [setCell_one, World.frozen?_setCells]; exact h.f3, (bo.frozen (p := ⟨s + 4, 0, none⟩) l4 (no 4 (by omega))).trans h.f4,
    (h.ra.but bo (fun g => go 2 g (by omega))).own (fun g _ => co 2 g (by omega)), (h.rg.but bo (fun g => go 3 g (by omega))).own (fun g _ => co 3 g (by omega)), (h.rl.but bo (fun g => go 1 g (by omega))).own (fun g _ => co 1 g (by omega)), h.pd.but bo (fun g t e _ e2 => (hρ g t e).2 e2) (fun _ _ _ e _ => e)⟩
theorem wrapI (n : Int) (h0 : -9223372036854775808 ≤ n) (h1 : n ≤ 9223372036854775807) : IntKind.i64.wrap n = n := by simp [IntKind.wrap, IntKind.bits, IntKind.signed]; omega
theorem exec_addi {o : Oper} {w : World} {ev : Operand → Value} (x y : Operand) (t : TypeId) (a b : Int) (ho : o.op = .binOp .add 3 x y t) (hx : ev x = .int .i64 a) (hy : ev y = .int .i64 b) (h0 : -9223372036854775808 ≤ a + b) (h1 : a + b ≤ 9223372036854775807) : (execOp ev o).run Try.prog w = .ok (.value (.int .i64 (a + b))) w := by
  have hw := wrapI (a + b) h0 h1
  unfold execOp
  simp [ho, hx, hy, go_sem, hw]
/-- what Tick leaves and tells -/
def TkEnd (ρ : Nat → Role) (k : Nat) (W : World) (b : Nat) (m : M6) (i : I4) (now : Int) (L : List Nb) (e : Ending) (w' : World) : Prop :=
  ∃ ρ' av gv, e = .returned (.tuple #[av, gv]) ∧ Ca ρ' k w' b m i (tkL now L) ∧ Fit ρ' w' ∧ Mv k ρ ρ' W w' ∧ RowN (Free ρ ρ' k W) w' gv (tkG now L) ∧ RowF 21 (Free ρ ρ' k W) w' av (tkA now L).length (arw m i (tkA now L))
/-- between two rounds -/
def TkI (w1 : World) (ρ : Nat → Role) (k g s : Nat) (now : Int) (m : M6) (i : I4) (Lt : List (Nat × Nb)) (V0 : Nat → Value) (j : Nat) (W : World) : Prop :=
  But (fun h => h = g ∨ h = s + 2 ∨ h = s + 3 ∨ h = s + 4) w1 W ∧ (∀ q t x, j ≤ q → Lt[q]? = some (t, x) → CellsAt W g (q * 15) (x.cells (V0 q))) ∧ (0 < Lt.length → ∀ y, W.frozen? ⟨g, y, none⟩ = false) ∧
    ∃ σ av gv lv V, TkR ρ k m i w1.heap.size s (tkA now ((Lt.take j).map Prod.snd)) (tkG now ((Lt.take j).map Prod.snd)) (tkT now (Lt.take j)) σ av gv lv V W
theorem TkI.keep {w1 : World} {ρ : Nat → Role} {k g s : Nat} {now : Int} {m : M6} {i : I4} {Lt : List (Nat × Nb)} {V0 : Nat → Value} {j : Nat} {W W' : World} {K : Nat → Prop} (h : TkI w1 ρ k g s now m i Lt V0 j W) (hg : 0 < Lt.length → g < w1.heap.size) (hs : s + 5 ≤ w1.heap.size) (hρ : ∀ g t, ρ g = (k, 2, t) → g < w1.heap.size) (hb : But K W W') (hk : ∀ g, K g → w1.heap.size ≤ g ∧ ¬ Cel W g) : TkI w1 ρ k g s now m i Lt V0 j W' := by
  obtain ⟨h1, h2, h3, σ, av, gv, lv, V, h4⟩ := h
  have nk : ∀ q, q < w1.heap.size → ¬ K q := fun q hq e => by have := (hk q e).1; omega
  refine ⟨h1.trans' hb (fun q hq e => absurd e (nk q hq)), fun q t x hq hx => (h2 q t x hq hx).but ?_ hb (nk g ?_), fun hl y => ?_, σ, av, gv, lv, V, h4.but hb ⟨nk _ (by omega), nk _ (by omega), nk _ (by omega)⟩ (fun q _ hc e => (hk q e).2 hc) (fun q t e _ => nk q (hρ q t e))⟩
  · have := hg (by have := (List.getElem?_eq_some_iff.1 hx).1; omega); have := h1.size; omega
  · exact hg (by have := (List.getElem?_eq_some_iff.1 hx).1; omega)
  · have := hg hl
    exact (hb.frozen (p := ⟨g, y, none⟩) (by have := h1.size; show g < _; omega) (nk g this)).trans (h3 hl y)
set_option maxRecDepth 100000 in
set_option maxHeartbeats 4000000 in
theorem tick_in (n : Nat) (hn : 3 ≤ n) {ρ : Nat → Role} {k : Nat} {w : World} {b : Nat} {m : M6} {i : I4} {lv0 : Value} {Lt : List (Nat × Nb)} (h : CAt ρ k w b m i lv0 Lt) (hF : Fit ρ w) (now : Int) (hok : LOk now (Lt.map Prod.snd)) (hn1 : now ≤ 4611686018427387904) :
    CallsIn Fence.wide n Try.prog 18 #[.pointer (some ⟨b, 0, none⟩), .int .i64 now] w (TkEnd ρ k w b m i now (Lt.map Prod.snd)) := by
  have h1 : 1 ≤ n := by omega
  have hlen : Lt.length ≤ 8 := by have := hok.len; simpa using this
  have hblt : b < w.heap.size := h.lt
  obtain ⟨V0, hR0, hP0⟩ := h.row.parts
  obtain ⟨a0, c0, rfl⟩ := hR0.shape
  obtain ⟨g, hg, hgn⟩ : ∃ g, (0 < Lt.length → a0 = some ⟨g, 0, none⟩ ∧ g < w.heap.size ∧ ρ g = (k, 1, 0) ∧ (∀ j, w.frozen? ⟨g, j, none⟩ = false) ∧ ∀ q, q < Lt.length → CellsAt w g (q * 15) (nbc Lt V0 q)) ∧ (¬ 0 < Lt.length → g = w.heap.size + 1000) := by
    by_cases e : 0 < Lt.length
    · obtain ⟨g, h1, h2, h3, h4, h5⟩ := hR0.at e
      exact ⟨g, fun _ => ⟨h1, h2, h3, h4, h5⟩, fun e' => absurd e e'⟩
    · exact ⟨_, fun e' => absurd e' e, fun _ => rfl⟩
  have gb : b ≠ g := by
    by_cases e : 0 < Lt.length
    · rintro rfl
      have := (hg e).2.2.1
      rw [h.rb] at this
      simp at this
    · rw [hgn e]; omega
  have cL := h.lst
  have kl : ∀ g, (ρ g).1 = k → g < w.heap.size := fun g e => Classical.byContradiction fun hn => by
    rw [hF g (by omega)] at e
    have e : 0 = k := e
    have := h.pos
    omega
  refine callsIn_of_wp_marks Try.func18 rfl trivial ?_ rfl
  simp only [Try.ntmps18, List.size_toArray, List.length_cons, List.length_nil, Nat.reduceAdd, Nat.reduceSub, Array.replicate_succ, Array.replicate_zero, List.push_toArray, List.append_toArray, List.nil_append, List.cons_append]
  have HG := hide hg
  have HOK := hide hok
  have HP0 := hide hP0
  have H0 := hide h
  have HF0 := hide hF
  have KL := hide kl
  clear hg hR0 hP0 hok hF kl
  gi_wp2
  refine wpIn_scope_straight ?_
  gi_wp2
  refine wpIn_label ?_
  gi_wp2_with fail
  refine ⟨trivial, ?_⟩
  refine (neighbours_in (n - 1) b _).mono ?_
  rintro e w' ⟨rfl, rfl⟩
  simp only [World.size_alloc, Nat.add_assoc, Nat.reduceAdd]
  obtain ⟨s, hs⟩ : ∃ s, s = w.heap.size := ⟨_, rfl⟩
  rw [← hs]
  obtain ⟨w1, hw1⟩ : ∃ w1, w1 = boxes [(.pointer (some ⟨b, 0, none⟩), 37), (.int .i64 now, 3), (.slice none 0 0, 53), (.slice none 0 0, 54), (.slice none 0 0, 41), (.pointer (some ⟨b, 0, none⟩), 37)] w := ⟨_, rfl⟩
  have hbx := boxes_at [(.pointer (some ⟨b, 0, none⟩), 37), (.int .i64 now, 3), (.slice none 0 0, 53), (.slice none 0 0, 54), (.slice none 0 0, 41), (.pointer (some ⟨b, 0, none⟩), 37)] w
  obtain ⟨hb1, hz0⟩ := boxes_below [(.pointer (some ⟨b, 0, none⟩), 37), (.int .i64 now, 3), (.slice none 0 0, 53), (.slice none 0 0, 54), (.slice none 0 0, 41), (.pointer (some ⟨b, 0, none⟩), 37)] w
  rw [← hw1, ← hs] at hbx
  rw [← hw1] at hb1 hz0
  have hz1 : w1.heap.size = s + 6 := by rw [hz0, hs]; rfl
  clear hz0
  have cC : w1.cell? ⟨s, 0, none⟩ = some (.pointer (some ⟨b, 0, none⟩)) := (hbx 0 _ _ rfl).1
  have cN : w1.cell? ⟨s + 1, 0, none⟩ = some (.int .i64 now) := (hbx 1 _ _ rfl).1
  have k2 := hbx 2 _ _ rfl
  have k3 := hbx 3 _ _ rfl
  have k4 := hbx 4 _ _ rfl
  have cB : w1.cell? ⟨s + 5, 0, none⟩ = some (.pointer (some ⟨b, 0, none⟩)) := (hbx 5 _ _ rfl).1
  have hw1' := hw1.symm
  simp only [boxes] at hw1'
  rw [hw1']
  have cL1 := (hb1.cell (p := ⟨b, 10, none⟩) hblt).trans cL
  have rho : ∀ q t, ρ q = (k, 2, t) → q < s := fun q t e => by rw [hs]; exact KL.out q (by rw [e])
  have I0 : TkI w1 ρ k g s now m i Lt V0 0 w1 := by
    refine ⟨But.refl _ _, fun q t x _ hx => ?_, fun hl y => ?_, fun _ => 0, _, _, _, V0, ⟨fun h e => absurd rfl e, k2.1, k3.1, k4.1, k2.2, k3.2, k4.2, RowF.nil _ _ _ _, RowN.nil _ _, RowF.nil _ _ _ _, fun q t x hx => by simp [tkT] at hx⟩⟩
    · have hql := (List.getElem?_eq_some_iff.1 hx).1
      have h5 := (HG.out (by omega)).2.2.2.2 q hql
      rw [nbc_at hx] at h5
      exact h5.later (HG.out (by omega)).2.1 hb1
    · exact (hb1.frozen (p := ⟨g, y, none⟩) (HG.out hl).2.1).trans ((HG.out hl).2.2.2.1 y)
  have HB1 := hide hb1
  have HS := hide hs
  have HZ1 := hide hz1
  have RHO := hide rho
  have HW := hide hblt
  have CC := hide cC
  have CN := hide cN
  have CL1 := hide cL1
  have CB := hide cB
  have HGS : Hid (g < s ∨ g = s + 1000) := by
    by_cases e : 0 < Lt.length
    · exact .inl (by rw [hs]; exact (HG.out e).2.1)
    · exact .inr (by rw [hs]; exact hgn e)
  have GBN := hide gb
  have HGN := hide hgn
  have GW : Hid (0 < Lt.length → g < w1.heap.size) := fun hl => by have := (HG.out hl).2.1; omega
  have S5 : Hid (s + 5 ≤ w1.heap.size) := by unfold Hid; omega
  have RW : Hid (∀ q t, ρ q = (k, 2, t) → q < w1.heap.size) := fun q t e => by have := rho q t e; omega
  clear hgn gb hs hw1 hw1' hbx hb1 k2 k3 k4 cL rho hz1 hblt cC cN cL1 cB
  gi_wp2
  refine wpIn_range h1 (gf := 46) (lb := #[.pointer (some ⟨s + 5, 0, none⟩)]) rfl (enters_of Try.func46 (by kernel_rfl) rfl) (TkI w1 ρ k g s now m i Lt V0) (fun _ _ => False) 0
    (neighbours_tells (n - 1) (by omega) (s + 5) b g Lt.length c0 a0 (fun hl => (HG.out hl).1) (by omega) _ (fun j W hI => ⟨(hI.1.cell (p := ⟨s + 5, 0, none⟩) (by have := HZ1.out; show s + 5 < _; omega) (fun e => by
        have e : s + 5 = g ∨ s + 5 = s + 2 ∨ s + 5 = s + 3 ∨ s + 5 = s + 4 := e
        have := HGS.out
        omega)).trans CB.out, (hI.1.cell (p := ⟨b, 10, none⟩) (by have := HS.out; have := HW.out; have := HZ1.out; show b < _; omega) (fun e => by
        have e : b = g ∨ b = s + 2 ∨ b = s + 3 ∨ b = s + 4 := e
        have := GBN.out
        have := HS.out
        have := HW.out
        omega)).trans CL1.out⟩))
    (fun j args ⟨_, e⟩ => by rw [e]; rfl) (fun j W o hI => hI.keep GW.out S5.out RW.out ((But.refl (fun _ => False) W).alloc o) (fun _ e => e.elim)) (fun j W l o o' hl ho hc hI => hI.keep GW.out S5.out RW.out (put_but W l o') (fun q e => by subst e; exact ⟨hl, fun hcc => hcc.ne ho hc rfl⟩)) (fun c W o h => h.elim) (fun c W l o o' hl ho hc h => h.elim) (fun c W h => h.elim) I0 ?round ?done ?stop
  case stop => intro D c W _ h; exact h.elim
  case round =>
    rintro l j args W' hlS hI ⟨hj, rfl⟩
    obtain ⟨⟨t, x⟩, hx⟩ : ∃ p, Lt[j]? = some p := ⟨_, List.getElem?_eq_getElem hj⟩
    have HI := hide hI
    clear hI
    gi_wp2
    refine ⟨KeepsFrom.refl _ _, ?_⟩
    intro o o' hoo hc
    have hI2 : TkI w1 ρ k g s now m i Lt V0 j (W'.putObj l o') := HI.out.keep GW.out S5.out RW.out (put_but W' l o') (fun q e => by subst e; exact ⟨hlS, fun hcc => hcc.ne hoo hc rfl⟩)
    clear hoo hc HI
    generalize W'.putObj l o' = W2 at *
    obtain ⟨hbW, hcs, hfz0, σ, av, gv, lv, V, hT⟩ := hI2
    have hl0 : 0 < Lt.length := by omega
    have hfz := hfz0 hl0
    have hX : NOk now x := HOK.out.all x (List.mem_of_getElem? (by rw [List.getElem?_map, hx]; rfl))
    have gs : g < s := by have := (HG.out hl0).2.1; have := HS.out; omega
    have z1 := HZ1.out
    have zW := hbW.size
    have rg := (HG.out hl0).2.2.1
    have sK : ∀ q, q < s + 2 → q ≠ g → ¬ (q = g ∨ q = s + 2 ∨ q = s + 3 ∨ q = s + 4) := fun q h1 h2 e => by omega
    have cS : W2.cell? ⟨s, 0, none⟩ = some (.pointer (some ⟨b, 0, none⟩)) := (hbW.cell (p := ⟨s, 0, none⟩) (by show s < _; omega) (sK s (by omega) (by omega))).trans CC.out
    have cNw : W2.cell? ⟨s + 1, 0, none⟩ = some (.int .i64 now) := (hbW.cell (p := ⟨s + 1, 0, none⟩) (by show s + 1 < _; omega) (sK (s + 1) (by omega) (by omega))).trans CN.out
    have cx := hcs j t x (Nat.le_refl _) hx
    have hrow0 := (HP0.out j t x hx).1
    have hnil := (HP0.out j t x hx).2
    have ro0 : ∀ q t, ρ q = (k, 2, t) → q < s ∧ ¬ (q = g ∨ q = s + 2 ∨ q = s + 3 ∨ q = s + 4) := fun q t e => by
      have h1 := RHO.out q t e
      refine ⟨h1, sK q (by omega) ?_⟩
      rintro rfl
      rw [rg] at e
      simp at e
    have hrow : RowN (fun q => ρ q = (k, 2, t)) W2 (V0 j) x.pd := (hrow0.later HB1.out).but hbW (fun q e => (ro0 q t e).2)
    obtain ⟨va, vc, hV⟩ := hrow.shape
    obtain ⟨pl, hpl⟩ : ∃ pl, pl = x.pd.length := ⟨_, rfl⟩
    rw [← hpl] at hV
    rw [hV] at cx hrow hnil
    have hostA : ∀ W3, But (fun q => q = g ∨ q = s + 2 ∨ q = s + 3 ∨ q = s + 4 ∨ w1.heap.size ≤ q) W2 W3 → CellsAt W3 b 0 (m.vals ++ i.vals) := fun W3 hb => by
      have hbl := HW.out
      have hsW := HS.out
      have hgb := GBN.out
      exact ((H0.out.host.later hbl HB1.out).but (by omega) hbW (fun e => by omega)).but (by omega) hb (fun e => by omega)
    have NXT : Hid (∀ W3 A' G' T' σ' av' gv' lv' V', But (fun q => q = g ∨ q = s + 2 ∨ q = s + 3 ∨ q = s + 4 ∨ w1.heap.size ≤ q) W2 W3 → (∀ y, y < j * 15 ∨ j * 15 + 15 ≤ y → W3.cell? ⟨g, y, none⟩ = W2.cell? ⟨g, y, none⟩) → (∀ y, W3.frozen? ⟨g, y, none⟩ = false) → TkR ρ k m i w1.heap.size s A' G' T' σ' av' gv' lv' V' W3 →
        A' = tkA now ((Lt.take j).map Prod.snd) ++ (tkA1 now x).toList → G' = tkG now ((Lt.take j).map Prod.snd) ++ tkG1 now x → T' = tkT now (Lt.take j) ++ ((tk1 now x).map (fun y => (t, y))).toList → TkI w1 ρ k g s now m i Lt V0 (j + 1) W3) := fun W3 A' G' T' σ' av' gv' lv' V' hb ho hf hT' e1 e2 e3 => by
      refine ⟨hbW.trans' hb (fun q hq e => by omega), fun q t' x' hq hx' => ?_, fun _ => hf, σ', av', gv', lv', V', by rw [tkA_take hx, tkG_take hx, tkT_take hx, ← e1, ← e2, ← e3]; exact hT'⟩
      intro y u hu
      have hy := (List.getElem?_eq_some_iff.1 hu).1
      rw [Nb.cells_len] at hy
      rw [ho _ (by omega)]
      exact hcs q t' x' (by omega) hx' y u hu
    have lT : (tkT now (Lt.take j)).length ≤ 8 := Nat.le_trans (List.length_filterMap_le _ _) (by rw [List.length_take]; omega)
    have lA : (tkA now ((Lt.take j).map Prod.snd)).length ≤ 8 := Nat.le_trans (List.length_filterMap_le _ _) (by rw [List.length_map, List.length_take]; omega)
    have lG : (tkG now ((Lt.take j).map Prod.snd)).length ≤ 1000 := Nat.le_trans (tkG_len (fun y hy => by
      obtain ⟨p, hp, rfl⟩ := List.mem_map.1 hy
      exact (HOK.out.all _ (List.mem_map.2 ⟨p, List.mem_of_mem_take hp, rfl⟩)).pd2)) (by rw [List.length_map, List.length_take]; omega)
    have ro4 : ∀ y, y = 2 ∨ y = 3 ∨ y = 4 → ∀ q t, ρ q = (k, 2, t) → q < w1.heap.size ∧ q ≠ s + y := fun y hy q t e => by have := (ro0 q t e).1; omega
    have CELg : Cel W2 g := by have := cx 0 _ rfl; exact cells_of_cell this
    obtain ⟨A0, hA0⟩ : ∃ A0, A0 = tkA now ((Lt.take j).map Prod.snd) := ⟨_, rfl⟩
    obtain ⟨G0, hG0⟩ : ∃ G0, G0 = tkG now ((Lt.take j).map Prod.snd) := ⟨_, rfl⟩
    obtain ⟨T0, hT0⟩ : ∃ T0, T0 = tkT now (Lt.take j) := ⟨_, rfl⟩
    rw [← hA0, ← hG0, ← hT0] at hT
    rw [← hA0] at lA
    rw [← hG0] at lG
    rw [← hT0] at lT
    rw [← hA0, ← hG0, ← hT0] at NXT
    have HT := hide hT
    have HROW := hide hrow
    have HNIL := hide hnil
    have HCX := hide cx
    have HFZ := hide hfz
    have HPL := hide hpl
    have HLT := hide lT
    have HLA := hide lA
    have HLG := hide lG
    have RO4 := hide ro4
    have HOST := hide hostA
    have HGS2 := hide gs
    have HRG := hide rg
    have HZW := hide zW
    have CEL := hide CELg
    have HXX := hide hX
    have R0 := hide ro0
    have c4 : W2.cell? ⟨g, j * 15 + 4, none⟩ = some (.int .i64 x.st) := cx 4 _ rfl
    have c12 : W2.cell? ⟨g, j * 15 + 12, none⟩ = some (.int .i64 x.asked) := cx 12 _ rfl
    have c13 : W2.cell? ⟨g, j * 15 + 13, none⟩ = some (.int .i64 x.tries) := cx 13 _ rfl
    have HJ := hide hj
    clear hT hrow hnil cx hfz hfz0 hpl lT lA lG ro4 hostA gs rg zW CELg hA0 hG0 hT0 hrow0 ro0 hbW hcs z1 sK hV hX hx hj
    have FQ : Hid (tkQ now x = true → tk1 now x = some x ∧ tkA1 now x = none ∧ tkG1 now x = []) := fun e => ⟨by unfold tk1; rw [if_pos e], by unfold tkA1; rw [if_pos e], by unfold tkG1; rw [if_pos e]⟩
    by_cases hst : x.st = 2
    · have q1 : (x.st == 2) = true := by simp [hst]
      have EQ := FQ.out (by unfold tkQ; rw [hst]; rfl)
      rw [hst] at c4
      clear hst q1
      gi_wp2
      have TXa := HT
      have CXa := HCX
      have RXa := HROW
      have KXa := hide (KeepsFrom.refl w1.heap.size W2)
      have BXa : Hid (But (fun q => q = g ∨ q = s + 2 ∨ q = s + 3 ∨ q = s + 4 ∨ w1.heap.size ≤ q) W2 W2) := But.refl _ _
      have OXa : Hid (∀ y, y < j * 15 ∨ j * 15 + 15 ≤ y → W2.cell? ⟨g, y, none⟩ = W2.cell? ⟨g, y, none⟩) := fun _ _ => rfl
      have FXa := HFZ
      obtain ⟨wd, hwd⟩ : ∃ z, z = W2.drew := ⟨_, rfl⟩
      have bwd : Below W2.heap.size W2 wd := by rw [hwd]; exact (Below.refl _ W2).drew
      have nwd : But (fun _ => False) W2 wd := But.of_below bwd
      have gwd : g < W2.heap.size := by have := HGS2.out; have := HZW.out; have := HZ1.out; have := (BXa.out).size; omega
      have Twd := TXa.out.later bwd
      have Cwd := CXa.out.later gwd bwd
      have Rwd := RXa.out.later bwd
      have zx := (BXa.out).size
      have zw := HZW.out
      have z1 := HZ1.out
      obtain ⟨p, hp⟩ : ∃ p, p = wd.heap.size := ⟨_, rfl⟩
      obtain ⟨wb, hwb⟩ : ∃ z, z = wd.alloc (.cells (Nb.cells x (.slice va pl vc)).toArray 66) := ⟨_, rfl⟩
      have bb : Below wd.heap.size wd wb := by rw [hwb]; exact (Below.refl _ wd).alloc (Nat.le_refl _) _
      have Tb := Twd.later bb
      have Cb := Cwd.later (by have := bwd.size; omega) bb
      have Rb := Rwd.later bb
      have cp : CellsAt wb p 0 (Nb.cells x (.slice va pl vc)) := by rw [hwb, hp]; exact CellsAt.new wd _ 66
      have zd := bwd.size
      have zb := bb.size
      obtain ⟨a', c', w3, hrun, hb3, l3, f3, σ', V', hT'⟩ := Tb.left S5.out (by omega) (RO4.out 4 (.inr (.inr rfl))) HLT.out t x (.slice va pl vc) Rb HNIL.out p cp
      obtain ⟨w4, hw4⟩ : ∃ z, z = w3.setCell ⟨s + 4, 0, none⟩ (.slice a' (T0.length + 1) c') := ⟨_, rfl⟩
      rw [← hw4] at hT'
      have nb3 : But (fun q => w1.heap.size ≤ q ∧ Cel wb q) wb w3 := hb3.mono (fun q e => ⟨(Tb.new q (by rw [e.1]; omega)).1, e.2⟩)
      have n4 : But (Only (s + 4)) w3 w4 := by rw [hw4]; exact (But.refl (Only (s + 4)) w3).setCell (p := ⟨s + 4, 0, none⟩) (.inr rfl) _
      have ng3 : ¬ (w1.heap.size ≤ g ∧ Cel wb g) := fun e => by have := HGS2.out; omega
      have ng4 : ¬ Only (s + 4) g := fun e => by have e : g = s + 4 := e; have := HGS2.out; omega
      have gb : g < wb.heap.size := by omega
      have g3 : g < w3.heap.size := by have := hb3.size; omega
      have C3 := Cb.but gb nb3 ng3
      have BF : But (fun q => q = g ∨ q = s + 2 ∨ q = s + 3 ∨ q = s + 4 ∨ w1.heap.size ≤ q) W2 w4 := (((BXa.out.trans (nwd.mono (fun _ e => e.elim))).trans' (But.of_below (K := fun _ => False) bb) (fun _ _ e => e.elim)).trans' nb3 (fun q _ e => by have := e.1; omega)).trans' n4 (fun q _ e => by have e : q = s + 4 := e; omega)
      have OF : ∀ y, y < j * 15 ∨ j * 15 + 15 ≤ y → w4.cell? ⟨g, y, none⟩ = W2.cell? ⟨g, y, none⟩ := fun y hy => (n4.cell (p := ⟨g, y, none⟩) g3 ng4).trans ((nb3.cell (p := ⟨g, y, none⟩) gb ng3).trans ((bb.cell (p := ⟨g, y, none⟩) (by show g < _; omega)).trans ((nwd.cell (p := ⟨g, y, none⟩) gwd id).trans (OXa.out y hy))))
      have FF : ∀ y, w4.frozen? ⟨g, y, none⟩ = false := fun y => (n4.frozen (p := ⟨g, y, none⟩) g3 ng4).trans ((nb3.frozen (p := ⟨g, y, none⟩) gb ng3).trans ((bb.frozen (p := ⟨g, y, none⟩) (by show g < _; omega)).trans ((nwd.frozen (p := ⟨g, y, none⟩) gwd id).trans (FXa.out y))))
      have KF : KeepsFrom w1.heap.size W2 w4 := keeps_trans KXa.out (keeps_trans (KeepsFrom.of_but nwd (fun _ e => e.elim)) (keeps_trans (KeepsFrom.of_but (But.of_below (K := fun _ => False) bb) (fun _ e => e.elim)) (keeps_trans (KeepsFrom.of_but nb3 (fun q e => e.2)) (KeepsFrom.of_but n4 (fun q e => by have e : q = s + 4 := e; rw [e]; exact cells_of_cell l3)))))
      have FIN := hide (And.intro KF (NXT.out w4 _ _ _ _ _ _ _ _ BF OF FF hT' (by rw [EQ.2.1]; simp) (by rw [EQ.2.2]; simp) (by rw [EQ.1]; rfl)))
      refine regionJ_in (fun q => q != 6) (fun X => X.cell? ⟨s + 4, 0, none⟩ = some lv ∧ CellsAt X g (j * 15) (Nb.cells x (.slice va pl vc))) (by kernel_rfl) (by kernel_rfl) ?_
      rw [← hwd]
      refine takeJ (i := 0) (v := lv) 26 rfl rfl (by kernel_rfl) (by kernel_rfl) (by kernel_rfl) (by kernel_rfl) (fun _ _ _ h => h) (.inl ⟨by rfl, fun W hW => exec_load1 41 oneL _ rfl (s + 4) 0 rfl (lv) (hW.1)⟩) (⟨Twd.c4, Cwd⟩) ?_
      try simp only [Act.put, List.setIfInBounds_toArray, List.set_cons_zero, List.set_cons_succ]
      refine takeJ (i := 1) (v := .pointer (some ⟨g, j * 15, none⟩)) 27 rfl rfl (by kernel_rfl) (by kernel_rfl) (by kernel_rfl) (by kernel_rfl) (fun _ _ _ h => h) (.inl ⟨by rfl, fun W hW => exec_move _ _ rfl rfl⟩) (⟨Twd.c4, Cwd⟩) ?_
      try simp only [Act.put, List.setIfInBounds_toArray, List.set_cons_zero, List.set_cons_succ]
      refine takeJ (i := 2) (v := .pointer (some ⟨g, j * 15, none⟩)) 28 rfl rfl (by kernel_rfl) (by kernel_rfl) (by kernel_rfl) (by kernel_rfl) (fun _ _ _ h => h) (.inl ⟨by rfl, fun W hW => exec_nil _ _ rfl rfl⟩) (⟨Twd.c4, Cwd⟩) ?_
      try simp only [Act.put, List.setIfInBounds_toArray, List.set_cons_zero, List.set_cons_succ]
      refine takeJ (i := 3) (v := .agg (Nb.cells x (.slice va pl vc)).toArray) 29 rfl rfl (by kernel_rfl) (by kernel_rfl) (by kernel_rfl) (by kernel_rfl) (fun _ _ _ h => h) (.inl ⟨by rfl, fun W hW => exec_loadA 66 15 aggN sizN _ rfl g (j * 15) rfl (Nb.cells x (.slice va pl vc)) rfl (hW.2)⟩) (⟨Twd.c4, Cwd⟩) ?_
      try simp only [Act.put, List.setIfInBounds_toArray, List.set_cons_zero, List.set_cons_succ]
      refine nextJ (w' := wb) 4 30 (.slice (some ⟨p, 0, none⟩) 1 1) (by kernel_rfl) rfl rfl (by rfl) (by rw [hwb, hp]; exact exec_bsN _ _ _ _ _ rfl rfl) (⟨Tb.c4, Cb⟩) ?_
      try simp only [Act.put, List.setIfInBounds_toArray, List.set_cons_zero, List.set_cons_succ]
      refine nextJ (w' := w3) 5 31 (.slice a' (T0.length + 1) c') (by kernel_rfl) rfl rfl (by rfl) (exec_app _ _ 41 41 rfl lv (.slice (some ⟨p, 0, none⟩) 1 1) rfl rfl 41 rfl hrun) (⟨l3, C3⟩) ?_
      try simp only [Act.put, List.setIfInBounds_toArray, List.set_cons_zero, List.set_cons_succ]
      refine storeJ (w' := w4) 6 (by kernel_rfl) rfl rfl (by rfl) (by rw [hw4]; exact exec_store1 41 s1L _ _ rfl (s + 4) 0 rfl lv _ rfl l3 f3 rfl) ((fun e => by simp at e)) ?_
      try simp only [Act.put, List.setIfInBounds_toArray, List.set_cons_zero, List.set_cons_succ]
      refine doneJW (by kernel_rfl) _ ?_
      clear hrun hb3 l3 f3 hT' nb3 n4 ng3 ng4 gb g3 C3 BF OF FF KF hw4 hwb hwd hp cp Rb Cb Tb bb Rwd Cwd Twd gwd nwd bwd zd zb zx zw z1
      gi_wp2
      exact FIN.out
    · have q1 : (x.st == 2) = false := by simp [hst]
      by_cases hps : 2 ≤ now - x.asked
      · have EP : psB x.asked now 2 = true := by unfold psB; simp only [decide_eq_true_eq]; have := HXX.out.asked1; omega
        have NQ : tkQ now x = false := by unfold tkQ; simp [hst, hps]
        by_cases ht3 : x.tries = 3
        · have EQ : tk1 now x = none ∧ tkA1 now x = none ∧ tkG1 now x = x.pd := ⟨by unfold tk1; rw [if_neg (by rw [NQ]; simp), if_pos ht3], by unfold tkA1; rw [if_neg (by rw [NQ]; simp), if_pos ht3], by unfold tkG1; rw [if_neg (by rw [NQ]; simp), if_pos ht3]⟩
          rw [ht3] at c13
          clear hst hps NQ ht3
          gi_wp2
          have TXa := HT
          have CXa := HCX
          have RXa := HROW
          have KXa := hide (KeepsFrom.refl w1.heap.size W2)
          have BXa : Hid (But (fun q => q = g ∨ q = s + 2 ∨ q = s + 3 ∨ q = s + 4 ∨ w1.heap.size ≤ q) W2 W2) := But.refl _ _
          have OXa : Hid (∀ y, y < j * 15 ∨ j * 15 + 15 ≤ y → W2.cell? ⟨g, y, none⟩ = W2.cell? ⟨g, y, none⟩) := fun _ _ => rfl
          have FXa := HFZ
          obtain ⟨wq, hwq⟩ : ∃ z, z = W2.drew := ⟨_, rfl⟩
          have bwq : Below W2.heap.size W2 wq := by rw [hwq]; exact (Below.refl _ W2).drew
          have nwq : But (fun _ => False) W2 wq := But.of_below bwq
          have gwq : g < W2.heap.size := by have := HGS2.out; have := HZW.out; have := HZ1.out; have := (BXa.out).size; omega
          have Twq := TXa.out.later bwq
          have Cwq := CXa.out.later gwq bwq
          have Rwq := RXa.out.later bwq
          have S7 : wq.cell? ⟨g, j * 15 + 12, none⟩ = some (.int .i64 x.asked) ∧ wq.cell? ⟨s + 1, 0, none⟩ = some (.int .i64 now) := ⟨(nwq.cell (p := ⟨g, j * 15 + 12, none⟩) gwq id).trans c12, (nwq.cell (p := ⟨s + 1, 0, none⟩) (World.block_lt_of_cell? W2 _ cNw) id).trans cNw⟩
          have TXb := hide Twq
          have CXb := hide Cwq
          have RXb := hide Rwq
          have KXb := hide (keeps_trans KXa.out (KeepsFrom.of_but nwq (fun _ e => e.elim)))
          have BXb := hide (BXa.out.trans (nwq.mono (fun _ e => e.elim)))
          have OXb : Hid (∀ y, y < j * 15 ∨ j * 15 + 15 ≤ y → wq.cell? ⟨g, y, none⟩ = W2.cell? ⟨g, y, none⟩) := fun y hy => (nwq.cell (p := ⟨g, y, none⟩) gwq id).trans (OXa.out y hy)
          have FXb : Hid (∀ y, wq.frozen? ⟨g, y, none⟩ = false) := fun y => (nwq.frozen (p := ⟨g, y, none⟩) gwq id).trans (FXa.out y)
          have HPS := hide (havePassed_any x.asked now 2 wq (by have := HXX.out.asked0; have := HXX.out.asked1; omega) (by have := HXX.out.asked0; have := HXX.out.asked1; omega) (by omega))
          rw [EP] at HPS
          refine region_in (fun X => X.cell? ⟨g, j * 15 + 12, none⟩ = some (.int .i64 x.asked) ∧ X.cell? ⟨s + 1, 0, none⟩ = some (.int .i64 now)) (by kernel_rfl) (by kernel_rfl) ?_
          rw [← hwq]
          refine takeD (i := 0) (v := .pointer (some ⟨g, j * 15, none⟩)) 19 rfl rfl (by kernel_rfl) (by kernel_rfl) (by kernel_rfl) (fun _ _ _ h => h) (.inl ⟨by rfl, fun W hW => exec_move _ _ rfl rfl⟩) (S7) ?_
          try simp only [Act.put, List.setIfInBounds_toArray, List.set_cons_zero, List.set_cons_succ]
          refine takeD (i := 1) (v := .pointer (some ⟨g, j * 15, none⟩)) 20 rfl rfl (by kernel_rfl) (by kernel_rfl) (by kernel_rfl) (fun _ _ _ h => h) (.inl ⟨by rfl, fun W hW => exec_nil _ _ rfl rfl⟩) (S7) ?_
          try simp only [Act.put, List.setIfInBounds_toArray, List.set_cons_zero, List.set_cons_succ]
          refine takeD (i := 2) (v := .pointer (some ⟨g, j * 15 + 12, none⟩)) 21 rfl rfl (by kernel_rfl) (by kernel_rfl) (by kernel_rfl) (fun _ _ _ h => h) (.inl ⟨by rfl, fun W hW => exec_fieldO 66 _ 4 g (j * 15) (j * 15 + 12) rfl rfl (fun w => by kernel_rfl)⟩) (S7) ?_
          try simp only [Act.put, List.setIfInBounds_toArray, List.set_cons_zero, List.set_cons_succ]
          refine takeD (i := 3) (v := .int .i64 x.asked) 22 rfl rfl (by kernel_rfl) (by kernel_rfl) (by kernel_rfl) (fun _ _ _ h => h) (.inl ⟨by rfl, fun W hW => exec_load1 3 one1 _ rfl g (j * 15 + 12) rfl (.int .i64 x.asked) (hW.1)⟩) (S7) ?_
          try simp only [Act.put, List.setIfInBounds_toArray, List.set_cons_zero, List.set_cons_succ]
          refine takeD (i := 4) (v := .int .i64 now) 23 rfl rfl (by kernel_rfl) (by kernel_rfl) (by kernel_rfl) (fun _ _ _ h => h) (.inl ⟨by rfl, fun W hW => exec_load1 3 one1 _ rfl (s + 1) 0 rfl (.int .i64 now) (hW.2)⟩) (S7) ?_
          try simp only [Act.put, List.setIfInBounds_toArray, List.set_cons_zero, List.set_cons_succ]
          refine callD 5 24 (by kernel_rfl) rfl rfl (by rfl) 35 #[.int .i64 x.asked, .int .i64 now, .int .i64 2] (by kernel_rfl) (fun v w9 => v = .bool true ∧ wq = w9) (HPS.out.mono (fun e w' h => ⟨_, h.1, rfl, h.2.symm⟩)) ?_
          rintro v w9 ⟨rfl, rfl⟩
          refine ⟨S7, ?_⟩
          simp only [Act.put, List.setIfInBounds_toArray, List.set_cons_zero, List.set_cons_succ]
          refine takeD (i := 6) (v := .bool false) 25 rfl rfl (by kernel_rfl) (by kernel_rfl) (by kernel_rfl) (fun _ _ _ h => h) (.inl ⟨by rfl, fun W hW => exec_not _ _ true rfl rfl⟩) (S7) ?_
          try simp only [Act.put, List.setIfInBounds_toArray, List.set_cons_zero, List.set_cons_succ]
          refine takeD (i := 7) (v := .bool false) 13 rfl rfl (by kernel_rfl) (by kernel_rfl) (by kernel_rfl) (fun _ _ _ h => h) (.inl ⟨by rfl, fun W hW => exec_assign _ _ rfl rfl⟩) (S7) ?_
          try simp only [Act.put, List.setIfInBounds_toArray, List.set_cons_zero, List.set_cons_succ]
          refine doneR (by kernel_rfl) _ ?_
          clear hwq
          have c13q : wq.cell? ⟨g, j * 15 + 13, none⟩ = some (.int .i64 3) := (nwq.cell (p := ⟨g, j * 15 + 13, none⟩) gwq id).trans c13
          clear Twq Cwq Rwq gwq nwq bwq S7 HPS EP
          gi_wp2
          clear c13q
          by_cases hpd : x.pd = []
          · obtain ⟨wd, hwd⟩ : ∃ z, z = wq.drew := ⟨_, rfl⟩
            have bwd : Below wq.heap.size wq wd := by rw [hwd]; exact (Below.refl _ wq).drew
            have nwd : But (fun _ => False) wq wd := But.of_below bwd
            have gwd : g < wq.heap.size := by have := HGS2.out; have := HZW.out; have := HZ1.out; have := (BXb.out).size; omega
            have Twd := TXb.out.later bwd
            have Cwd := CXb.out.later gwd bwd
            have Rwd := RXb.out.later bwd
            have zx := (BXb.out).size
            have zw := HZW.out
            have z1 := HZ1.out
            have zd := bwd.size
            have ev : (Value.slice va pl vc) = .slice none 0 0 := HNIL.out hpd
            simp only [Value.slice.injEq] at ev
            obtain ⟨rfl, rfl, rfl⟩ := ev
            obtain ⟨ga, gc, hgv⟩ := Twd.rg.shape
            have hrun : (Builtin.append_ #[54, 54] 54 #[gv, .slice none 0 0]).run Try.prog wd = .ok gv wd := by
              obtain ⟨a9, c9, e9, l9, _⟩ := Twd.rg
              rw [e9]
              exact run_app_nil wd a9 _ c9 l9
            obtain ⟨w4, hw4⟩ : ∃ z, z = wd.setCell ⟨s + 3, 0, none⟩ gv := ⟨_, rfl⟩
            have hT' := Twd.same3 S5.out (RO4.out 3 (.inr (.inl rfl)))
            rw [← hw4] at hT'
            have l3 := Twd.c3
            have f3 := Twd.f3
            have nb3 : But (fun q => w1.heap.size ≤ q ∧ Cel wd q) wd wd := But.refl _ _
            have one : gv.oneCell' = true := by rw [hgv]; rfl
            have n4 : But (Only (s + 3)) wd w4 := by rw [hw4]; exact (But.refl (Only (s + 3)) wd).setCell (p := ⟨s + 3, 0, none⟩) (.inr rfl) _
            have ng3 : ¬ (w1.heap.size ≤ g ∧ Cel wd g) := fun e => by have := HGS2.out; omega
            have ng4 : ¬ Only (s + 3) g := fun e => by have e : g = s + 3 := e; have := HGS2.out; omega
            have gd : g < wd.heap.size := by omega
            have g3 : g < wd.heap.size := by have := nb3.size; omega
            have cpd : wd.cell? ⟨g, j * 15 + 14, none⟩ = some (.slice none 0 0) := Cwd 14 _ rfl
            have cp3 : wd.cell? ⟨g, j * 15 + 14, none⟩ = some (.slice none 0 0) := (nb3.cell (p := ⟨g, j * 15 + 14, none⟩) gd ng3).trans cpd
            have BF : But (fun q => q = g ∨ q = s + 2 ∨ q = s + 3 ∨ q = s + 4 ∨ w1.heap.size ≤ q) W2 w4 := ((BXb.out.trans (nwd.mono (fun _ e => e.elim))).trans' nb3 (fun q _ e => by have := e.1; omega)).trans' n4 (fun q _ e => by have e : q = s + 3 := e; omega)
            have OF : ∀ y, y < j * 15 ∨ j * 15 + 15 ≤ y → w4.cell? ⟨g, y, none⟩ = W2.cell? ⟨g, y, none⟩ := fun y hy => (n4.cell (p := ⟨g, y, none⟩) g3 ng4).trans ((nb3.cell (p := ⟨g, y, none⟩) gd ng3).trans ((nwd.cell (p := ⟨g, y, none⟩) gwd id).trans (OXb.out y hy)))
            have FF : ∀ y, w4.frozen? ⟨g, y, none⟩ = false := fun y => (n4.frozen (p := ⟨g, y, none⟩) g3 ng4).trans ((nb3.frozen (p := ⟨g, y, none⟩) gd ng3).trans ((nwd.frozen (p := ⟨g, y, none⟩) gwd id).trans (FXb.out y)))
            have KF : KeepsFrom w1.heap.size W2 w4 := keeps_trans KXb.out (keeps_trans (KeepsFrom.of_but nwd (fun _ e => e.elim)) (keeps_trans (KeepsFrom.of_but nb3 (fun q e => e.2)) (KeepsFrom.of_but n4 (fun q e => by have e : q = s + 3 := e; rw [e]; exact cells_of_cell l3))))
            have FIN := hide (And.intro KF (NXT.out w4 _ _ _ _ _ _ _ _ BF OF FF hT' (by rw [EQ.2.1]; simp) (by rw [EQ.2.2, hpd]; simp) (by rw [EQ.1]; simp)))
            refine regionJ_in (fun q => q != 6) (fun X => X.cell? ⟨s + 3, 0, none⟩ = some gv ∧ X.cell? ⟨g, j * 15 + 14, none⟩ = some (.slice none 0 0)) (by kernel_rfl) (by kernel_rfl) ?_
            rw [← hwd]
            refine takeJ (i := 0) (v := gv) 38 rfl rfl (by kernel_rfl) (by kernel_rfl) (by kernel_rfl) (by kernel_rfl) (fun _ _ _ h => h) (.inl ⟨by rfl, fun W hW => exec_load1 54 oneI _ rfl (s + 3) 0 rfl (gv) (hW.1)⟩) (⟨Twd.c3, cpd⟩) ?_
            try simp only [Act.put, List.setIfInBounds_toArray, List.set_cons_zero, List.set_cons_succ]
            refine takeJ (i := 1) (v := .pointer (some ⟨g, j * 15, none⟩)) 39 rfl rfl (by kernel_rfl) (by kernel_rfl) (by kernel_rfl) (by kernel_rfl) (fun _ _ _ h => h) (.inl ⟨by rfl, fun W hW => exec_move _ _ rfl rfl⟩) (⟨Twd.c3, cpd⟩) ?_
            try simp only [Act.put, List.setIfInBounds_toArray, List.set_cons_zero, List.set_cons_succ]
            refine takeJ (i := 2) (v := .pointer (some ⟨g, j * 15, none⟩)) 40 rfl rfl (by kernel_rfl) (by kernel_rfl) (by kernel_rfl) (by kernel_rfl) (fun _ _ _ h => h) (.inl ⟨by rfl, fun W hW => exec_nil _ _ rfl rfl⟩) (⟨Twd.c3, cpd⟩) ?_
            try simp only [Act.put, List.setIfInBounds_toArray, List.set_cons_zero, List.set_cons_succ]
            refine takeJ (i := 3) (v := .pointer (some ⟨g, j * 15 + 14, none⟩)) 41 rfl rfl (by kernel_rfl) (by kernel_rfl) (by kernel_rfl) (by kernel_rfl) (fun _ _ _ h => h) (.inl ⟨by rfl, fun W hW => exec_fieldO 66 _ 6 g (j * 15) (j * 15 + 14) rfl rfl (fun w => by kernel_rfl)⟩) (⟨Twd.c3, cpd⟩) ?_
            try simp only [Act.put, List.setIfInBounds_toArray, List.set_cons_zero, List.set_cons_succ]
            refine takeJ (i := 4) (v := .slice none 0 0) 42 rfl rfl (by kernel_rfl) (by kernel_rfl) (by kernel_rfl) (by kernel_rfl) (fun _ _ _ h => h) (.inl ⟨by rfl, fun W hW => exec_load1 54 oneI _ rfl g (j * 15 + 14) rfl (.slice none 0 0) (hW.2)⟩) (⟨Twd.c3, cpd⟩) ?_
            try simp only [Act.put, List.setIfInBounds_toArray, List.set_cons_zero, List.set_cons_succ]
            refine nextJ (w' := wd) 5 43 (gv) (by kernel_rfl) rfl rfl (by rfl) (exec_app _ _ 54 54 rfl gv (.slice none 0 0) rfl rfl 54 rfl hrun) (⟨l3, cp3⟩) ?_
            try simp only [Act.put, List.setIfInBounds_toArray, List.set_cons_zero, List.set_cons_succ]
            refine storeJ (w' := w4) 6 (by kernel_rfl) rfl rfl (by rfl) (by rw [hw4]; exact exec_store1 54 s1I _ _ rfl (s + 3) 0 rfl gv _ rfl l3 f3 one) ((fun e => by simp at e)) ?_
            try simp only [Act.put, List.setIfInBounds_toArray, List.set_cons_zero, List.set_cons_succ]
            refine doneJW (by kernel_rfl) _ ?_
            clear hrun l3 f3 hT' nb3 n4 ng3 ng4 gd g3 BF OF FF KF hw4 hwd Rwd Cwd Twd gwd nwd bwd zd zx zw z1 cpd cp3 one
            gi_wp2
            exact FIN.out
          · obtain ⟨wd, hwd⟩ : ∃ z, z = wq.drew := ⟨_, rfl⟩
            have bwd : Below wq.heap.size wq wd := by rw [hwd]; exact (Below.refl _ wq).drew
            have nwd : But (fun _ => False) wq wd := But.of_below bwd
            have gwd : g < wq.heap.size := by have := HGS2.out; have := HZW.out; have := HZ1.out; have := (BXb.out).size; omega
            have Twd := TXb.out.later bwd
            have Cwd := CXb.out.later gwd bwd
            have Rwd := RXb.out.later bwd
            have zx := (BXb.out).size
            have zw := HZW.out
            have z1 := HZ1.out
            have zd := bwd.size
            have hpp : 0 < x.pd.length := by cases hq : x.pd with
              | nil => exact absurd hq hpd
              | cons y ys => simp
            obtain ⟨pg, po, hva, _, _, hcs⟩ := Rwd.at hpp
            have src := src_ints (W := wd) pg po vc x.pd hcs
            rw [← HPL.out, ← hva] at src
            obtain ⟨a', c', w3, hrun, hb3, l3, f3, σ', hT'⟩ := Twd.gone S5.out (by omega) (RO4.out 3 (.inr (.inl rfl))) HLG.out x.pd hpp (by have := HXX.out.pd2; omega) (.slice va pl vc) (by rw [← HPL.out]; exact src)
            obtain ⟨w4, hw4⟩ : ∃ z, z = w3.setCell ⟨s + 3, 0, none⟩ (.slice a' (G0 ++ x.pd).length c') := ⟨_, rfl⟩
            rw [← hw4] at hT'
            have nb3 : But (fun q => w1.heap.size ≤ q ∧ Cel wd q) wd w3 := hb3.mono (fun q e => ⟨(Twd.new q (by rw [e.1]; omega)).1, e.2⟩)
            have one : (Value.slice a' (G0 ++ x.pd).length c').oneCell' = true := rfl
            have n4 : But (Only (s + 3)) w3 w4 := by rw [hw4]; exact (But.refl (Only (s + 3)) w3).setCell (p := ⟨s + 3, 0, none⟩) (.inr rfl) _
            have ng3 : ¬ (w1.heap.size ≤ g ∧ Cel wd g) := fun e => by have := HGS2.out; omega
            have ng4 : ¬ Only (s + 3) g := fun e => by have e : g = s + 3 := e; have := HGS2.out; omega
            have gd : g < wd.heap.size := by omega
            have g3 : g < w3.heap.size := by have := nb3.size; omega
            have cpd : wd.cell? ⟨g, j * 15 + 14, none⟩ = some (.slice va pl vc) := Cwd 14 _ rfl
            have cp3 : w3.cell? ⟨g, j * 15 + 14, none⟩ = some (.slice va pl vc) := (nb3.cell (p := ⟨g, j * 15 + 14, none⟩) gd ng3).trans cpd
            have BF : But (fun q => q = g ∨ q = s + 2 ∨ q = s + 3 ∨ q = s + 4 ∨ w1.heap.size ≤ q) W2 w4 := ((BXb.out.trans (nwd.mono (fun _ e => e.elim))).trans' nb3 (fun q _ e => by have := e.1; omega)).trans' n4 (fun q _ e => by have e : q = s + 3 := e; omega)
            have OF : ∀ y, y < j * 15 ∨ j * 15 + 15 ≤ y → w4.cell? ⟨g, y, none⟩ = W2.cell? ⟨g, y, none⟩ := fun y hy => (n4.cell (p := ⟨g, y, none⟩) g3 ng4).trans ((nb3.cell (p := ⟨g, y, none⟩) gd ng3).trans ((nwd.cell (p := ⟨g, y, none⟩) gwd id).trans (OXb.out y hy)))
            have FF : ∀ y, w4.frozen? ⟨g, y, none⟩ = false := fun y => (n4.frozen (p := ⟨g, y, none⟩) g3 ng4).trans ((nb3.frozen (p := ⟨g, y, none⟩) gd ng3).trans ((nwd.frozen (p := ⟨g, y, none⟩) gwd id).trans (FXb.out y)))
            have KF : KeepsFrom w1.heap.size W2 w4 := keeps_trans KXb.out (keeps_trans (KeepsFrom.of_but nwd (fun _ e => e.elim)) (keeps_trans (KeepsFrom.of_but nb3 (fun q e => e.2)) (KeepsFrom.of_but n4 (fun q e => by have e : q = s + 3 := e; rw [e]; exact cells_of_cell l3))))
            have FIN := hide (And.intro KF (NXT.out w4 _ _ _ _ _ _ _ _ BF OF FF hT' (by rw [EQ.2.1]; simp) (by rw [EQ.2.2]) (by rw [EQ.1]; simp)))
            refine regionJ_in (fun q => q != 6) (fun X => X.cell? ⟨s + 3, 0, none⟩ = some gv ∧ X.cell? ⟨g, j * 15 + 14, none⟩ = some (.slice va pl vc)) (by kernel_rfl) (by kernel_rfl) ?_
            rw [← hwd]
            refine takeJ (i := 0) (v := gv) 38 rfl rfl (by kernel_rfl) (by kernel_rfl) (by kernel_rfl) (by kernel_rfl) (fun _ _ _ h => h) (.inl ⟨by rfl, fun W hW => exec_load1 54 oneI _ rfl (s + 3) 0 rfl (gv) (hW.1)⟩) (⟨Twd.c3, cpd⟩) ?_
            try simp only [Act.put, List.setIfInBounds_toArray, List.set_cons_zero, List.set_cons_succ]
            refine takeJ (i := 1) (v := .pointer (some ⟨g, j * 15, none⟩)) 39 rfl rfl (by kernel_rfl) (by kernel_rfl) (by kernel_rfl) (by kernel_rfl) (fun _ _ _ h => h) (.inl ⟨by rfl, fun W hW => exec_move _ _ rfl rfl⟩) (⟨Twd.c3, cpd⟩) ?_
            try simp only [Act.put, List.setIfInBounds_toArray, List.set_cons_zero, List.set_cons_succ]
            refine takeJ (i := 2) (v := .pointer (some ⟨g, j * 15, none⟩)) 40 rfl rfl (by kernel_rfl) (by kernel_rfl) (by kernel_rfl) (by kernel_rfl) (fun _ _ _ h => h) (.inl ⟨by rfl, fun W hW => exec_nil _ _ rfl rfl⟩) (⟨Twd.c3, cpd⟩) ?_
            try simp only [Act.put, List.setIfInBounds_toArray, List.set_cons_zero, List.set_cons_succ]
            refine takeJ (i := 3) (v := .pointer (some ⟨g, j * 15 + 14, none⟩)) 41 rfl rfl (by kernel_rfl) (by kernel_rfl) (by kernel_rfl) (by kernel_rfl) (fun _ _ _ h => h) (.inl ⟨by rfl, fun W hW => exec_fieldO 66 _ 6 g (j * 15) (j * 15 + 14) rfl rfl (fun w => by kernel_rfl)⟩) (⟨Twd.c3, cpd⟩) ?_
            try simp only [Act.put, List.setIfInBounds_toArray, List.set_cons_zero, List.set_cons_succ]
            refine takeJ (i := 4) (v := .slice va pl vc) 42 rfl rfl (by kernel_rfl) (by kernel_rfl) (by kernel_rfl) (by kernel_rfl) (fun _ _ _ h => h) (.inl ⟨by rfl, fun W hW => exec_load1 54 oneI _ rfl g (j * 15 + 14) rfl (.slice va pl vc) (hW.2)⟩) (⟨Twd.c3, cpd⟩) ?_
            try simp only [Act.put, List.setIfInBounds_toArray, List.set_cons_zero, List.set_cons_succ]
            refine nextJ (w' := w3) 5 43 (.slice a' (G0 ++ x.pd).length c') (by kernel_rfl) rfl rfl (by rfl) (exec_app _ _ 54 54 rfl gv (.slice va pl vc) rfl rfl 54 rfl hrun) (⟨l3, cp3⟩) ?_
            try simp only [Act.put, List.setIfInBounds_toArray, List.set_cons_zero, List.set_cons_succ]
            refine storeJ (w' := w4) 6 (by kernel_rfl) rfl rfl (by rfl) (by rw [hw4]; exact exec_store1 54 s1I _ _ rfl (s + 3) 0 rfl gv _ rfl l3 f3 one) ((fun e => by simp at e)) ?_
            try simp only [Act.put, List.setIfInBounds_toArray, List.set_cons_zero, List.set_cons_succ]
            refine doneJW (by kernel_rfl) _ ?_
            clear hrun l3 f3 hT' nb3 n4 ng3 ng4 gd g3 BF OF FF KF hw4 hwd Rwd Cwd Twd gwd nwd bwd zd zx zw z1 cpd cp3 one
            gi_wp2
            exact FIN.out
        · have EQ : tk1 now x = some { x with tries := x.tries + 1, asked := now } ∧ tkA1 now x = some x.ip ∧ tkG1 now x = [] := ⟨by unfold tk1; rw [if_neg (by rw [NQ]; simp), if_neg ht3], by unfold tkA1; rw [if_neg (by rw [NQ]; simp), if_neg ht3], by unfold tkG1; rw [if_neg (by rw [NQ]; simp), if_neg ht3]⟩
          have q3 : (x.tries == 3) = false := by simp [ht3]
          clear hst hps NQ
          gi_wp2
          have TXa := HT
          have CXa := HCX
          have RXa := HROW
          have KXa := hide (KeepsFrom.refl w1.heap.size W2)
          have BXa : Hid (But (fun q => q = g ∨ q = s + 2 ∨ q = s + 3 ∨ q = s + 4 ∨ w1.heap.size ≤ q) W2 W2) := But.refl _ _
          have OXa : Hid (∀ y, y < j * 15 ∨ j * 15 + 15 ≤ y → W2.cell? ⟨g, y, none⟩ = W2.cell? ⟨g, y, none⟩) := fun _ _ => rfl
          have FXa := HFZ
          obtain ⟨wq, hwq⟩ : ∃ z, z = W2.drew := ⟨_, rfl⟩
          have bwq : Below W2.heap.size W2 wq := by rw [hwq]; exact (Below.refl _ W2).drew
          have nwq : But (fun _ => False) W2 wq := But.of_below bwq
          have gwq : g < W2.heap.size := by have := HGS2.out; have := HZW.out; have := HZ1.out; have := (BXa.out).size; omega
          have Twq := TXa.out.later bwq
          have Cwq := CXa.out.later gwq bwq
          have Rwq := RXa.out.later bwq
          have S7 : wq.cell? ⟨g, j * 15 + 12, none⟩ = some (.int .i64 x.asked) ∧ wq.cell? ⟨s + 1, 0, none⟩ = some (.int .i64 now) := ⟨(nwq.cell (p := ⟨g, j * 15 + 12, none⟩) gwq id).trans c12, (nwq.cell (p := ⟨s + 1, 0, none⟩) (World.block_lt_of_cell? W2 _ cNw) id).trans cNw⟩
          have TXb := hide Twq
          have CXb := hide Cwq
          have RXb := hide Rwq
          have KXb := hide (keeps_trans KXa.out (KeepsFrom.of_but nwq (fun _ e => e.elim)))
          have BXb := hide (BXa.out.trans (nwq.mono (fun _ e => e.elim)))
          have OXb : Hid (∀ y, y < j * 15 ∨ j * 15 + 15 ≤ y → wq.cell? ⟨g, y, none⟩ = W2.cell? ⟨g, y, none⟩) := fun y hy => (nwq.cell (p := ⟨g, y, none⟩) gwq id).trans (OXa.out y hy)
          have FXb : Hid (∀ y, wq.frozen? ⟨g, y, none⟩ = false) := fun y => (nwq.frozen (p := ⟨g, y, none⟩) gwq id).trans (FXa.out y)
          have HPS := hide (havePassed_any x.asked now 2 wq (by have := HXX.out.asked0; have := HXX.out.asked1; omega) (by have := HXX.out.asked0; have := HXX.out.asked1; omega) (by omega))
          rw [EP] at HPS
          refine region_in (fun X => X.cell? ⟨g, j * 15 + 12, none⟩ = some (.int .i64 x.asked) ∧ X.cell? ⟨s + 1, 0, none⟩ = some (.int .i64 now)) (by kernel_rfl) (by kernel_rfl) ?_
          rw [← hwq]
          refine takeD (i := 0) (v := .pointer (some ⟨g, j * 15, none⟩)) 19 rfl rfl (by kernel_rfl) (by kernel_rfl) (by kernel_rfl) (fun _ _ _ h => h) (.inl ⟨by rfl, fun W hW => exec_move _ _ rfl rfl⟩) (S7) ?_
          try simp only [Act.put, List.setIfInBounds_toArray, List.set_cons_zero, List.set_cons_succ]
          refine takeD (i := 1) (v := .pointer (some ⟨g, j * 15, none⟩)) 20 rfl rfl (by kernel_rfl) (by kernel_rfl) (by kernel_rfl) (fun _ _ _ h => h) (.inl ⟨by rfl, fun W hW => exec_nil _ _ rfl rfl⟩) (S7) ?_
          try simp only [Act.put, List.setIfInBounds_toArray, List.set_cons_zero, List.set_cons_succ]
          refine takeD (i := 2) (v := .pointer (some ⟨g, j * 15 + 12, none⟩)) 21 rfl rfl (by kernel_rfl) (by kernel_rfl) (by kernel_rfl) (fun _ _ _ h => h) (.inl ⟨by rfl, fun W hW => exec_fieldO 66 _ 4 g (j * 15) (j * 15 + 12) rfl rfl (fun w => by kernel_rfl)⟩) (S7) ?_
          try simp only [Act.put, List.setIfInBounds_toArray, List.set_cons_zero, List.set_cons_succ]
          refine takeD (i := 3) (v := .int .i64 x.asked) 22 rfl rfl (by kernel_rfl) (by kernel_rfl) (by kernel_rfl) (fun _ _ _ h => h) (.inl ⟨by rfl, fun W hW => exec_load1 3 one1 _ rfl g (j * 15 + 12) rfl (.int .i64 x.asked) (hW.1)⟩) (S7) ?_
          try simp only [Act.put, List.setIfInBounds_toArray, List.set_cons_zero, List.set_cons_succ]
          refine takeD (i := 4) (v := .int .i64 now) 23 rfl rfl (by kernel_rfl) (by kernel_rfl) (by kernel_rfl) (fun _ _ _ h => h) (.inl ⟨by rfl, fun W hW => exec_load1 3 one1 _ rfl (s + 1) 0 rfl (.int .i64 now) (hW.2)⟩) (S7) ?_
          try simp only [Act.put, List.setIfInBounds_toArray, List.set_cons_zero, List.set_cons_succ]
          refine callD 5 24 (by kernel_rfl) rfl rfl (by rfl) 35 #[.int .i64 x.asked, .int .i64 now, .int .i64 2] (by kernel_rfl) (fun v w9 => v = .bool true ∧ wq = w9) (HPS.out.mono (fun e w' h => ⟨_, h.1, rfl, h.2.symm⟩)) ?_
          rintro v w9 ⟨rfl, rfl⟩
          refine ⟨S7, ?_⟩
          simp only [Act.put, List.setIfInBounds_toArray, List.set_cons_zero, List.set_cons_succ]
          refine takeD (i := 6) (v := .bool false) 25 rfl rfl (by kernel_rfl) (by kernel_rfl) (by kernel_rfl) (fun _ _ _ h => h) (.inl ⟨by rfl, fun W hW => exec_not _ _ true rfl rfl⟩) (S7) ?_
          try simp only [Act.put, List.setIfInBounds_toArray, List.set_cons_zero, List.set_cons_succ]
          refine takeD (i := 7) (v := .bool false) 13 rfl rfl (by kernel_rfl) (by kernel_rfl) (by kernel_rfl) (fun _ _ _ h => h) (.inl ⟨by rfl, fun W hW => exec_assign _ _ rfl rfl⟩) (S7) ?_
          try simp only [Act.put, List.setIfInBounds_toArray, List.set_cons_zero, List.set_cons_succ]
          refine doneR (by kernel_rfl) _ ?_
          clear hwq
          have c13q : wq.cell? ⟨g, j * 15 + 13, none⟩ = some (.int .i64 x.tries) := (nwq.cell (p := ⟨g, j * 15 + 13, none⟩) gwq id).trans c13
          clear Twq Cwq Rwq gwq nwq bwq HPS EP
          gi_wp2
          clear c13q
          obtain ⟨wr, hwr⟩ : ∃ z, z = wq.drew := ⟨_, rfl⟩
          have bwr : Below wq.heap.size wq wr := by rw [hwr]; exact (Below.refl _ wq).drew
          have nwr : But (fun _ => False) wq wr := But.of_below bwr
          have gwr : g < wq.heap.size := by have := HGS2.out; have := HZW.out; have := HZ1.out; have := (BXb.out).size; omega
          have Twr := TXb.out.later bwr
          have Cwr := CXb.out.later gwr bwr
          have Rwr := RXb.out.later bwr
          have zx := (BXb.out).size
          have zw := HZW.out
          have z1 := HZ1.out
          have zr := bwr.size
          have t0 := HXX.out.tries0
          have t1 := HXX.out.tries1
          obtain ⟨ws0, hws0⟩ : ∃ z, z = wr.setCell ⟨g, j * 15 + 13, none⟩ (.int .i64 (x.tries + 1)) := ⟨_, rfl⟩
          obtain ⟨ws, hws⟩ : ∃ z, z = ws0.setCell ⟨g, j * 15 + 12, none⟩ (.int .i64 now) := ⟨_, rfl⟩
          have p1 := Cwr.put 13 (.int .i64 (x.tries + 1)) (by rw [Nb.cells_len]; omega)
          rw [← hws0] at p1
          have n1 : Near wr ws0 g (j * 15) := by rw [hws0]; exact (Near.refl _ _ _).cell 13 _ (by omega) (Cwr.is 13 (by rw [Nb.cells_len]; omega))
          have p2 := p1.put 12 (.int .i64 now) (by rw [List.length_set, Nb.cells_len]; omega)
          have n2 : Near wr ws g (j * 15) := by rw [hws]; exact n1.cell 12 _ (by omega) (p1.is 12 (by rw [List.length_set, Nb.cells_len]; omega))
          rw [← hws] at p2
          have Cs : CellsAt ws g (j * 15) (Nb.cells { x with tries := x.tries + 1, asked := now } (.slice va pl vc)) := p2
          have gr : g < wr.heap.size := by omega
          have ko : ∀ q, w1.heap.size ≤ q → Cel wr q → ¬ Only g q := fun q hq _ e => by have e : q = g := e; have := HGS2.out; omega
          have kg : ∀ y, ¬ Only g (s + y) := fun y e => by have e : s + y = g := e; have := HGS2.out; omega
          have kp : ∀ q t, ρ q = (k, 2, t) → ¬ Only g q := fun q t e e2 => (R0.out q t e).2 (.inl e2)
          have TXc := hide (Twr.but n2.but ⟨kg 2, kg 3, kg 4⟩ ko (fun q t e _ => kp q t e))
          have CXc := hide Cs
          have RXc := hide (Rwr.but n2.but (fun q e => kp q t e))
          have KXc := hide (keeps_trans KXb.out (keeps_trans (KeepsFrom.of_but nwr (fun _ e => e.elim)) (KeepsFrom.of_but n2.but (fun q e => by have e : q = g := e; rw [e]; exact cells_of_cell (Cwr 0 _ rfl)))))
          have BXc : Hid (But (fun q => q = g ∨ q = s + 2 ∨ q = s + 3 ∨ q = s + 4 ∨ w1.heap.size ≤ q) W2 ws) := (BXb.out.trans (nwr.mono (fun _ e => e.elim))).trans (n2.but.mono (fun _ e => .inl e))
          have OXc : Hid (∀ y, y < j * 15 ∨ j * 15 + 15 ≤ y → ws.cell? ⟨g, y, none⟩ = W2.cell? ⟨g, y, none⟩) := fun y hy => (n2.out y hy).trans ((nwr.cell (p := ⟨g, y, none⟩) gwr id).trans (OXb.out y hy))
          have FXc : Hid (∀ y, ws.frozen? ⟨g, y, none⟩ = false) := fun y => (n2.fz y).trans ((nwr.frozen (p := ⟨g, y, none⟩) gwr id).trans (FXb.out y))
          have c13r : wr.cell? ⟨g, j * 15 + 13, none⟩ = some (.int .i64 x.tries) := Cwr 13 _ rfl
          have c12s : ws0.cell? ⟨g, j * 15 + 12, none⟩ = some (.int .i64 x.asked) := p1 12 _ rfl
          have fr : ∀ y, wr.frozen? ⟨g, y, none⟩ = false := fun y => (nwr.frozen (p := ⟨g, y, none⟩) gwr id).trans (FXb.out y)
          have fs : ∀ y, ws0.frozen? ⟨g, y, none⟩ = false := fun y => (n1.fz y).trans (fr y)
          have cNr : wr.cell? ⟨s + 1, 0, none⟩ = some (.int .i64 now) := (nwr.cell (p := ⟨s + 1, 0, none⟩) (World.block_lt_of_cell? wq _ S7.2) id).trans S7.2
          have S11 := cNr
          have lsN : s + 1 < wr.heap.size := World.block_lt_of_cell? wr _ cNr
          have S11b : ws0.cell? ⟨s + 1, 0, none⟩ = some (.int .i64 now) := (n1.but.cell (p := ⟨s + 1, 0, none⟩) lsN (kg 1)).trans cNr
          have S11c : ws.cell? ⟨s + 1, 0, none⟩ = some (.int .i64 now) := (n2.but.cell (p := ⟨s + 1, 0, none⟩) lsN (kg 1)).trans cNr
          have cSs : ws.cell? ⟨s, 0, none⟩ = some (.pointer (some ⟨b, 0, none⟩)) := (BXc.out.cell (p := ⟨s, 0, none⟩) (World.block_lt_of_cell? W2 _ cS) (fun e => by have e : s = g ∨ s = s + 2 ∨ s = s + 3 ∨ s = s + 4 ∨ w1.heap.size ≤ s := e; have := HGS2.out; omega)).trans cS
          refine region_in (fun X => X.cell? ⟨s + 1, 0, none⟩ = some (.int .i64 now)) (by kernel_rfl) (by kernel_rfl) ?_
          rw [← hwr]
          refine takeD (i := 0) (v := .pointer (some ⟨g, j * 15, none⟩)) 44 rfl rfl (by kernel_rfl) (by kernel_rfl) (by kernel_rfl) (fun _ _ _ h => h) (.inl ⟨by rfl, fun W hW => exec_move _ _ rfl rfl⟩) (S11) ?_
          try simp only [Act.put, List.setIfInBounds_toArray, List.set_cons_zero, List.set_cons_succ]
          refine takeD (i := 1) (v := .pointer (some ⟨g, j * 15, none⟩)) 45 rfl rfl (by kernel_rfl) (by kernel_rfl) (by kernel_rfl) (fun _ _ _ h => h) (.inl ⟨by rfl, fun W hW => exec_move _ _ rfl rfl⟩) (S11) ?_
          try simp only [Act.put, List.setIfInBounds_toArray, List.set_cons_zero, List.set_cons_succ]
          refine takeD (i := 2) (v := .pointer (some ⟨g, j * 15, none⟩)) 46 rfl rfl (by kernel_rfl) (by kernel_rfl) (by kernel_rfl) (fun _ _ _ h => h) (.inl ⟨by rfl, fun W hW => exec_move _ _ rfl rfl⟩) (S11) ?_
          try simp only [Act.put, List.setIfInBounds_toArray, List.set_cons_zero, List.set_cons_succ]
          refine takeD (i := 3) (v := .pointer (some ⟨g, j * 15, none⟩)) 47 rfl rfl (by kernel_rfl) (by kernel_rfl) (by kernel_rfl) (fun _ _ _ h => h) (.inl ⟨by rfl, fun W hW => exec_nil _ _ rfl rfl⟩) (S11) ?_
          try simp only [Act.put, List.setIfInBounds_toArray, List.set_cons_zero, List.set_cons_succ]
          refine takeD (i := 4) (v := .pointer (some ⟨g, j * 15 + 13, none⟩)) 48 rfl rfl (by kernel_rfl) (by kernel_rfl) (by kernel_rfl) (fun _ _ _ h => h) (.inl ⟨by rfl, fun W hW => exec_fieldO 66 _ 5 g (j * 15) (j * 15 + 13) rfl rfl (fun w => by kernel_rfl)⟩) (S11) ?_
          try simp only [Act.put, List.setIfInBounds_toArray, List.set_cons_zero, List.set_cons_succ]
          refine takeD (i := 7) (v := .int .i64 now) 51 rfl rfl (by kernel_rfl) (by kernel_rfl) (by kernel_rfl) (fun _ _ _ h => h) (.inl ⟨by rfl, fun W hW => exec_load1 3 one1 _ rfl (s + 1) 0 rfl (.int .i64 now) (hW)⟩) (S11) ?_
          try simp only [Act.put, List.setIfInBounds_toArray, List.set_cons_zero, List.set_cons_succ]
          refine nextD (w' := wr) 5 49 (.int .i64 x.tries) (by kernel_rfl) rfl rfl (by rfl) (exec_load1 3 one1 _ rfl g (j * 15 + 13) rfl (.int .i64 x.tries) (c13r)) (S11) ?_
          try simp only [Act.put, List.setIfInBounds_toArray, List.set_cons_zero, List.set_cons_succ]
          refine takeD (i := 6) (v := .int .i64 (x.tries + 1)) 50 rfl rfl (by kernel_rfl) (by kernel_rfl) (by kernel_rfl) (fun _ _ _ h => h) (.inl ⟨by rfl, fun W hW => exec_addi _ _ _ _ _ rfl rfl rfl (by omega) (by omega)⟩) (S11) ?_
          try simp only [Act.put, List.setIfInBounds_toArray, List.set_cons_zero, List.set_cons_succ]
          refine takeD (i := 8) (v := .pointer (some ⟨g, j * 15, none⟩)) 52 rfl rfl (by kernel_rfl) (by kernel_rfl) (by kernel_rfl) (fun _ _ _ h => h) (.inl ⟨by rfl, fun W hW => exec_nil _ _ rfl rfl⟩) (S11) ?_
          try simp only [Act.put, List.setIfInBounds_toArray, List.set_cons_zero, List.set_cons_succ]
          refine takeD (i := 9) (v := .pointer (some ⟨g, j * 15 + 13, none⟩)) 53 rfl rfl (by kernel_rfl) (by kernel_rfl) (by kernel_rfl) (fun _ _ _ h => h) (.inl ⟨by rfl, fun W hW => exec_fieldO 66 _ 5 g (j * 15) (j * 15 + 13) rfl rfl (fun w => by kernel_rfl)⟩) (S11) ?_
          try simp only [Act.put, List.setIfInBounds_toArray, List.set_cons_zero, List.set_cons_succ]
          refine storeD (w' := ws0) 10 (by kernel_rfl) rfl rfl (by rfl) (by rw [hws0]; exact exec_store1 3 s1 _ _ rfl g (j * 15 + 13) rfl (.int .i64 x.tries) _ rfl c13r (fr _) rfl) (S11b) ?_
          try simp only [Act.put, List.setIfInBounds_toArray, List.set_cons_zero, List.set_cons_succ]
          refine takeD (i := 11) (v := .pointer (some ⟨g, j * 15, none⟩)) 54 rfl rfl (by kernel_rfl) (by kernel_rfl) (by kernel_rfl) (fun _ _ _ h => h) (.inl ⟨by rfl, fun W hW => exec_nil _ _ rfl rfl⟩) (S11b) ?_
          try simp only [Act.put, List.setIfInBounds_toArray, List.set_cons_zero, List.set_cons_succ]
          refine takeD (i := 12) (v := .pointer (some ⟨g, j * 15 + 12, none⟩)) 55 rfl rfl (by kernel_rfl) (by kernel_rfl) (by kernel_rfl) (fun _ _ _ h => h) (.inl ⟨by rfl, fun W hW => exec_fieldO 66 _ 4 g (j * 15) (j * 15 + 12) rfl rfl (fun w => by kernel_rfl)⟩) (S11b) ?_
          try simp only [Act.put, List.setIfInBounds_toArray, List.set_cons_zero, List.set_cons_succ]
          refine storeD (w' := ws) 13 (by kernel_rfl) rfl rfl (by rfl) (by rw [hws]; exact exec_store1 3 s1 _ _ rfl g (j * 15 + 12) rfl (.int .i64 x.asked) _ rfl c12s (fs _) rfl) (S11c) ?_
          try simp only [Act.put, List.setIfInBounds_toArray, List.set_cons_zero, List.set_cons_succ]
          refine doneR (by kernel_rfl) _ ?_
          clear Twr Cwr Rwr gwr nwr bwr zx zw z1 zr t0 t1 hws0 hws p1 n1 p2 n2 Cs gr ko kg kp c13r c12s fr fs cNr S11 S11b S11c lsN hwr S7
          gi_wp2
          obtain ⟨wt, hwt⟩ : ∃ z, z = ws.drew := ⟨_, rfl⟩
          have bwt : Below ws.heap.size ws wt := by rw [hwt]; exact (Below.refl _ ws).drew
          have nwt : But (fun _ => False) ws wt := But.of_below bwt
          have gwt : g < ws.heap.size := by have := HGS2.out; have := HZW.out; have := HZ1.out; have := (BXc.out).size; omega
          have Twt := TXc.out.later bwt
          have Cwt := CXc.out.later gwt bwt
          have Rwt := RXc.out.later bwt
          have zx := (BXc.out).size
          have zw := HZW.out
          have z1 := HZ1.out
          have zt := bwt.size
          obtain ⟨r, hr⟩ : ∃ r : Ar, r = ⟨false, m, i, zM, x.ip⟩ := ⟨_, rfl⟩
          have ho : CellsAt wt b 0 (m.vals ++ i.vals) := HOST.out wt (BXc.out.trans (nwt.mono (fun _ e => e.elim)))
          have RQ := hide (request_any b m i x.ip ho)
          rw [← hr] at RQ
          have ipt : CellsAt wt g (j * 15) x.ip.vals := (CellsAt.append.1 Cwt).1
          have lts : s < ws.heap.size := World.block_lt_of_cell? ws _ cSs
          have S12 : ∀ X, Below wt.heap.size wt X → X.cell? ⟨s + 2, 0, none⟩ = some av ∧ X.cell? ⟨s, 0, none⟩ = some (.pointer (some ⟨b, 0, none⟩)) ∧ CellsAt X g (j * 15) x.ip.vals := fun X hb => ⟨(hb.cell (p := ⟨s + 2, 0, none⟩) Twt.lt.1).trans Twt.c2, (hb.cell (p := ⟨s, 0, none⟩) (by show s < _; omega)).trans ((nwt.cell (p := ⟨s, 0, none⟩) lts id).trans cSs), ipt.later (by omega) hb⟩
          refine regionJ_in (fun q => q != 9) (fun X => X.cell? ⟨s + 2, 0, none⟩ = some av ∧ X.cell? ⟨s, 0, none⟩ = some (.pointer (some ⟨b, 0, none⟩)) ∧ CellsAt X g (j * 15) x.ip.vals) (by kernel_rfl) (by kernel_rfl) ?_
          rw [← hwt]
          refine takeJ (i := 0) (v := av) 56 rfl rfl (by kernel_rfl) (by kernel_rfl) (by kernel_rfl) (by kernel_rfl) (fun _ _ _ h => h) (.inl ⟨by rfl, fun W hW => exec_load1 53 oneA _ rfl (s + 2) 0 rfl (av) (hW.1)⟩) (S12 _ (Below.refl _ wt)) ?_
          try simp only [Act.put, List.setIfInBounds_toArray, List.set_cons_zero, List.set_cons_succ]
          refine takeJ (i := 1) (v := .pointer (some ⟨b, 0, none⟩)) 57 rfl rfl (by kernel_rfl) (by kernel_rfl) (by kernel_rfl) (by kernel_rfl) (fun _ _ _ h => h) (.inl ⟨by rfl, fun W hW => exec_load1 37 oneC _ rfl s 0 rfl (.pointer (some ⟨b, 0, none⟩)) (hW.2.1)⟩) (S12 _ (Below.refl _ wt)) ?_
          try simp only [Act.put, List.setIfInBounds_toArray, List.set_cons_zero, List.set_cons_succ]
          refine takeJ (i := 2) (v := .pointer (some ⟨g, j * 15, none⟩)) 58 rfl rfl (by kernel_rfl) (by kernel_rfl) (by kernel_rfl) (by kernel_rfl) (fun _ _ _ h => h) (.inl ⟨by rfl, fun W hW => exec_move _ _ rfl rfl⟩) (S12 _ (Below.refl _ wt)) ?_
          try simp only [Act.put, List.setIfInBounds_toArray, List.set_cons_zero, List.set_cons_succ]
          refine takeJ (i := 3) (v := .pointer (some ⟨g, j * 15, none⟩)) 59 rfl rfl (by kernel_rfl) (by kernel_rfl) (by kernel_rfl) (by kernel_rfl) (fun _ _ _ h => h) (.inl ⟨by rfl, fun W hW => exec_nil _ _ rfl rfl⟩) (S12 _ (Below.refl _ wt)) ?_
          try simp only [Act.put, List.setIfInBounds_toArray, List.set_cons_zero, List.set_cons_succ]
          refine takeJ (i := 4) (v := .pointer (some ⟨g, j * 15, none⟩)) 60 rfl rfl (by kernel_rfl) (by kernel_rfl) (by kernel_rfl) (by kernel_rfl) (fun _ _ _ h => h) (.inl ⟨by rfl, fun W hW => exec_fieldO 66 _ 0 g (j * 15) (j * 15) rfl rfl (fun w => by kernel_rfl)⟩) (S12 _ (Below.refl _ wt)) ?_
          try simp only [Act.put, List.setIfInBounds_toArray, List.set_cons_zero, List.set_cons_succ]
          refine takeJ (i := 5) (v := .agg (x.ip.vals).toArray) 61 rfl rfl (by kernel_rfl) (by kernel_rfl) (by kernel_rfl) (by kernel_rfl) (fun _ _ _ h => h) (.inl ⟨by rfl, fun W hW => exec_loadA 25 4 aggI sizI _ rfl g (j * 15) rfl (x.ip.vals) rfl (hW.2.2)⟩) (S12 _ (Below.refl _ wt)) ?_
          try simp only [Act.put, List.setIfInBounds_toArray, List.set_cons_zero, List.set_cons_succ]
          refine callJ 6 62 (by kernel_rfl) rfl rfl (by rfl) 33 #[.pointer (some ⟨b, 0, none⟩), x.ip.val] (by kernel_rfl) (fun v w9 => v = .agg r.vals.toArray ∧ Below wt.heap.size wt w9) (RQ.out.mono (fun e w' h => ⟨_, h.1, rfl, h.2⟩)) ?_
          rintro v wu ⟨rfl, bu⟩
          refine ⟨S12 _ bu, ?_⟩
          simp only [Act.put, List.setIfInBounds_toArray, List.set_cons_zero, List.set_cons_succ]
          have zu := bu.size
          obtain ⟨p, hp⟩ : ∃ p, p = wu.heap.size := ⟨_, rfl⟩
          obtain ⟨wv, hwv⟩ : ∃ z, z = wu.alloc (.cells r.vals.toArray 27) := ⟨_, rfl⟩
          have bv : Below wt.heap.size wt wv := by rw [hwv]; exact bu.alloc zu _
          have cp : CellsAt wv p 0 r.vals := by rw [hwv, hp]; exact CellsAt.new wu _ 27
          have Tv := Twt.later bv
          have zv := bv.size
          obtain ⟨a', c', ww, hrun, hb3, l3, f3, σ2, hT2⟩ := Tv.ask S5.out (by omega) (RO4.out 2 (.inl rfl)) HLA.out x.ip p (by rw [← hr]; exact cp)
          obtain ⟨wx, hwx⟩ : ∃ z, z = ww.setCell ⟨s + 2, 0, none⟩ (.slice a' (A0.length + 1) c') := ⟨_, rfl⟩
          rw [← hwx] at hT2
          have nb3 : But (fun q => w1.heap.size ≤ q ∧ Cel wv q) wv ww := hb3.mono (fun q e => ⟨(Tv.new q (by rw [e.1]; omega)).1, e.2⟩)
          have n4 : But (Only (s + 2)) ww wx := by rw [hwx]; exact (But.refl (Only (s + 2)) ww).setCell (p := ⟨s + 2, 0, none⟩) (.inr rfl) _
          have ng3 : ¬ (w1.heap.size ≤ g ∧ Cel wv g) := fun e => by have := HGS2.out; omega
          have ng4 : ¬ Only (s + 2) g := fun e => by have e : g = s + 2 := e; have := HGS2.out; omega
          have gv2 : g < wv.heap.size := by omega
          have g3 : g < ww.heap.size := by have := hb3.size; omega
          have ns3 : ¬ (w1.heap.size ≤ s ∧ Cel wv s) := fun e => by omega
          have S13 : ww.cell? ⟨s + 2, 0, none⟩ = some av ∧ ww.cell? ⟨s, 0, none⟩ = some (.pointer (some ⟨b, 0, none⟩)) ∧ CellsAt ww g (j * 15) x.ip.vals := ⟨l3, (nb3.cell (p := ⟨s, 0, none⟩) (by show s < _; omega) ns3).trans (S12 _ bv).2.1, (S12 _ bv).2.2.but gv2 nb3 ng3⟩
          have nv : But (fun _ => False) wt wv := But.of_below bv
          have TXd := hide hT2
          have CXd := hide (((Cwt.later (by omega) bv).but gv2 nb3 ng3).but g3 n4 ng4)
          have RXd := hide (((Rwt.later bv).but nb3 (fun q e e2 => by have := (R0.out q t e).1; have := e2.1; omega)).but n4 (fun q e e2 => by have := (R0.out q t e).1; have e2 : q = s + 2 := e2; omega))
          have KXd := hide (keeps_trans KXc.out (keeps_trans (KeepsFrom.of_but nwt (fun _ e => e.elim)) (keeps_trans (KeepsFrom.of_but nv (fun _ e => e.elim)) (keeps_trans (KeepsFrom.of_but nb3 (fun q e => e.2)) (KeepsFrom.of_but n4 (fun q e => by have e : q = s + 2 := e; rw [e]; exact cells_of_cell l3))))))
          have BXd : Hid (But (fun q => q = g ∨ q = s + 2 ∨ q = s + 3 ∨ q = s + 4 ∨ w1.heap.size ≤ q) W2 wx) := (((BXc.out.trans (nwt.mono (fun _ e => e.elim))).trans' nv (fun _ _ e => e.elim)).trans' nb3 (fun q _ e => by have := e.1; omega)).trans' n4 (fun q _ e => by have e : q = s + 2 := e; omega)
          have OXd : Hid (∀ y, y < j * 15 ∨ j * 15 + 15 ≤ y → wx.cell? ⟨g, y, none⟩ = W2.cell? ⟨g, y, none⟩) := fun y hy => (n4.cell (p := ⟨g, y, none⟩) g3 ng4).trans ((nb3.cell (p := ⟨g, y, none⟩) gv2 ng3).trans ((nv.cell (p := ⟨g, y, none⟩) (by show g < _; omega) id).trans ((nwt.cell (p := ⟨g, y, none⟩) gwt id).trans (OXc.out y hy))))
          have FXd : Hid (∀ y, wx.frozen? ⟨g, y, none⟩ = false) := fun y => (n4.frozen (p := ⟨g, y, none⟩) g3 ng4).trans ((nb3.frozen (p := ⟨g, y, none⟩) gv2 ng3).trans ((nv.frozen (p := ⟨g, y, none⟩) (by show g < _; omega) id).trans ((nwt.frozen (p := ⟨g, y, none⟩) gwt id).trans (FXc.out y))))
          refine nextJ (w' := wv) 7 63 (.slice (some ⟨p, 0, none⟩) 1 1) (by kernel_rfl) rfl rfl (by rfl) (by rw [hwv, hp]; exact exec_bsA _ r rfl rfl) (S12 _ bv) ?_
          try simp only [Act.put, List.setIfInBounds_toArray, List.set_cons_zero, List.set_cons_succ]
          refine nextJ (w' := ww) 8 64 (.slice a' (A0.length + 1) c') (by kernel_rfl) rfl rfl (by rfl) (exec_app _ _ 53 53 rfl av (.slice (some ⟨p, 0, none⟩) 1 1) rfl rfl 53 rfl hrun) (S13) ?_
          try simp only [Act.put, List.setIfInBounds_toArray, List.set_cons_zero, List.set_cons_succ]
          refine storeJ (w' := wx) 9 (by kernel_rfl) rfl rfl (by rfl) (by rw [hwx]; exact exec_store1 53 s1A _ _ rfl (s + 2) 0 rfl av _ rfl l3 f3 rfl) ((fun e => by simp at e)) ?_
          try simp only [Act.put, List.setIfInBounds_toArray, List.set_cons_zero, List.set_cons_succ]
          refine doneJW (by kernel_rfl) _ ?_
          clear hrun hb3 l3 f3 hT2 nb3 n4 ng3 ng4 gv2 g3 ns3 S13 nv hwx hwv hp cp Tv bv bu zu zv S12 RQ ho ipt lts cSs Rwt Cwt Twt gwt nwt bwt zt zx zw z1 hwt hr
          gi_wp2
          obtain ⟨wd, hwd⟩ : ∃ z, z = wx.drew := ⟨_, rfl⟩
          have bwd : Below wx.heap.size wx wd := by rw [hwd]; exact (Below.refl _ wx).drew
          have nwd : But (fun _ => False) wx wd := But.of_below bwd
          have gwd : g < wx.heap.size := by have := HGS2.out; have := HZW.out; have := HZ1.out; have := (BXd.out).size; omega
          have Twd := TXd.out.later bwd
          have Cwd := CXd.out.later gwd bwd
          have Rwd := RXd.out.later bwd
          have zx := (BXd.out).size
          have zw := HZW.out
          have z1 := HZ1.out
          obtain ⟨p, hp⟩ : ∃ p, p = wd.heap.size := ⟨_, rfl⟩
          obtain ⟨wb, hwb⟩ : ∃ z, z = wd.alloc (.cells (Nb.cells { x with tries := x.tries + 1, asked := now } (.slice va pl vc)).toArray 66) := ⟨_, rfl⟩
          have bb : Below wd.heap.size wd wb := by rw [hwb]; exact (Below.refl _ wd).alloc (Nat.le_refl _) _
          have Tb := Twd.later bb
          have Cb := Cwd.later (by have := bwd.size; omega) bb
          have Rb := Rwd.later bb
          have cp : CellsAt wb p 0 (Nb.cells { x with tries := x.tries + 1, asked := now } (.slice va pl vc)) := by rw [hwb, hp]; exact CellsAt.new wd _ 66
          have zd := bwd.size
          have zb := bb.size
          obtain ⟨a', c', w3, hrun, hb3, l3, f3, σ', V', hT'⟩ := Tb.left S5.out (by omega) (RO4.out 4 (.inr (.inr rfl))) HLT.out t { x with tries := x.tries + 1, asked := now } (.slice va pl vc) Rb HNIL.out p cp
          obtain ⟨w4, hw4⟩ : ∃ z, z = w3.setCell ⟨s + 4, 0, none⟩ (.slice a' (T0.length + 1) c') := ⟨_, rfl⟩
          rw [← hw4] at hT'
          have nb3 : But (fun q => w1.heap.size ≤ q ∧ Cel wb q) wb w3 := hb3.mono (fun q e => ⟨(Tb.new q (by rw [e.1]; omega)).1, e.2⟩)
          have n4 : But (Only (s + 4)) w3 w4 := by rw [hw4]; exact (But.refl (Only (s + 4)) w3).setCell (p := ⟨s + 4, 0, none⟩) (.inr rfl) _
          have ng3 : ¬ (w1.heap.size ≤ g ∧ Cel wb g) := fun e => by have := HGS2.out; omega
          have ng4 : ¬ Only (s + 4) g := fun e => by have e : g = s + 4 := e; have := HGS2.out; omega
          have gb : g < wb.heap.size := by omega
          have g3 : g < w3.heap.size := by have := hb3.size; omega
          have C3 := Cb.but gb nb3 ng3
          have BF : But (fun q => q = g ∨ q = s + 2 ∨ q = s + 3 ∨ q = s + 4 ∨ w1.heap.size ≤ q) W2 w4 := (((BXd.out.trans (nwd.mono (fun _ e => e.elim))).trans' (But.of_below (K := fun _ => False) bb) (fun _ _ e => e.elim)).trans' nb3 (fun q _ e => by have := e.1; omega)).trans' n4 (fun q _ e => by have e : q = s + 4 := e; omega)
          have OF : ∀ y, y < j * 15 ∨ j * 15 + 15 ≤ y → w4.cell? ⟨g, y, none⟩ = W2.cell? ⟨g, y, none⟩ := fun y hy => (n4.cell (p := ⟨g, y, none⟩) g3 ng4).trans ((nb3.cell (p := ⟨g, y, none⟩) gb ng3).trans ((bb.cell (p := ⟨g, y, none⟩) (by show g < _; omega)).trans ((nwd.cell (p := ⟨g, y, none⟩) gwd id).trans (OXd.out y hy))))
          have FF : ∀ y, w4.frozen? ⟨g, y, none⟩ = false := fun y => (n4.frozen (p := ⟨g, y, none⟩) g3 ng4).trans ((nb3.frozen (p := ⟨g, y, none⟩) gb ng3).trans ((bb.frozen (p := ⟨g, y, none⟩) (by show g < _; omega)).trans ((nwd.frozen (p := ⟨g, y, none⟩) gwd id).trans (FXd.out y))))
          have KF : KeepsFrom w1.heap.size W2 w4 := keeps_trans KXd.out (keeps_trans (KeepsFrom.of_but nwd (fun _ e => e.elim)) (keeps_trans (KeepsFrom.of_but (But.of_below (K := fun _ => False) bb) (fun _ e => e.elim)) (keeps_trans (KeepsFrom.of_but nb3 (fun q e => e.2)) (KeepsFrom.of_but n4 (fun q e => by have e : q = s + 4 := e; rw [e]; exact cells_of_cell l3)))))
          have FIN := hide (And.intro KF (NXT.out w4 _ _ _ _ _ _ _ _ BF OF FF hT' (by rw [EQ.2.1]; rfl) (by rw [EQ.2.2]; simp) (by rw [EQ.1]; rfl)))
          refine regionJ_in (fun q => q != 6) (fun X => X.cell? ⟨s + 4, 0, none⟩ = some lv ∧ CellsAt X g (j * 15) (Nb.cells { x with tries := x.tries + 1, asked := now } (.slice va pl vc))) (by kernel_rfl) (by kernel_rfl) ?_
          rw [← hwd]
          refine takeJ (i := 0) (v := lv) 65 rfl rfl (by kernel_rfl) (by kernel_rfl) (by kernel_rfl) (by kernel_rfl) (fun _ _ _ h => h) (.inl ⟨by rfl, fun W hW => exec_load1 41 oneL _ rfl (s + 4) 0 rfl (lv) (hW.1)⟩) (⟨Twd.c4, Cwd⟩) ?_
          try simp only [Act.put, List.setIfInBounds_toArray, List.set_cons_zero, List.set_cons_succ]
          refine takeJ (i := 1) (v := .pointer (some ⟨g, j * 15, none⟩)) 66 rfl rfl (by kernel_rfl) (by kernel_rfl) (by kernel_rfl) (by kernel_rfl) (fun _ _ _ h => h) (.inl ⟨by rfl, fun W hW => exec_move _ _ rfl rfl⟩) (⟨Twd.c4, Cwd⟩) ?_
          try simp only [Act.put, List.setIfInBounds_toArray, List.set_cons_zero, List.set_cons_succ]
          refine takeJ (i := 2) (v := .pointer (some ⟨g, j * 15, none⟩)) 67 rfl rfl (by kernel_rfl) (by kernel_rfl) (by kernel_rfl) (by kernel_rfl) (fun _ _ _ h => h) (.inl ⟨by rfl, fun W hW => exec_nil _ _ rfl rfl⟩) (⟨Twd.c4, Cwd⟩) ?_
          try simp only [Act.put, List.setIfInBounds_toArray, List.set_cons_zero, List.set_cons_succ]
          refine takeJ (i := 3) (v := .agg (Nb.cells { x with tries := x.tries + 1, asked := now } (.slice va pl vc)).toArray) 68 rfl rfl (by kernel_rfl) (by kernel_rfl) (by kernel_rfl) (by kernel_rfl) (fun _ _ _ h => h) (.inl ⟨by rfl, fun W hW => exec_loadA 66 15 aggN sizN _ rfl g (j * 15) rfl (Nb.cells { x with tries := x.tries + 1, asked := now } (.slice va pl vc)) rfl (hW.2)⟩) (⟨Twd.c4, Cwd⟩) ?_
          try simp only [Act.put, List.setIfInBounds_toArray, List.set_cons_zero, List.set_cons_succ]
          refine nextJ (w' := wb) 4 69 (.slice (some ⟨p, 0, none⟩) 1 1) (by kernel_rfl) rfl rfl (by rfl) (by rw [hwb, hp]; exact exec_bsN _ _ _ _ _ rfl rfl) (⟨Tb.c4, Cb⟩) ?_
          try simp only [Act.put, List.setIfInBounds_toArray, List.set_cons_zero, List.set_cons_succ]
          refine nextJ (w' := w3) 5 70 (.slice a' (T0.length + 1) c') (by kernel_rfl) rfl rfl (by rfl) (exec_app _ _ 41 41 rfl lv (.slice (some ⟨p, 0, none⟩) 1 1) rfl rfl 41 rfl hrun) (⟨l3, C3⟩) ?_
          try simp only [Act.put, List.setIfInBounds_toArray, List.set_cons_zero, List.set_cons_succ]
          refine storeJ (w' := w4) 6 (by kernel_rfl) rfl rfl (by rfl) (by rw [hw4]; exact exec_store1 41 s1L _ _ rfl (s + 4) 0 rfl lv _ rfl l3 f3 rfl) ((fun e => by simp at e)) ?_
          try simp only [Act.put, List.setIfInBounds_toArray, List.set_cons_zero, List.set_cons_succ]
          refine doneJW (by kernel_rfl) _ ?_
          clear hrun hb3 l3 f3 hT' nb3 n4 ng3 ng4 gb g3 C3 BF OF FF KF hw4 hwb hwd hp cp Rb Cb Tb bb Rwd Cwd Twd gwd nwd bwd zd zb zx zw z1
          gi_wp2
          exact FIN.out
      · have EP : psB x.asked now 2 = false := by unfold psB; simp only [decide_eq_false_iff_not]; omega
        have EQ := FQ.out (by unfold tkQ; simp [hps])
        clear hst hps
        gi_wp2
        have TXa := HT
        have CXa := HCX
        have RXa := HROW
        have KXa := hide (KeepsFrom.refl w1.heap.size W2)
        have BXa : Hid (But (fun q => q = g ∨ q = s + 2 ∨ q = s + 3 ∨ q = s + 4 ∨ w1.heap.size ≤ q) W2 W2) := But.refl _ _
        have OXa : Hid (∀ y, y < j * 15 ∨ j * 15 + 15 ≤ y → W2.cell? ⟨g, y, none⟩ = W2.cell? ⟨g, y, none⟩) := fun _ _ => rfl
        have FXa := HFZ
        obtain ⟨wq, hwq⟩ : ∃ z, z = W2.drew := ⟨_, rfl⟩
        have bwq : Below W2.heap.size W2 wq := by rw [hwq]; exact (Below.refl _ W2).drew
        have nwq : But (fun _ => False) W2 wq := But.of_below bwq
        have gwq : g < W2.heap.size := by have := HGS2.out; have := HZW.out; have := HZ1.out; have := (BXa.out).size; omega
        have Twq := TXa.out.later bwq
        have Cwq := CXa.out.later gwq bwq
        have Rwq := RXa.out.later bwq
        have S7 : wq.cell? ⟨g, j * 15 + 12, none⟩ = some (.int .i64 x.asked) ∧ wq.cell? ⟨s + 1, 0, none⟩ = some (.int .i64 now) := ⟨(nwq.cell (p := ⟨g, j * 15 + 12, none⟩) gwq id).trans c12, (nwq.cell (p := ⟨s + 1, 0, none⟩) (World.block_lt_of_cell? W2 _ cNw) id).trans cNw⟩
        have TXb := hide Twq
        have CXb := hide Cwq
        have RXb := hide Rwq
        have KXb := hide (keeps_trans KXa.out (KeepsFrom.of_but nwq (fun _ e => e.elim)))
        have BXb := hide (BXa.out.trans (nwq.mono (fun _ e => e.elim)))
        have OXb : Hid (∀ y, y < j * 15 ∨ j * 15 + 15 ≤ y → wq.cell? ⟨g, y, none⟩ = W2.cell? ⟨g, y, none⟩) := fun y hy => (nwq.cell (p := ⟨g, y, none⟩) gwq id).trans (OXa.out y hy)
        have FXb : Hid (∀ y, wq.frozen? ⟨g, y, none⟩ = false) := fun y => (nwq.frozen (p := ⟨g, y, none⟩) gwq id).trans (FXa.out y)
        have HPS := hide (havePassed_any x.asked now 2 wq (by have := HXX.out.asked0; have := HXX.out.asked1; omega) (by have := HXX.out.asked0; have := HXX.out.asked1; omega) (by omega))
        rw [EP] at HPS
        refine region_in (fun X => X.cell? ⟨g, j * 15 + 12, none⟩ = some (.int .i64 x.asked) ∧ X.cell? ⟨s + 1, 0, none⟩ = some (.int .i64 now)) (by kernel_rfl) (by kernel_rfl) ?_
        rw [← hwq]
        refine takeD (i := 0) (v := .pointer (some ⟨g, j * 15, none⟩)) 19 rfl rfl (by kernel_rfl) (by kernel_rfl) (by kernel_rfl) (fun _ _ _ h => h) (.inl ⟨by rfl, fun W hW => exec_move _ _ rfl rfl⟩) (S7) ?_
        try simp only [Act.put, List.setIfInBounds_toArray, List.set_cons_zero, List.set_cons_succ]
        refine takeD (i := 1) (v := .pointer (some ⟨g, j * 15, none⟩)) 20 rfl rfl (by kernel_rfl) (by kernel_rfl) (by kernel_rfl) (fun _ _ _ h => h) (.inl ⟨by rfl, fun W hW => exec_nil _ _ rfl rfl⟩) (S7) ?_
        try simp only [Act.put, List.setIfInBounds_toArray, List.set_cons_zero, List.set_cons_succ]
        refine takeD (i := 2) (v := .pointer (some ⟨g, j * 15 + 12, none⟩)) 21 rfl rfl (by kernel_rfl) (by kernel_rfl) (by kernel_rfl) (fun _ _ _ h => h) (.inl ⟨by rfl, fun W hW => exec_fieldO 66 _ 4 g (j * 15) (j * 15 + 12) rfl rfl (fun w => by kernel_rfl)⟩) (S7) ?_
        try simp only [Act.put, List.setIfInBounds_toArray, List.set_cons_zero, List.set_cons_succ]
        refine takeD (i := 3) (v := .int .i64 x.asked) 22 rfl rfl (by kernel_rfl) (by kernel_rfl) (by kernel_rfl) (fun _ _ _ h => h) (.inl ⟨by rfl, fun W hW => exec_load1 3 one1 _ rfl g (j * 15 + 12) rfl (.int .i64 x.asked) (hW.1)⟩) (S7) ?_
        try simp only [Act.put, List.setIfInBounds_toArray, List.set_cons_zero, List.set_cons_succ]
        refine takeD (i := 4) (v := .int .i64 now) 23 rfl rfl (by kernel_rfl) (by kernel_rfl) (by kernel_rfl) (fun _ _ _ h => h) (.inl ⟨by rfl, fun W hW => exec_load1 3 one1 _ rfl (s + 1) 0 rfl (.int .i64 now) (hW.2)⟩) (S7) ?_
        try simp only [Act.put, List.setIfInBounds_toArray, List.set_cons_zero, List.set_cons_succ]
        refine callD 5 24 (by kernel_rfl) rfl rfl (by rfl) 35 #[.int .i64 x.asked, .int .i64 now, .int .i64 2] (by kernel_rfl) (fun v w9 => v = .bool false ∧ wq = w9) (HPS.out.mono (fun e w' h => ⟨_, h.1, rfl, h.2.symm⟩)) ?_
        rintro v w9 ⟨rfl, rfl⟩
        refine ⟨S7, ?_⟩
        simp only [Act.put, List.setIfInBounds_toArray, List.set_cons_zero, List.set_cons_succ]
        refine takeD (i := 6) (v := .bool true) 25 rfl rfl (by kernel_rfl) (by kernel_rfl) (by kernel_rfl) (fun _ _ _ h => h) (.inl ⟨by rfl, fun W hW => exec_not _ _ false rfl rfl⟩) (S7) ?_
        try simp only [Act.put, List.setIfInBounds_toArray, List.set_cons_zero, List.set_cons_succ]
        refine takeD (i := 7) (v := .bool true) 13 rfl rfl (by kernel_rfl) (by kernel_rfl) (by kernel_rfl) (fun _ _ _ h => h) (.inl ⟨by rfl, fun W hW => exec_assign _ _ rfl rfl⟩) (S7) ?_
        try simp only [Act.put, List.setIfInBounds_toArray, List.set_cons_zero, List.set_cons_succ]
        refine doneR (by kernel_rfl) _ ?_
        clear hwq
        clear Twq Cwq Rwq gwq nwq bwq S7 HPS EP
        gi_wp2
        obtain ⟨wd, hwd⟩ : ∃ z, z = wq.drew := ⟨_, rfl⟩
        have bwd : Below wq.heap.size wq wd := by rw [hwd]; exact (Below.refl _ wq).drew
        have nwd : But (fun _ => False) wq wd := But.of_below bwd
        have gwd : g < wq.heap.size := by have := HGS2.out; have := HZW.out; have := HZ1.out; have := (BXb.out).size; omega
        have Twd := TXb.out.later bwd
        have Cwd := CXb.out.later gwd bwd
        have Rwd := RXb.out.later bwd
        have zx := (BXb.out).size
        have zw := HZW.out
        have z1 := HZ1.out
        obtain ⟨p, hp⟩ : ∃ p, p = wd.heap.size := ⟨_, rfl⟩
        obtain ⟨wb, hwb⟩ : ∃ z, z = wd.alloc (.cells (Nb.cells x (.slice va pl vc)).toArray 66) := ⟨_, rfl⟩
        have bb : Below wd.heap.size wd wb := by rw [hwb]; exact (Below.refl _ wd).alloc (Nat.le_refl _) _
        have Tb := Twd.later bb
        have Cb := Cwd.later (by have := bwd.size; omega) bb
        have Rb := Rwd.later bb
        have cp : CellsAt wb p 0 (Nb.cells x (.slice va pl vc)) := by rw [hwb, hp]; exact CellsAt.new wd _ 66
        have zd := bwd.size
        have zb := bb.size
        obtain ⟨a', c', w3, hrun, hb3, l3, f3, σ', V', hT'⟩ := Tb.left S5.out (by omega) (RO4.out 4 (.inr (.inr rfl))) HLT.out t x (.slice va pl vc) Rb HNIL.out p cp
        obtain ⟨w4, hw4⟩ : ∃ z, z = w3.setCell ⟨s + 4, 0, none⟩ (.slice a' (T0.length + 1) c') := ⟨_, rfl⟩
        rw [← hw4] at hT'
        have nb3 : But (fun q => w1.heap.size ≤ q ∧ Cel wb q) wb w3 := hb3.mono (fun q e => ⟨(Tb.new q (by rw [e.1]; omega)).1, e.2⟩)
        have n4 : But (Only (s + 4)) w3 w4 := by rw [hw4]; exact (But.refl (Only (s + 4)) w3).setCell (p := ⟨s + 4, 0, none⟩) (.inr rfl) _
        have ng3 : ¬ (w1.heap.size ≤ g ∧ Cel wb g) := fun e => by have := HGS2.out; omega
        have ng4 : ¬ Only (s + 4) g := fun e => by have e : g = s + 4 := e; have := HGS2.out; omega
        have gb : g < wb.heap.size := by omega
        have g3 : g < w3.heap.size := by have := hb3.size; omega
        have C3 := Cb.but gb nb3 ng3
        have BF : But (fun q => q = g ∨ q = s + 2 ∨ q = s + 3 ∨ q = s + 4 ∨ w1.heap.size ≤ q) W2 w4 := (((BXb.out.trans (nwd.mono (fun _ e => e.elim))).trans' (But.of_below (K := fun _ => False) bb) (fun _ _ e => e.elim)).trans' nb3 (fun q _ e => by have := e.1; omega)).trans' n4 (fun q _ e => by have e : q = s + 4 := e; omega)
        have OF : ∀ y, y < j * 15 ∨ j * 15 + 15 ≤ y → w4.cell? ⟨g, y, none⟩ = W2.cell? ⟨g, y, none⟩ := fun y hy => (n4.cell (p := ⟨g, y, none⟩) g3 ng4).trans ((nb3.cell (p := ⟨g, y, none⟩) gb ng3).trans ((bb.cell (p := ⟨g, y, none⟩) (by show g < _; omega)).trans ((nwd.cell (p := ⟨g, y, none⟩) gwd id).trans (OXb.out y hy))))
        have FF : ∀ y, w4.frozen? ⟨g, y, none⟩ = false := fun y => (n4.frozen (p := ⟨g, y, none⟩) g3 ng4).trans ((nb3.frozen (p := ⟨g, y, none⟩) gb ng3).trans ((bb.frozen (p := ⟨g, y, none⟩) (by show g < _; omega)).trans ((nwd.frozen (p := ⟨g, y, none⟩) gwd id).trans (FXb.out y))))
        have KF : KeepsFrom w1.heap.size W2 w4 := keeps_trans KXb.out (keeps_trans (KeepsFrom.of_but nwd (fun _ e => e.elim)) (keeps_trans (KeepsFrom.of_but (But.of_below (K := fun _ => False) bb) (fun _ e => e.elim)) (keeps_trans (KeepsFrom.of_but nb3 (fun q e => e.2)) (KeepsFrom.of_but n4 (fun q e => by have e : q = s + 4 := e; rw [e]; exact cells_of_cell l3)))))
        have FIN := hide (And.intro KF (NXT.out w4 _ _ _ _ _ _ _ _ BF OF FF hT' (by rw [EQ.2.1]; simp) (by rw [EQ.2.2]; simp) (by rw [EQ.1]; rfl)))
        refine regionJ_in (fun q => q != 6) (fun X => X.cell? ⟨s + 4, 0, none⟩ = some lv ∧ CellsAt X g (j * 15) (Nb.cells x (.slice va pl vc))) (by kernel_rfl) (by kernel_rfl) ?_
        rw [← hwd]
        refine takeJ (i := 0) (v := lv) 26 rfl rfl (by kernel_rfl) (by kernel_rfl) (by kernel_rfl) (by kernel_rfl) (fun _ _ _ h => h) (.inl ⟨by rfl, fun W hW => exec_load1 41 oneL _ rfl (s + 4) 0 rfl (lv) (hW.1)⟩) (⟨Twd.c4, Cwd⟩) ?_
        try simp only [Act.put, List.setIfInBounds_toArray, List.set_cons_zero, List.set_cons_succ]
        refine takeJ (i := 1) (v := .pointer (some ⟨g, j * 15, none⟩)) 27 rfl rfl (by kernel_rfl) (by kernel_rfl) (by kernel_rfl) (by kernel_rfl) (fun _ _ _ h => h) (.inl ⟨by rfl, fun W hW => exec_move _ _ rfl rfl⟩) (⟨Twd.c4, Cwd⟩) ?_
        try simp only [Act.put, List.setIfInBounds_toArray, List.set_cons_zero, List.set_cons_succ]
        refine takeJ (i := 2) (v := .pointer (some ⟨g, j * 15, none⟩)) 28 rfl rfl (by kernel_rfl) (by kernel_rfl) (by kernel_rfl) (by kernel_rfl) (fun _ _ _ h => h) (.inl ⟨by rfl, fun W hW => exec_nil _ _ rfl rfl⟩) (⟨Twd.c4, Cwd⟩) ?_
        try simp only [Act.put, List.setIfInBounds_toArray, List.set_cons_zero, List.set_cons_succ]
        refine takeJ (i := 3) (v := .agg (Nb.cells x (.slice va pl vc)).toArray) 29 rfl rfl (by kernel_rfl) (by kernel_rfl) (by kernel_rfl) (by kernel_rfl) (fun _ _ _ h => h) (.inl ⟨by rfl, fun W hW => exec_loadA 66 15 aggN sizN _ rfl g (j * 15) rfl (Nb.cells x (.slice va pl vc)) rfl (hW.2)⟩) (⟨Twd.c4, Cwd⟩) ?_
        try simp only [Act.put, List.setIfInBounds_toArray, List.set_cons_zero, List.set_cons_succ]
        refine nextJ (w' := wb) 4 30 (.slice (some ⟨p, 0, none⟩) 1 1) (by kernel_rfl) rfl rfl (by rfl) (by rw [hwb, hp]; exact exec_bsN _ _ _ _ _ rfl rfl) (⟨Tb.c4, Cb⟩) ?_
        try simp only [Act.put, List.setIfInBounds_toArray, List.set_cons_zero, List.set_cons_succ]
        refine nextJ (w' := w3) 5 31 (.slice a' (T0.length + 1) c') (by kernel_rfl) rfl rfl (by rfl) (exec_app _ _ 41 41 rfl lv (.slice (some ⟨p, 0, none⟩) 1 1) rfl rfl 41 rfl hrun) (⟨l3, C3⟩) ?_
        try simp only [Act.put, List.setIfInBounds_toArray, List.set_cons_zero, List.set_cons_succ]
        refine storeJ (w' := w4) 6 (by kernel_rfl) rfl rfl (by rfl) (by rw [hw4]; exact exec_store1 41 s1L _ _ rfl (s + 4) 0 rfl lv _ rfl l3 f3 rfl) ((fun e => by simp at e)) ?_
        try simp only [Act.put, List.setIfInBounds_toArray, List.set_cons_zero, List.set_cons_succ]
        refine doneJW (by kernel_rfl) _ ?_
        clear hrun hb3 l3 f3 hT' nb3 n4 ng3 ng4 gb g3 C3 BF OF FF KF hw4 hwb hwd hp cp Rb Cb Tb bb Rwd Cwd Twd gwd nwd bwd zd zb zx zw z1
        gi_wp2
        exact FIN.out
  case done =>
    intro D j W hD hj hI hDW
    subst hj
    obtain ⟨hbW, _, _, σ, av, gv, lv, V, hT⟩ := hI
    rw [List.take_length] at hT
    have z1 := HZ1.out
    have hsW := HS.out
    have hbl := HW.out
    have hgs := HGS.out
    have hgb := GBN.out
    have kl := KL.out
    have zW := hbW.size
    have cS : W.cell? ⟨s, 0, none⟩ = some (.pointer (some ⟨b, 0, none⟩)) := (hbW.cell (p := ⟨s, 0, none⟩) (by show s < _; omega) (fun e => by have e : s = g ∨ s = s + 2 ∨ s = s + 3 ∨ s = s + 4 := e; omega)).trans CC.out
    have bWw : But (Only g) w W := (But.of_below HB1.out).trans' hbW (fun q hq e => by
      have e : q = g ∨ q = s + 2 ∨ q = s + 3 ∨ q = s + 4 := e
      show q = g
      omega)
    have nbg : ¬ Only g b := hgb
    have cL : W.cell? ⟨b, 10, none⟩ = some (.slice a0 Lt.length c0) := (bWw.cell (p := ⟨b, 10, none⟩) hbl nbg).trans H0.out.lst
    have fL : W.frozen? ⟨b, 10, none⟩ = false := (bWw.frozen (p := ⟨b, 10, none⟩) hbl nbg).trans (H0.out.fz 10)
    obtain ⟨la, lc, hlv⟩ := hT.rl.shape
    obtain ⟨ρ', hρ'⟩ : ∃ ρ' : Nat → Role, ∀ h, (σ h = 1 ∧ Cel W h → ρ' h = (k, 1, 0)) ∧ (¬ (σ h = 1 ∧ Cel W h) → ρ h = (k, 1, 0) → ρ' h = (0, 0, 0)) ∧ (¬ (σ h = 1 ∧ Cel W h) → ρ h ≠ (k, 1, 0) → ρ' h = ρ h) := by
      refine ⟨fun h => @ite _ (σ h = 1 ∧ Cel W h) (Classical.propDecidable _) (k, 1, 0) (if ρ h = (k, 1, 0) then (0, 0, 0) else ρ h), fun h => ⟨fun e => if_pos e, fun e e2 => ?_, fun e e2 => ?_⟩⟩
      · show @ite _ (σ h = 1 ∧ Cel W h) (Classical.propDecidable _) _ _ = _
        rw [if_neg e, if_pos e2]
      · show @ite _ (σ h = 1 ∧ Cel W h) (Classical.propDecidable _) _ _ = _
        rw [if_neg e, if_neg e2]
    have sl : ∀ h, σ h = 1 → w1.heap.size ≤ h := fun h e => (hT.new h (by rw [e]; omega)).1
    have kp : ∀ h, h < w1.heap.size → ρ h ≠ (k, 1, 0) → ρ' h = ρ h := fun h h1 h2 => (hρ' h).2.2 (fun e => by have := sl h e.1; omega) h2
    have rbb := H0.out.rb
    have hrow : NbRow ρ' k W lv (tkT now Lt) := NbRow.of hT.rl (fun h _ e => (hρ' h).1 e) (hT.pd.but (But.refl (fun _ => False) W) (fun _ _ _ _ => id) (fun q t _ e _ => (kp q (by have := kl q (by rw [e]); omega) (by rw [e]; simp)).trans e))
    have hcat := H0.out.relist bWw nbg hrow ((kp b (by omega) (by rw [rbb]; simp)).trans rbb) (H0.out.tags.sublist (tkT_fst now Lt))
    have HCAT := hide hcat
    have hTc2 := hT.c2
    have hTc3 := hT.c3
    have hTc4 := hT.c4
    obtain ⟨aa, ac, hav⟩ := hT.ra.shape
    obtain ⟨ga, gc, hgv⟩ := hT.rg.shape
    obtain ⟨w9, hw9⟩ : ∃ z, z = W.setCell ⟨b, 10, none⟩ lv := ⟨_, rfl⟩
    rw [← hw9] at HCAT
    have b9 : But (Only b) W w9 := by rw [hw9]; exact (But.refl (Only b) W).setCell (p := ⟨b, 10, none⟩) (.inr rfl) _
    have z9 : w9.heap.size = W.heap.size := by rw [hw9]; simp
    have c29 : w9.cell? ⟨s + 2, 0, none⟩ = some av := (b9.cell (p := ⟨s + 2, 0, none⟩) hT.lt.1 (fun e => by have e : s + 2 = b := e; omega)).trans hTc2
    have c39 : w9.cell? ⟨s + 3, 0, none⟩ = some gv := (b9.cell (p := ⟨s + 3, 0, none⟩) hT.lt.2.1 (fun e => by have e : s + 3 = b := e; omega)).trans hTc3
    have D9 : w9.heap[D]? = some (.deferred (some [])) := (b9.block D (Array.getElem?_eq_some_iff.1 hDW).1 (fun e => by have e : D = b := e; omega)).trans hDW
    have nD : ¬ Cel W D := fun e => e.ne hDW rfl rfl
    have FIN : Hid (∀ wf, But (Only D) w9 wf → TkEnd ρ k w b m i now (Lt.map Prod.snd) (.returned (.tuple #[av, gv])) wf) := fun wf hf => by
      have bf : But (fun q => q = b ∨ q = D) W wf := (b9.mono (fun q e => .inl e)).trans (hf.mono (fun q e => .inr e))
      have no : ∀ x q, x ≠ 0 → σ q = x ∧ Cel W q → ¬ (q = b ∨ q = D) := fun x q hx e e2 => by
        have := (hT.new q (by rw [e.1]; exact hx)).1
        rcases e2 with e2 | e2
        · omega
        · rw [e2] at e; exact nD e.2
      have fr : ∀ x q, x ≠ 0 → x ≠ 1 → σ q = x ∧ Cel W q → Free ρ ρ' k w q := fun x q hx hx1 e => by
        have h1 := (hT.new q (by rw [e.1]; exact hx)).1
        have h2 := HF0.out q (by omega)
        exact ⟨((hρ' q).2.2 (fun e2 => hx1 (e.1.symm.trans e2.1)) (by rw [h2]; simp)).trans h2, .inl (by omega)⟩
      refine ⟨ρ', av, gv, rfl, ⟨_, _, tkT_snd now Lt, HCAT.out.but hf (fun q e e2 => ?_)⟩, fun q hq => ?_, ⟨fun q hq hk => kp q (by omega) (fun e => hk (by rw [e])), ?_⟩, (hT.rg.but bf (fun q => no 3 q (by omega))).own (fun q _ => fr 3 q (by omega) (by omega)), (hT.ra.but bf (fun q => no 2 q (by omega))).own (fun q _ => fr 2 q (by omega) (by omega))⟩
      · have e2 : q = D := e2
        rw [e2] at e
        have hz := HF0.out D (by omega)
        rw [(hρ' D).2.2 (fun e => nD e.2) (by rw [hz]; simp), hz] at e
        have e : 0 = k := e
        have := H0.out.pos
        omega
      · have hfs := bf.size
        have hz := HF0.out q (by omega)
        rw [(hρ' q).2.2 (fun e => by have := (hT.new q (by rw [e.1]; omega)).2; omega) (by rw [hz]; simp)]
        exact hz
      · have bK : But (fun q => (ρ q).1 = k) w W := ⟨bWw.os, bWw.tape, bWw.output, bWw.size, fun q hq hn => bWw.block q hq (fun e => hn (by
          have e : q = g := e
          by_cases hl : 0 < Lt.length
          · show (ρ q).1 = k
            rw [e, (HG.out hl).2.2.1]
          · have := HGN.out hl; omega))⟩
        refine bK.trans' bf (fun q hq e => ?_)
        rcases e with e | e
        · rw [e, rbb]
        · omega
    have HD9 := hide D9
    have HDD := hide hD
    have HW9 := hide hw9
    have HBW := hide hbW
    have e4 : W.cell? ⟨s + 4, 0, none⟩ = some (.slice la (tkT now Lt).length lc) := by rw [← hlv]; exact hTc4
    rw [hlv] at HW9
    obtain ⟨tl, htl⟩ : ∃ tl, tl = (tkT now Lt).length := ⟨_, rfl⟩
    rw [← htl] at HW9 e4
    have C2 := hide c29
    have C3 := hide c39
    clear hT hcat hrow kp sl hρ' bWw nbg hTc2 hTc3 hTc4 hav hgv b9 z9 D9 nD hD hDW hw9 hbW c29 c39 hlv htl rbb hsW hbl hgs hgb kl zW z1
    gi_wp2
    rw [← HW9.out]
    have c2 := C2.out
    have c3 := C3.out
    refine wpIn_mono (Q := fun e a w' => match e with
      | .normal => (∃ x, a = { tmps := x, defers := [{ target := Target.collected D, args := #[] }] } ∧ x.getD 4 undef = av ∧ x.getD 5 undef = gv) ∧ w' = w9.drew
      | _ => False) ?_ ?_
    · gi_region_with (fail)
      all_goals exact ⟨⟨_, rfl, rfl, rfl⟩, rfl⟩
    rintro e a3 w3 h3
    cases e with
    | normal => ?_
    | _ => exact h3.elim
    obtain ⟨⟨x, rfl, h4, h5⟩, rfl⟩ := h3
    gi_wp2
    have D10 : w9.drew.heap[D]? = some (.deferred (some [])) := HD9.out
    have bp : But (Only D) w9 (w9.drew.putObj D (.deferred none)) := ((But.refl (Only D) w9).drew).trans (put_but _ D _)
    have FE := FIN.out _ bp
    simp only [Exit.noGoto]
    refine ⟨by simp, .inl ⟨_, _, rfl, run_takeDeferred D10, ?_⟩⟩
    refine ⟨.tuple #[av, gv], ?_, FE⟩
    have h4' : x[4]?.getD undef = av := by simpa using h4
    have h5' : x[5]?.getD undef = gv := by simpa using h5
    simp [results, go_sem, h4', h5']
theorem Tick_any {ρ : Nat → Role} {k : Nat} {w : World} {b : Nat} {m : M6} {i : I4} {L : List Nb} (h : Ca ρ k w b m i L) (hF : Fit ρ w) (now : Int) (hok : LOk now L) (hn1 : now ≤ 4611686018427387904) :
    Calls Try.prog 18 #[.pointer (some ⟨b, 0, none⟩), .int .i64 now] w (TkEnd ρ k w b m i now L) := by
  obtain ⟨lv, Lt, rfl, h⟩ := h
  exact callsIn_wide.1 (tick_in 3 (Nat.le_refl _) h hF now hok hn1)
end Go.Proofs.Ytdcpnjlldocdcaa
