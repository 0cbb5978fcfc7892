
/-
  The document's ports: in memory; Who, Free.
-/
import Derived.Test.YthjeaebpboilpaaU14
namespace Go.Proofs.Ythjeaebpboilpaa
open Go.RowKit Go.Shelf

/-- a port's two cells -/
def prc (r : Po) : List Value := [.int .i64 r.n, .int .i64 r.who]
def dqc (L : List Po) (j : Nat) : List Value := prc ((L[j]?).getD ⟨0, 0, 0⟩)
theorem dqc_len (L : List Po) (j : Nat) : (dqc L j).length = 2 := rfl
theorem prc_one (r : Po) : ∀ u ∈ prc r, u.oneCell' = true := by
  intro u hu
  simp only [prc, List.mem_cons, List.not_mem_nil, or_false] at hu
  rcases hu with rfl | rfl <;> rfl
theorem dqc_at {L : List Po} {j : Nat} {r : Po} (h : L[j]? = some r) : dqc L j = prc r := by unfold dqc; rw [h]; rfl
theorem dqc_app (L : List Po) (r : Po) (q : Nat) (hq : q < L.length + 1) : dqc (L ++ [r]) q = if q < L.length then dqc L q else prc r := by
  unfold dqc
  by_cases e : q < L.length
  · rw [if_pos e, List.getElem?_append_left e]
  · rw [if_neg e, show q = L.length by omega]
    simp
/-- the document's ports at q, their row in blocks of O -/
structure DPo (W : World) (q : Nat) (O : Nat → Prop) (L : List Po) (nd : Int) : Prop where
  row : ∃ v, W.cell? ⟨q, 0, none⟩ = some v ∧ RowG 2 O W v L.length (dqc L)
  c1 : W.cell? ⟨q, 1, none⟩ = some (.int .i64 nd)
  fz : ∀ y, W.frozen? ⟨q, y, none⟩ = false
  nq : ¬ O q
section
variable {W W' : World} {q : Nat} {O K : Nat → Prop} {L : List Po} {nd : Int}
theorem DPo.lt (h : DPo W q O L nd) : q < W.heap.size := World.block_lt_of_cell? W _ h.c1
theorem DPo.but (h : DPo W q O L nd) (hb : But K W W') (hk : ∀ g, g = q ∨ O g → ¬ K g) : DPo W' q O L nd := by
  have hl := h.lt
  obtain ⟨v, h1, h2⟩ := h.row
  have k1 := hk q (.inl rfl)
  exact ⟨⟨v, (hb.cell (p := ⟨q, 0, none⟩) hl k1).trans h1, h2.but hb (fun g e => hk g (.inr e))⟩, (hb.cell (p := ⟨q, 1, none⟩) hl k1).trans h.c1, fun y => (hb.frozen (p := ⟨q, y, none⟩) hl k1).trans (h.fz y), h.nq⟩
theorem DPo.later (h : DPo W q O L nd) (hb : Below W.heap.size W W') : DPo W' q O L nd := h.but (K := fun _ => False) (But.of_below hb) (fun _ _ => id)
theorem DPo.own {O' : Nat → Prop} (h : DPo W q O L nd) (ho : ∀ g, g < W.heap.size → O g → O' g) (h1 : ¬ O' q) : DPo W q O' L nd := by
  obtain ⟨v, k1, k2⟩ := h.row
  exact ⟨⟨v, k1, k2.own ho⟩, h.c1, h.fz, h1⟩
/-- the second cell stored anew -/
theorem DPo.next (h : DPo W q O L nd) (n : Int) : DPo (W.setCell ⟨q, 1, none⟩ (.int .i64 n)) q O L n ∧ But (Only q) W (W.setCell ⟨q, 1, none⟩ (.int .i64 n)) := by
  have hb : But (Only q) W (W.setCell ⟨q, 1, none⟩ (.int .i64 n)) := (But.refl (Only q) W).cellb (b := q) rfl 1 _
  obtain ⟨v, k1, k2⟩ := h.row
  exact ⟨⟨⟨v, by rw [setCell_out (by decide)]; exact k1, k2.but hb (fun g e e2 => h.nq (by have e2 : g = q := e2; rw [← e2]; exact e))⟩, World.cell?_setCell_same _ _ _ h.c1, fun y => by rw [World.frozen?_setCell]; exact h.fz y, h.nq⟩, hb⟩
/-- another row -/
theorem DPo.turn {O' : Nat → Prop} {M : List Po} {v : Value} (h : DPo W q O L nd) (hv : RowG 2 O' W v M.length (dqc M)) (hq : ¬ O' q) : DPo (W.setCell ⟨q, 0, none⟩ v) q O' M nd ∧ But (Only q) W (W.setCell ⟨q, 0, none⟩ v) := by
  have hb : But (Only q) W (W.setCell ⟨q, 0, none⟩ v) := (But.refl (Only q) W).cellb (b := q) rfl 0 _
  obtain ⟨u, k1, k2⟩ := h.row
  exact ⟨⟨⟨v, World.cell?_setCell_same _ _ _ k1, hv.but hb (fun g e e2 => hq (by have e2 : g = q := e2; rw [← e2]; exact e))⟩, by rw [setCell_out (by decide)]; exact h.c1, fun y => by rw [World.frozen?_setCell]; exact h.fz y, hq⟩, hb⟩
end
theorem ofd_at {n : Int} : ∀ {L : List Po} {i : Nat} {r : Po}, L[i]? = some r → r.n = n → (∀ j y, j < i → L[j]? = some y → y.n ≠ n) → ofd n L = some (i, r)
  | [], _, _, h, _, _ => by cases h
  | y :: L, 0, x, h, h1, _ => by
    cases h
    unfold ofd
    rw [if_pos h1.symm]
  | y :: L, i + 1, x, h, h1, h3 => by
    unfold ofd
    rw [if_neg (fun e => h3 0 y (by omega) rfl e.symm), ofd_at (L := L) (i := i) (r := x) (by simpa using h) h1 (fun j z hj hz => h3 (j + 1) z (by omega) (by simpa using hz))]
    rfl
set_option maxRecDepth 100000 in
set_option maxHeartbeats 4000000 in
theorem rWho_any {w : World} {q : Nat} {O : Nat → Prop} {L : List Po} {nd : Int} (h : DPo w q O L nd) (hl : L.length ≤ 1000) (n : Int) : Calls Try.prog 19 #[.pointer (some ⟨q, 0, none⟩), .int .i64 n] w fun e w' => e = .returned (.tuple #[.int .i64 (owh n L), .bool (otk n L)]) ∧ w' = w := by
  obtain ⟨v, cv, rv⟩ := h.row
  obtain ⟨va, vc, rfl⟩ := rv.shape
  obtain ⟨m, hm⟩ : ∃ m, m = L.length := ⟨_, rfl⟩
  rw [← hm] at cv rv
  have mz : (m : Int) ≤ 1000 := by omega
  have GA : Hid (0 < m → ∃ ga off, va = some ⟨ga, off, none⟩ ∧ ∀ j, j < m → CellsAt w ga (off + j * 2) (dqc L j)) := fun e => by
    obtain ⟨g, off, h1, h2, h3, h4, h5⟩ := rv.at e
    exact ⟨g, off, h1, h5⟩
  have HM := hide hm
  clear h rv hm hl
  go_enter Try.func19, Try.ntmps19
  go_wp2
  go_loopw [6] (fun vi wr => ∃ i : Nat, vi = .int .i64 (i : Int) ∧ i ≤ m ∧ Hid (∀ j y, j < i → L[j]? = some y → y.n ≠ n) ∧ w = wr) (fun vi _ => m - (intOf vi).toNat)
  case atStart => exact ⟨0, rfl, Nat.zero_le _, (fun j y hj => by omega), rfl⟩
  case round =>
    obtain ⟨i, rfl, hi, HI, hwr⟩ := hrel
    rw [← hwr]
    clear hwr
    by_cases hlt : i < m
    · obtain ⟨ga, off, rfl, hgc⟩ := GA.out (by omega)
      obtain ⟨x, hx⟩ : ∃ x, L[i]? = some x := ⟨_, List.getElem?_eq_getElem (by rw [← HM.out]; exact hlt)⟩
      have cx : CellsAt w ga (off + i * 2) (prc x) := by rw [← dqc_at hx]; exact hgc i hlt
      have x0 : w.cell? ⟨ga, off + i * 2, none⟩ = some (.int .i64 x.n) := cx 0 _ rfl
      have x1 : w.cell? ⟨ga, off + i * 2 + 1, none⟩ = some (.int .i64 x.who) := cx 1 _ rfl
      have iz : (i : Int) < (m : Int) := by omega
      obtain ⟨xn, hxn⟩ : ∃ xn, xn = x.n := ⟨_, rfl⟩
      obtain ⟨xw, hxw⟩ : ∃ xw, xw = x.who := ⟨_, rfl⟩
      rw [← hxn] at x0
      rw [← hxw] at x1
      by_cases e : xn = n
      · have OF := ofd_at hx (by rw [← hxn]; exact e) HI.out
        have FE : Hid (owh n L = xw ∧ otk n L = true) := by
          unfold Hid owh otk
          rw [OF]
          exact ⟨hxw.symm, rfl⟩
        subst e
        clear cx hgc hx hxn hxw OF
        go_wp2
        refine bodyPost_ret (v := .tuple #[.int .i64 xw, .bool true]) (by simp [results, go_sem]) rfl ?_
        exact ⟨by rw [FE.out.1, FE.out.2], rfl⟩
      · have z : (xn == n) = false := by simpa using e
        have HI2 : Hid (∀ j y, j < i + 1 → L[j]? = some y → y.n ≠ n) := fun j y hj hy => by
          by_cases ej : j = i
          · subst ej; rw [hx] at hy; cases hy; rw [← hxn]; exact e
          · exact HI.out j y (by omega) hy
        clear cx hgc hx hxn hxw x1
        go_wp2
        go_roundw
        case rel => exact ⟨i + 1, by go_num, by omega, HI2.out, trivial⟩
        case measure => simp [intOf]; omega
    · have ei : m = i := by omega
      have OF : ofd n L = none := ofd_not (fun x hx => by
        obtain ⟨j, hj⟩ := List.getElem?_of_mem hx
        exact HI.out j x (by have := (List.getElem?_eq_some_iff.1 hj).1; rw [← ei, HM.out]; exact this) hj)
      have FE : Hid (owh n L = 0 ∧ otk n L = false) := by
        unfold Hid owh otk
        rw [OF]
        exact ⟨rfl, rfl⟩
      subst ei
      clear OF
      go_wp2
      refine bodyPost_ret (v := .tuple #[.int .i64 0, .bool false]) (by simp [results, go_sem]) rfl ?_
      exact ⟨by rw [FE.out.1, FE.out.2], rfl⟩
section
variable {w : World} {ops : Array Oper} {rest : List Oper} {o : Oper} {a : Act} {Q : Exit → Act → World → Prop}
theorem wpList_appP (hgd : o.guard = none) (s x : Operand) (hop : o.op = Op.call { callee := Callee.builtin Builtin.append, args := #[s, x], argTypes := #[38, 38] }) (hty : o.type = 38) (v u : Value) (hs : a.eval s = v) (hx : a.eval x = u) {v' : Value} {w' : World}
    (hr : (Builtin.append_ #[38, 38] 38 #[v, u]).run Try.prog w = .ok v' w') (h : wpList Try.prog ops Q rest (a.put o.dst v') w') : wpList Try.prog ops Q (o :: rest) a w := by
  refine wpList_plain hgd fun K hK => ?_
  unfold Oper.wp
  simp only [execOp, hop, hty]
  simp [resolve, invoke, builtin, hs, hx, hr, Result.andThen]
  exact hK _ _ h
end
theorem info_port : (Try.prog.info? 49).map (fun i => (i.zero, i.size, i.bytes)) = some (some (.agg (prc ⟨0, 0, 0⟩).toArray), 2, 16) := by kernel_rfl
theorem aggPo (w : World) : (isAgg 49).run Try.prog w = .ok true w := by kernel_rfl
theorem sizPo (w : World) : (Go.sizeOf 49).run Try.prog w = .ok 2 w := by kernel_rfl
/-- one port more in a row -/
theorem row_port {O : Nat → Prop} {W : World} {a : Option Addr} {n c : Nat} {L : List Po} (h : RowG 2 O W (.slice a n c) n (dqc L)) (hn : n = L.length) (hl : n ≤ 1000) (r : Po) : ∃ a' c' w2, (Builtin.append_ #[38, 38] 38 #[.slice a n c, .slice (some ⟨W.heap.size, 0, none⟩) 1 1]).run Try.prog (W.alloc (.cells #[.int .i64 r.n, .int .i64 r.who] 49)) = .ok (.slice a' (n + 1) c') w2 ∧ RowG 2 (fun g => O g ∨ W.heap.size ≤ g ∧ g < w2.heap.size) w2 (.slice a' (n + 1) c') (L ++ [r]).length (dqc (L ++ [r])) ∧ But O W w2 := by
  obtain ⟨i0, hi0, hz0, hz1, hz2⟩ := info_parts info_port
  have b1 : Below W.heap.size W (W.alloc (.cells #[.int .i64 r.n, .int .i64 r.who] 49)) := later_alloc _ _
  have cE : CellsAt (W.alloc (.cells #[.int .i64 r.n, .int .i64 r.who] 49)) W.heap.size 0 (prc r) := CellsAt.new W (prc r) 49
  obtain ⟨a', c', wF, hrun, rF, hbF⟩ := (h.later b1).push 38 49 i0 _ Try.underlying38 hi0 hz0 hz1 (by omega) rfl (fun j hj => dqc_len L j) (fun j hj => prc_one _) (prc r) rfl (prc_one _) W.heap.size cE (by omega)
  refine ⟨a', c', wF, hrun, ?_, (But.of_below b1).trans hbF⟩
  rw [List.length_append, ← hn]
  refine (rF.own (fun g hg e => ?_)).cong (fun j hj => ?_)
  · rcases e with e | e
    · exact .inl e
    · exact .inr ⟨by rw [e]; exact b1.size, hg⟩
  · rw [dqc_app L _ j (by rw [← hn]; exact hj), ← hn]
set_option maxRecDepth 100000 in
set_option maxHeartbeats 8000000 in
theorem rFree_any {w : World} {q : Nat} {O : Nat → Prop} {L : List Po} {nd : Int} (h : DPo w q O L nd) (hl : L.length ≤ 1000) (who : Int) : Calls Try.prog 15 #[.pointer (some ⟨q, 0, none⟩), .int .i64 who] w fun e w' => e = .returned (.tuple #[]) ∧ DPo w' q (fun g => w.heap.size ≤ g ∧ g < w'.heap.size) (L.filter (fun e => !(e.who == who))) nd ∧ But (Only q) w w' := by
  obtain ⟨v, cv, rv⟩ := h.row
  obtain ⟨va, vc, rfl⟩ := rv.shape
  obtain ⟨m, hm⟩ : ∃ m, m = L.length := ⟨_, rfl⟩
  rw [← hm] at cv rv
  have mz : (m : Int) ≤ 1000 := by omega
  have GA : Hid (0 < m → ∃ ga off, va = some ⟨ga, off, none⟩ ∧ ga < w.heap.size ∧ ∀ j, j < m → CellsAt w ga (off + j * 2) (dqc L j)) := fun e => by
    obtain ⟨g, off, h1, h2, h3, h4, h5⟩ := rv.at e
    exact ⟨g, off, h1, h2, h5⟩
  have HM := hide hm
  have H := hide h
  have CV := hide cv
  have lq : q < w.heap.size := h.lt
  clear h rv hm hl cv
  go_enter Try.func15, Try.ntmps15
  go_wp2
  go_loopw [4, 5] (fun v4 v5 wr => ∃ (k : Nat) (aa : Option Addr) (an ac : Nat), v4 = .slice aa an ac ∧ v5 = .int .i64 (k : Int) ∧ k ≤ m ∧ an ≤ k ∧ Hid (an = ((L.take k).filter (fun e => !(e.who == who))).length) ∧ Hid (Below w.heap.size w wr) ∧ Hid (RowG 2 (fun g => w.heap.size ≤ g ∧ g < wr.heap.size) wr (.slice aa an ac) an (dqc ((L.take k).filter (fun e => !(e.who == who)))))) (fun _ v5 _ => m - (intOf v5).toNat)
  case atStart => exact ⟨0, none, 0, 0, rfl, rfl, Nat.zero_le _, Nat.le_refl _, rfl, Below.refl _ _, RowG.nil _ _ _ _⟩
  case round =>
    obtain ⟨k, aa, an, ac, rfl, rfl, hk, hak, EA, BI, RI⟩ := hrel
    obtain ⟨wk, hwk⟩ : ∃ wk, wk = wr := ⟨_, rfl⟩
    rw [← hwk] at BI RI ⊢
    clear hwk
    have cvr : wk.cell? ⟨q, 0, none⟩ = some (.slice va m vc) := (BI.out.cell (p := ⟨q, 0, none⟩) lq).trans CV.out
    by_cases hlt : k < m
    · obtain ⟨ga, off, rfl, hg, hgc⟩ := GA.out (by omega)
      obtain ⟨x, hx⟩ : ∃ x, L[k]? = some x := ⟨_, List.getElem?_eq_getElem (by rw [← HM.out]; exact hlt)⟩
      have cx : CellsAt wk ga (off + k * 2) (prc x) := by rw [← dqc_at hx]; exact (hgc k hlt).later hg BI.out
      have x1 : wk.cell? ⟨ga, off + k * 2 + 1, none⟩ = some (.int .i64 x.who) := cx 1 _ rfl
      have iz : (k : Int) < (m : Int) := by omega
      have TK := take_more hx
      obtain ⟨xn, hxn⟩ : ∃ xn, xn = x.n := ⟨_, rfl⟩
      obtain ⟨xw, hxw⟩ : ∃ xw, xw = x.who := ⟨_, rfl⟩
      rw [← hxw] at x1
      have CX : Hid (CellsAt wk ga (off + k * 2) [.int .i64 xn, .int .i64 xw]) := by rw [hxn, hxw]; exact cx
      by_cases e : xw = who
      · have KE : Hid ((L.take (k + 1)).filter (fun e => !(e.who == who)) = (L.take k).filter (fun e => !(e.who == who))) := by
          rw [TK, List.filter_append, List.filter_cons, if_neg (by rw [← hxw, e]; simp), List.filter_nil, List.append_nil]
          exact rfl
        subst e
        clear hx hgc TK hxn hxw cx CX
        go_wp2
        go_roundw
        case rel => exact ⟨k + 1, aa, an, ac, rfl, by go_num, by omega, by omega, by rw [KE.out]; exact EA.out, BI.out, by rw [KE.out]; exact RI.out⟩
        case measure => simp [intOf]; omega
      · have z1 : (xw != who) = true := by simp [e]
        have z2 : (xw == who) = false := by simp [e]
        have KE : Hid ((L.take (k + 1)).filter (fun e => !(e.who == who)) = (L.take k).filter (fun e => !(e.who == who)) ++ [x]) := by
          rw [TK, List.filter_append, List.filter_cons, if_pos (by rw [← hxw]; simp [e]), List.filter_nil]
          exact rfl
        obtain ⟨a7, c7, w7, run7, row7, bo7⟩ := row_port RI.out EA.out (by omega) x
        rw [← KE.out] at row7
        rw [← hxn, ← hxw] at run7
        have BEL7 : Hid (Below w.heap.size w w7) := BI.out.trans (bo7.below BI.out.size (fun g hg e => by have := e.1; omega))
        have R7 : Hid (RowG 2 (fun g => w.heap.size ≤ g ∧ g < w7.heap.size) w7 (.slice a7 (an + 1) c7) (an + 1) (dqc ((L.take (k + 1)).filter (fun e => !(e.who == who))))) := by
          have e1 : ((L.take (k + 1)).filter (fun e => !(e.who == who))).length = an + 1 := by rw [KE.out, List.length_append, ← EA.out]; rfl
          rw [e1] at row7
          exact row7.own (fun g hg e => by
            rcases e with e | e
            · exact ⟨e.1, hg⟩
            · exact ⟨Nat.le_trans BI.out.size e.1, hg⟩)
        have EA2 : Hid (an + 1 = ((L.take (k + 1)).filter (fun e => !(e.who == who))).length) := by
          rw [KE.out, List.length_append, ← EA.out]; exact rfl
        have RUN := hide run7
        clear hx hgc TK hxn hxw cx run7 row7 bo7 KE
        go_upto_region 3 with (first | (refine wpList_loadA rfl 49 2 aggPo sizPo _ rfl ga (off + k * 2) rfl [.int .i64 xn, .int .i64 xw] rfl CX.out ?_) | (at_builtin; refine wpList_appP rfl _ _ rfl rfl _ _ rfl rfl RUN.out ?_))
        clear x1 cvr
        go_wp2
        go_roundw
        case rel => exact ⟨k + 1, a7, an + 1, c7, rfl, by go_num, by omega, by omega, EA2.out, BEL7.out, R7.out⟩
        case measure => simp [intOf]; omega
    · have ekm : k = m := by omega
      have TL : Hid ((L.take k).filter (fun e => !(e.who == who)) = L.filter (fun e => !(e.who == who))) := by rw [ekm, HM.out, List.take_length]; exact rfl
      have HK := hide (H.out.later BI.out)
      have fq : wk.frozen? ⟨q, 0, none⟩ = false := HK.out.fz 0
      obtain ⟨w9, hw9⟩ : ∃ w9, w9 = wk.setCell ⟨q, 0, none⟩ (.slice aa an ac) := ⟨_, rfl⟩
      have FIN : Hid (DPo w9 q (fun g => w.heap.size ≤ g ∧ g < w9.heap.size) (L.filter (fun e => !(e.who == who))) nd ∧ But (Only q) w w9) := by
        have r := RI.out
        rw [TL.out] at r
        have el : an = (L.filter (fun e => !(e.who == who))).length := by rw [← TL.out]; exact EA.out
        have r2 : RowG 2 (fun g => w.heap.size ≤ g ∧ g < wk.heap.size) wk (.slice aa an ac) (L.filter (fun e => !(e.who == who))).length (dqc (L.filter (fun e => !(e.who == who)))) := by rw [← el]; exact r
        obtain ⟨h1, h2⟩ := HK.out.turn r2 (fun e => by have := e.1; omega)
        rw [← hw9] at h1 h2
        exact ⟨h1.own (fun g hg e => ⟨e.1, hg⟩) (fun e => by have := e.1; omega), (But.of_below BI.out).trans h2⟩
      have hw9' := hw9.symm
      have kz : ¬ (k : Int) < (m : Int) := by omega
      clear hw9 TL HK RI
      go_wp2
      go_end0
      exact ⟨rfl, FIN.out.1, FIN.out.2⟩
end Go.Proofs.Ythjeaebpboilpaa
