
/-
  Package frag: Tick.
-/
import Derived.Test.YtgempelfamjabaaF21
namespace Go.Proofs.Ytgempelfamjabaa
open Go.RowKit Go.Shelf

/-- is a datagram too old? -/
def oldG (now : Int) (p : Nat × Gm) : Bool := hpB p.2.since now 16
def youngG (now : Int) (p : Nat × Gm) : Bool := !oldG now p
theorem info_pd : (Try.prog.info? 65).map (fun i => (i.zero, i.size, i.bytes)) = some (some (.pointer none), 1, 8) := by kernel_rfl
theorem ptc_app (L : List (Nat × Gm)) (p : Nat × Gm) (q : Nat) (hq : q < L.length + 1) : ptc (L ++ [p]) q = if q < L.length then ptc L q else [.pointer (some ⟨p.1, 0, none⟩)] := by
  unfold ptc
  by_cases e : q < L.length
  · rw [if_pos e, List.getElem?_append_left e]
  · rw [if_neg e, show q = L.length by omega]
    simp
/-- a pointer more: all its worlds -/
theorem ptr_push {O : Nat → Prop} {W : World} {v : Value} {L : List (Nat × Gm)} (h : RowF 1 O W v L.length (ptc L)) (p : Nat × Gm) (hl : L.length ≤ 1000) :
    ∃ a' c' w2, (Builtin.append_ #[62, 62] 62 #[v, .slice (some ⟨W.heap.size, 0, none⟩) 1 1]).run Try.prog (W.alloc (.cells #[.pointer (some ⟨p.1, 0, none⟩)] 65)) = .ok (.slice a' (L.length + 1) c') w2 ∧ RowF 1 (fun g => O g ∨ W.heap.size ≤ g) w2 (.slice a' (L.length + 1) c') (L ++ [p]).length (ptc (L ++ [p])) ∧ But O W w2 := by
  obtain ⟨i0, hi0, hz0, hz1, hz2⟩ := info_parts info_pd
  have b1 : Below W.heap.size W (W.alloc (.cells #[.pointer (some ⟨p.1, 0, none⟩)] 65)) := later_alloc _ _
  obtain ⟨a', c', w2, hr, rr, hb⟩ := (h.later b1).push 62 65 i0 _ Try.underlying62 hi0 hz0 hz1 (by omega) rfl (fun j hj => ptc_len L j) (fun q hq => ptc_one L q) [.pointer (some ⟨p.1, 0, none⟩)] rfl (fun u hu => by rw [List.mem_singleton.1 hu]; rfl) W.heap.size (CellsAt.new W [_] _) (by omega)
  refine ⟨a', c', w2, hr, ?_, (But.of_below b1).trans hb⟩
  rw [List.length_append]
  refine (RowF.cong (c := fun q => if q < L.length then ptc L q else [.pointer (some ⟨p.1, 0, none⟩)]) (rr.own (fun g hg e => ?_)) (fun j hj => by rw [ptc_app L p j hj]))
  rcases e with e | e
  · exact .inl e
  · exact .inr (by rw [e, World.size_alloc]; omega)
theorem exec_bsDp {o : Oper} {w : World} {ev : Operand → Value} (x : Operand) (a : Option Addr) (ho : o.op = .buildSlice 62 1 #[(0, x)]) (hx : ev x = .pointer a) : (execOp ev o).run Try.prog w = .ok (.value (.slice (some ⟨w.heap.size, 0, none⟩) 1 1)) (w.alloc (.cells #[.pointer a] 65)) := by
  unfold execOp
  simp [ho, hx, go_sem]
/-- between two rounds -/
structure TkM (w : World) (now : Int) (G : List (Nat × Gm)) (i : Nat) (gv lv : Value) (W : World) : Prop where
  b : Below w.heap.size w W
  rows : ∃ τ : Nat → Nat, RowN (fun g => τ g = 1 ∧ w.heap.size ≤ g) W gv (gbf ((G.take i).filter (oldG now))) ∧ RowF 1 (fun g => τ g = 2 ∧ w.heap.size ≤ g) W lv ((G.take i).filter (youngG now)).length (ptc ((G.take i).filter (youngG now)))
theorem TkM.old {w W0 W5 : World} {now : Int} {G : List (Nat × Gm)} {i : Nat} {gv lv v5 : Value} (h : TkM w now G i gv lv W0) {p : Nat × Gm} (hp : G[i]? = some p) (ho : oldG now p = true) (hl : ∀ q ∈ G, q.2.L.length ≤ 600) (h4 : G.length ≤ 4) (b5 : Below W0.heap.size W0 W5) (r5 : RowN (fun g => W0.heap.size ≤ g) W5 v5 (p.2.L.map (·.buf))) :
    ∃ (a' : Option Addr) (n' c' : Nat) (w6 : World), (Builtin.append_ #[46, 46] 46 #[gv, v5]).run Try.prog W5 = .ok (.slice a' n' c') w6 ∧ TkM w now G (i + 1) (.slice a' n' c') lv w6 := by
  obtain ⟨h1, τ, h2, h3⟩ := h
  have hle : (gbf ((G.take i).filter (oldG now))).length ≤ 2400 := by
    have h1 := gbf_len (G := (G.take i).filter (oldG now)) (fun q hq => hl q (List.mem_of_mem_take (List.mem_filter.1 hq).1))
    have h2 : ((G.take i).filter (oldG now)).length ≤ 4 := Nat.le_trans (List.length_filter_le _ _) (by rw [List.length_take]; omega)
    have := Nat.mul_le_mul_right 600 h2
    omega
  have hle2 := hl p (List.mem_of_getElem? hp)
  have z1 := h1.size
  have z5 := b5.size
  have h2' := (h2.own (O' := fun g => (τ g = 1 ∧ w.heap.size ≤ g) ∧ g < W0.heap.size) (fun g hg e => ⟨e, hg⟩)).later b5
  have h3' := (h3.own (O' := fun g => (τ g = 2 ∧ w.heap.size ≤ g) ∧ g < W0.heap.size) (fun g hg e => ⟨e, hg⟩)).later b5
  obtain ⟨a', c', w6, hrun, r6, b6⟩ := appI_run h2' r5.cn (by rw [List.length_map]; omega)
  refine ⟨a', _, c', w6, hrun, (later h1 b5).trans (b6.below (by omega) (fun g hg e => by have := e.1.2; omega)), fun g => if g < W0.heap.size then τ g else 1, ?_, ?_⟩
  · have e1 : gbf ((G.take (i + 1)).filter (oldG now)) = gbf ((G.take i).filter (oldG now)) ++ p.2.L.map (·.buf) := by
      rw [take_moreG hp, List.filter_append, List.filter_cons_of_pos ho]
      simp [gbf]
    rw [e1]
    exact r6.own (fun g hg e => by
      rcases e with e | e
      · exact ⟨(if_pos e.2).trans e.1.1, e.1.2⟩
      · exact ⟨if_neg (by omega), by omega⟩)
  · have e2 : (G.take (i + 1)).filter (youngG now) = (G.take i).filter (youngG now) := by
      rw [take_moreG hp, List.filter_append, List.filter_cons_of_neg (by simp [youngG, ho])]
      simp
    rw [e2]
    exact (h3'.but b6 (fun g e e2 => by have := e.1.1; have := e2.1.1; omega)).own (fun g hg e => ⟨(if_pos e.2).trans e.1.1, e.1.2⟩)
theorem TkM.young {w W0 : World} {now : Int} {G : List (Nat × Gm)} {i : Nat} {gv lv : Value} (h : TkM w now G i gv lv W0) {p : Nat × Gm} (hp : G[i]? = some p) (ho : oldG now p = false) (h4 : G.length ≤ 4) :
    ∃ (a' : Option Addr) (n' c' : Nat) (w6 : World), (Builtin.append_ #[62, 62] 62 #[lv, .slice (some ⟨W0.heap.size, 0, none⟩) 1 1]).run Try.prog (W0.alloc (.cells #[.pointer (some ⟨p.1, 0, none⟩)] 65)) = .ok (.slice a' n' c') w6 ∧ TkM w now G (i + 1) gv (.slice a' n' c') w6 := by
  obtain ⟨h1, τ, h2, h3⟩ := h
  have h2 : ((G.take i).filter (youngG now)).length ≤ 4 := Nat.le_trans (List.length_filter_le _ _) (by rw [List.length_take]; omega)
  rename_i h2o
  have z1 := h1.size
  have h2' := h2o.own (O' := fun g => (τ g = 1 ∧ w.heap.size ≤ g) ∧ g < W0.heap.size) (fun g hg e => ⟨e, hg⟩)
  have h3' := h3.own (O' := fun g => (τ g = 2 ∧ w.heap.size ≤ g) ∧ g < W0.heap.size) (fun g hg e => ⟨e, hg⟩)
  obtain ⟨a', c', w6, hrun, r6, b6⟩ := ptr_push h3' p (by omega)
  refine ⟨a', _, c', w6, hrun, h1.trans (b6.below (by omega) (fun g hg e => by have := e.1.2; omega)), fun g => if g < W0.heap.size then τ g else 2, ?_, ?_⟩
  · have e1 : (G.take (i + 1)).filter (oldG now) = (G.take i).filter (oldG now) := by
      rw [take_moreG hp, List.filter_append, List.filter_cons_of_neg (by simp [ho])]
      simp
    rw [e1]
    exact (h2'.but b6 (fun g e e2 => by have := e.1.1; have := e2.1.1; omega)).own (fun g hg e => ⟨(if_pos e.2).trans e.1.1, e.1.2⟩)
  · have e2 : (G.take (i + 1)).filter (youngG now) = (G.take i).filter (youngG now) ++ [p] := by
      rw [take_moreG hp, List.filter_append, List.filter_cons_of_pos (by simp [youngG, ho])]
      simp
    rw [e2]
    exact r6.own (fun g hg e => by
      rcases e with e | e
      · exact ⟨(if_pos e.2).trans e.1.1, e.1.2⟩
      · exact ⟨if_neg (by omega), by omega⟩)
set_option maxRecDepth 100000 in
set_option maxHeartbeats 4000000 in
theorem tick_any {ρ : Nat → Nat × Nat} {w : World} {b : Nat} {G : List (Nat × Gm)} (h : FrAt ρ w b G) (now : Int) (hnow : -9223372036854775808 ≤ now ∧ now ≤ 9223372036854775807) (hsi : ∀ p ∈ G, -9223372036854775808 ≤ p.2.since ∧ p.2.since ≤ 9223372036854775807) :
    Calls Try.prog 15 #[.pointer (some ⟨b, 0, none⟩), .int .i64 now] w fun e w' => ∃ v, e = .returned v ∧ ∃ ρ' : Nat → Nat × Nat, (∀ g, g < w.heap.size → ρ' g = ρ g) ∧ RowN (fun g => w.heap.size ≤ g ∧ ρ' g = (0, 9)) w' v (gbf (G.filter (oldG now))) ∧ FrAt ρ' w' b (G.filter (youngG now)) ∧ But (Only b) w w' := by
  obtain ⟨va, vc, cv, hat⟩ := h.at
  obtain ⟨n, hn⟩ : ∃ n, n = G.length := ⟨_, rfl⟩
  rw [← hn] at cv
  have n4 : n ≤ 4 := by rw [hn]; exact h.len
  have nz : (n : Int) ≤ 4 := by omega
  have HAT := hide hat
  have HN := hide hn
  have HH := hide h
  have HSI := hide hsi
  have HNOW := hide hnow
  have CV0 := hide cv
  clear h hat hn hsi hnow
  go_enter Try.func15, Try.ntmps15
  go_wp2
  clear cv
  go_loopw [5, 6, 14] (fun vg vl vi wr => ∃ (i : Nat) (ga la : Option Addr) (gn gc ln lc : Nat), vg = .slice ga gn gc ∧ vl = .slice la ln lc ∧ vi = .int .i64 (i : Int) ∧ i ≤ n ∧ Hid (TkM w now G i (.slice ga gn gc) (.slice la ln lc) wr)) (fun _ _ vi _ => n - (intOf vi).toNat)
  case atStart => exact ⟨0, none, none, 0, 0, 0, 0, rfl, rfl, rfl, Nat.zero_le _, Below.refl _ _, fun _ => 0, RowN.nil _ _, RowF.nil _ _ _ _⟩
  case round =>
    obtain ⟨i, ga, la, gn, gc, ln, lc, rfl, rfl, rfl, hi, HM⟩ := hrel
    obtain ⟨wk, hwk⟩ : ∃ wk, wk = wr := ⟨_, rfl⟩
    rw [← hwk] at HM ⊢
    clear hwk
    by_cases hlt : i < n
    · obtain ⟨p, hp⟩ : ∃ p, G[i]? = some p := ⟨_, List.getElem?_eq_getElem (by rw [← HN.out]; exact hlt)⟩
      have hmem := List.mem_of_getElem? hp
      obtain ⟨xa, rfl, hgc⟩ := HAT.out i p hp
      have x0 := hgc wk HM.out.b
      have gm := ((HH.out.gm p hmem).2.2).later HM.out.b
      obtain ⟨pb, hpb⟩ : ∃ pb, pb = p.1 := ⟨_, rfl⟩
      rw [← hpb] at x0
      have k10 : wk.cell? ⟨pb, 10, none⟩ = some (.int .i64 p.2.since) := by rw [hpb]; exact gm.c 10 _ rfl
      have HP := hide (havePassed_any p.2.since now 16 wk (HSI.out p hmem) HNOW.out (by omega))
      have BF := hide (bufs_any gm)
      have HPP := hide hp
      have HPB := hide hpb
      have iz : (i : Int) < (n : Int) := by omega
      rw [← hpb] at BF
      obtain ⟨sn, hsn⟩ : ∃ sn, sn = p.2.since := ⟨_, rfl⟩
      have OE : Hid (oldG now p = hpB sn now 16) := by rw [hsn]; exact rfl
      rw [← hsn] at k10 HP
      obtain ⟨q, hq⟩ : ∃ q, q = hpB sn now 16 := ⟨_, rfl⟩
      rw [← hq] at HP OE
      clear hgc gm hpb hp hmem hsn hq
      go_wp2_with fail
      clear x0 k10
      refine HP.out.mono ?_
      rintro _ wq ⟨rfl, hwq⟩
      rw [hwq]
      clear HP hwq wq
      cases q with
      | true =>
        go_wp2_with fail
        refine BF.out.mono ?_
        rintro _ w5 ⟨v5, rfl, r5, b5⟩
        obtain ⟨a', n', c', w6, hrun, M6⟩ := HM.out.old HPP.out OE.out (fun q hq => (HH.out.gm q hq).2.2.len) HH.out.len b5 r5
        obtain ⟨ua, uc, rfl⟩ := r5.shape
        obtain ⟨un, hun⟩ : ∃ un, un = (p.2.L.map (·.buf)).length := ⟨_, rfl⟩
        rw [← hun] at hrun ⊢
        have RUN := hide hrun
        have HM6 := hide M6
        clear hrun M6 r5 b5 BF HM hun
        go_upto_region 9 with (at_builtin; refine wpList_appJ rfl _ _ rfl rfl _ _ rfl rfl RUN.out ?_)
        go_wp2
        go_roundw
        case rel => exact ⟨i + 1, a', la, n', c', ln, lc, rfl, rfl, by go_num, by omega, HM6.out⟩
        case measure => simp [intOf]; omega
      | false =>
        obtain ⟨a', n', c', w6, hrun, M6⟩ := HM.out.young HPP.out OE.out HH.out.len
        rw [← HPB.out] at hrun
        have RUN := hide hrun
        have HM6 := hide M6
        clear hrun M6 BF HM
        go_upto_region 8 with fail
        refine wp_region_list ?_
        refine listVP (w' := wk) 28 (.slice la ln lc) rfl rfl rfl (exec_move _ _ rfl rfl) ?_
        try simp only [Act.put, List.setIfInBounds_toArray, List.set_cons_zero, List.set_cons_succ]
        refine listVP (w' := wk) 29 (.pointer (some ⟨pb, 0, none⟩)) rfl rfl rfl (exec_move _ _ rfl rfl) ?_
        try simp only [Act.put, List.setIfInBounds_toArray, List.set_cons_zero, List.set_cons_succ]
        refine listVP (w' := (wk.alloc (.cells #[.pointer (some ⟨pb, 0, none⟩)] 65))) 30 (.slice (some ⟨wk.heap.size, 0, none⟩) 1 1) rfl rfl rfl (exec_bsDp _ _ rfl rfl) ?_
        try simp only [Act.put, List.setIfInBounds_toArray, List.set_cons_zero, List.set_cons_succ]
        refine listVP (w' := w6) 31 (.slice a' n' c') rfl rfl rfl (exec_app _ _ 62 62 rfl (.slice la ln lc) (.slice (some ⟨wk.heap.size, 0, none⟩) 1 1) rfl rfl 62 rfl RUN.out) ?_
        try simp only [Act.put, List.setIfInBounds_toArray, List.set_cons_zero, List.set_cons_succ]
        refine listVP (w' := w6) 6 (.slice a' n' c') rfl rfl rfl (exec_assign _ _ rfl rfl) ?_
        try simp only [Act.put, List.setIfInBounds_toArray, List.set_cons_zero, List.set_cons_succ]
        go_wp2
        go_roundw
        case rel => exact ⟨i + 1, ga, a', gn, gc, n', c', rfl, rfl, by go_num, by omega, HM6.out⟩
        case measure => simp [intOf]; omega
    · have ei : G.take i = G := by rw [List.take_of_length_le (by rw [← HN.out]; omega)]
      have iz : ¬ (i : Int) < (n : Int) := by omega
      obtain ⟨bm, τ, rN, rF⟩ := HM.out
      rw [ei] at rN rF
      have hbl := HH.out.lt
      have cv : wk.cell? ⟨b, 0, none⟩ = some (.slice va n vc) := (bm.cell (p := ⟨b, 0, none⟩) hbl).trans CV0.out
      have fv : wk.frozen? ⟨b, 0, none⟩ = false := (bm.frozen (p := ⟨b, 0, none⟩) hbl).trans HH.out.fz
      obtain ⟨w3, hw3⟩ : ∃ w3, w3 = wk.setCell ⟨b, 0, none⟩ (.slice la ln lc) := ⟨_, rfl⟩
      have b3 : But (Only b) wk w3 := by rw [hw3]; exact (But.refl (Only b) wk).cellb (b := b) rfl 0 _
      have bw : But (Only b) w w3 := (But.of_below bm).trans b3
      obtain ⟨ρ', hρ'⟩ : ∃ ρ' : Nat → Nat × Nat, ρ' = fun g => if g < w.heap.size then ρ g else if τ g = 2 then (b, 3) else (0, 9) := ⟨_, rfl⟩
      have e1 : ∀ g, g < w.heap.size → ρ' g = ρ g := fun g hg => by rw [hρ']; exact if_pos hg
      have e2 : ∀ g, w.heap.size ≤ g → τ g = 2 → ρ' g = (b, 3) := fun g hg h2 => by rw [hρ']; show (if _ then _ else _) = _; rw [if_neg (by omega), if_pos h2]
      have e3 : ∀ g, w.heap.size ≤ g → τ g = 1 → ρ' g = (0, 9) := fun g hg h2 => by rw [hρ']; show (if _ then _ else _) = _; rw [if_neg (by omega), if_neg (by omega)]
      have FIN : Hid ((∀ g, g < w.heap.size → ρ' g = ρ g) ∧ RowN (fun g => w.heap.size ≤ g ∧ ρ' g = (0, 9)) w3 (.slice ga gn gc) (gbf (G.filter (oldG now))) ∧ FrAt ρ' w3 b (G.filter (youngG now)) ∧ But (Only b) w w3) := by
        refine ⟨e1, (rN.but b3 (fun g e e2 => by have e2 : g = b := e2; have := e.2; omega)).own (fun g _ e => ⟨e.2, e3 g e.2 e.1⟩), ?_, bw⟩
        refine (HH.out.rerole e1).relist (bw.mono (fun g e => .inl e)) (List.filter_sublist (l := G)) ⟨_, by rw [hw3]; exact World.cell?_setCell_same _ _ _ cv, ?_⟩ (by rw [hw3, World.frozen?_setCell]; exact fv)
        exact (rF.but b3 (fun g e e2 => by have e2 : g = b := e2; have := e.2; omega)).own (fun g _ e => e2 g e.2 e.1)
      have hw3' := hw3.symm
      clear rN rF bm HM ei b3 bw hρ' e1 e2 e3 hw3
      go_wp2
      go_ret
      exact ⟨_, rfl, ρ', FIN.out⟩
end Go.Proofs.Ytgempelfamjabaa
