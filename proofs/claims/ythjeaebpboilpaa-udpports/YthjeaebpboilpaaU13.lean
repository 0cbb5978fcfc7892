
/-
  UdpFree: the walk.
-/
import Derived.Test.YthjeaebpboilpaaU12
import Derived.Test.YthjeaebpboilpaaA1
namespace Go.Proofs.Ythjeaebpboilpaa
open Go.RowKit Go.Shelf
open Go.ChangeMaps (setBlock)

structure OpU where
  kind : Int
  who : Int
  port : Int
/-- the slice v holds these calls, all of it below n₀ -/
def IsO (n₀ : Nat) (W : World) (v : Value) (l : List OpU) : Prop :=
  ∃ a cap, v = .slice a l.length cap ∧ (0 < l.length → ∃ g off, a = some ⟨g, off, none⟩ ∧ g < n₀ ∧ ∀ (i : Nat) o, l[i]? = some o → CellsAt W g (off + i * 3) [.int .i64 o.kind, .int .i64 o.who, .int .i64 o.port])
section
variable {w : World} {ops : Array Oper} {rest : List Oper} {o : Oper} {a : Act} {Q : Exit → Act → World → Prop}
theorem wpList_appI (hgd : o.guard = none) (s x : Operand) (hop : o.op = Op.call { callee := Callee.builtin Builtin.append, args := #[s, x], argTypes := #[55, 55] }) (hty : o.type = 55) (v u : Value) (hs : a.eval s = v) (hx : a.eval x = u) {v' : Value} {w' : World}
    (hr : (Builtin.append_ #[55, 55] 55 #[v, u]).run Try.prog w = .ok v' w') (h : wpList Try.prog ops Q rest (a.put o.dst v') w') : wpList Try.prog ops Q (o :: rest) a w := by
  refine wpList_plain hgd fun K hK => ?_
  unfold Oper.wp
  simp only [execOp, hop, hty]
  simp [resolve, invoke, builtin, hs, hx, hr, Result.andThen]
  exact hK _ _ h
end
/-- a row of the k-th kind -/
def Rw (b : Nat) (ρ : Nat → Nat) (k : Nat) (W : World) (v : Value) (L : List Int) : Prop := RowN (fun g => b + 1 < g ∧ ρ g = k) W v L
def upR (ρ : Nat → Nat) (n k : Nat) : Nat → Nat := fun g => if g < n then ρ g else k
theorem Rw.nil (b : Nat) (ρ : Nat → Nat) (k : Nat) (W : World) : Rw b ρ k W (.slice none 0 0) [] := RowN.nil _ _
theorem Rw.but {b : Nat} {ρ : Nat → Nat} {k : Nat} {W W' : World} {v : Value} {L : List Int} (h : Rw b ρ k W v L) (hb : But (PoK b) W W') : Rw b ρ k W' v L :=
  RowN.but h hb (fun g hg e => by have hg : b + 1 < g ∧ ρ g = k := hg; rcases e with e | e <;> omega)
theorem Rw.push {b : Nat} {ρ : Nat → Nat} {k : Nat} {W : World} {a : Option Addr} {n c : Nat} {L : List Int} (h : Rw b ρ k W (.slice a n c) L) (hn : n = L.length) (hb : b + 1 < W.heap.size) (x : Int) (hl : L.length ≤ 100000) :
    ∃ a' c' w2, (Builtin.append_ #[55, 55] 55 #[.slice a n c, .slice (some ⟨W.heap.size, 0, none⟩) 1 1]).run Try.prog (W.alloc (.cells #[.int .i64 x] 3)) = .ok (.slice a' (n + 1) c') w2 ∧ Rw b (upR ρ W.heap.size k) k w2 (.slice a' (n + 1) c') (L ++ [x]) ∧ (∀ j v M, j ≠ k → Rw b ρ j W v M → Rw b (upR ρ W.heap.size k) j w2 v M) ∧ But (fun g => b + 1 < g) W w2 := by
  obtain ⟨a', c', w2, h1, h2, h3⟩ := RowN.push h x (by omega)
  refine ⟨a', c', w2, by rw [hn]; rw [hn] at h1; exact h1, ?_, fun j v M hj hM => ?_, h3.mono (fun g e => e.1)⟩
  · rw [hn]
    refine RowN.own h2 (fun g hg e => ?_)
    rcases e with e | e
    · by_cases hg2 : g < W.heap.size
      · exact ⟨e.1, by unfold upR; rw [if_pos hg2]; exact e.2⟩
      · exact ⟨e.1, by unfold upR; rw [if_neg hg2]⟩
    · exact ⟨by omega, by unfold upR; rw [if_neg (by omega)]⟩
  · have hM2 : Rw b (upR ρ W.heap.size k) j W v M := RowN.own hM (fun g hg e => ⟨e.1, by unfold upR; rw [if_pos hg]; exact e.2⟩)
    refine RowN.but hM2 h3 (fun g e e' => ?_)
    have e2 : upR ρ W.heap.size k g = j := e.2
    have e3 : ρ g = k := e'.2
    unfold upR at e2
    split at e2 <;> omega
/-- a row takes another one's place -/
theorem Rw.turn {b : Nat} {ρ ρ' : Nat → Nat} {k k' : Nat} {W : World} {v : Value} {L : List Int} (h : Rw b ρ k W v L) (hr : ∀ g, ρ g = k → ρ' g = k') : Rw b ρ' k' W v L :=
  RowN.own h (fun g _ e => ⟨e.1, hr g e.2⟩)

theorem full_len {L : List Po} (h : ∀ q : Int, 49152 ≤ q → q ≤ 65535 → otk q L = true) : 16384 ≤ L.length := by
  have nd : ((List.range 16384).map (fun k : Nat => (49152 + k : Int))).Nodup := by
    unfold List.Nodup
    rw [List.pairwise_map]
    exact List.nodup_range.imp (fun {a b} hab e => hab (by omega))
  have := List.Nodup.length_le_of_subset nd (l₂ := L.map (·.n)) (fun x hx => by
    obtain ⟨k, hk, rfl⟩ := List.mem_map.1 hx
    have hk' : k < 16384 := List.mem_range.1 hk
    have ht := h (49152 + k) (by omega) (by omega)
    unfold otk at ht
    cases hf : ofd (49152 + k : Int) L with
    | none => rw [hf] at ht; cases ht
    | some p =>
      obtain ⟨h1, h2⟩ := ofd_some (i := p.1) (r := p.2) hf
      exact List.mem_map.2 ⟨p.2, List.mem_of_getElem? h1, h2⟩)
  simpa using this
theorem bnd0 {nx : Int} {L : List Po} {ck : Nat} {who r err : Int} {L' : List Po} {ck' : Nat} {nx' : Int} (h : Bnd nx L ck who 0 r err L' ck' nx') (hw : 0 ≤ who) (hl : L.length ≤ 300) (n0 : 49152 ≤ nx) (n1 : nx ≤ 65535) : err = 0 ∧ 49152 ≤ r ∧ r ≤ 65535 ∧ otk r L = false ∧ L' = L ++ [⟨r, who, ck⟩] ∧ ck' = ck + 1 ∧ 49152 ≤ nx' ∧ nx' ≤ 65535 := by
  rcases h with h | h | h | h | h
  · rcases h.1 with h1 | h1
    · exact absurd rfl h1.1
    · omega
  · rcases h.2.2.2.1 with f | f | f
    · have := full_len f.2; omega
    · omega
    · omega
  · obtain ⟨_, _, h3, h4, h5, h6, h7, h8⟩ := h
    have hb := h4.bd h3 n0 n1
    refine ⟨h5, hb.1, hb.2.1, hb.2.2, h6, h7, ?_, ?_⟩
    · rw [h8]; unfold nxt; split <;> omega
    · rw [h8]; unfold nxt; split <;> omega
  · exact absurd rfl h.1
  · exact absurd rfl h.1
theorem ofd_of {L : List Po} (hn : (L.map (·.n)).Nodup) {r : Po} (hr : r ∈ L) : ∃ i, ofd r.n L = some (i, r) := by
  obtain ⟨i, q, h⟩ := ofd_mem hr
  obtain ⟨h1, h2⟩ := ofd_some h
  have := nod_eq hn (List.mem_of_getElem? h1) hr h2
  subst this
  exact ⟨i, h⟩
/-- who has a port when somebody's were given back -/
theorem who_left {L : List Po} {ck : Nat} (h : OOk L ck) (who : Int) {r : Po} (hr : r ∈ L) : (r.who = who → otk r.n (L.filter (fun e => !(e.who == who))) = false) ∧ (r.who ≠ who → otk r.n (L.filter (fun e => !(e.who == who))) = true ∧ owh r.n (L.filter (fun e => !(e.who == who))) = r.who) := by
  constructor
  · intro e
    have : ofd r.n (L.filter (fun e => !(e.who == who))) = none := ofd_not (fun q hq e2 => by
      obtain ⟨q1, q2⟩ := List.mem_filter.1 hq
      have := nod_eq h.n q1 hr e2
      subst this
      simp [e] at q2)
    unfold otk
    rw [this]
    rfl
  · intro e
    obtain ⟨i, hi⟩ := ofd_of (h.filter (fun e => !(e.who == who))).n (r := r) (List.mem_filter.2 ⟨hr, by simp [e]⟩)
    unfold otk owh
    rw [hi]
    exact ⟨rfl, rfl⟩
/-- all of the law's memory -/
structure UfM (w : World) (b : Nat) (L : List Po) (ck : Nat) (nx : Int) (ρ : Nat → Nat) (pv sv : Value) (W : World) : Prop where
  p : PoAt W b L ck nx
  ok : OOk L ck
  n0 : 49152 ≤ nx
  n1 : nx ≤ 65535
  r1 : Rw b ρ 1 W pv (L.map (·.n))
  r2 : Rw b ρ 2 W sv (L.map (·.who))
  bel : Below w.heap.size w W
  lo : w.heap.size ≤ b
theorem below_po {w W W' : World} {b : Nat} (h : Below w.heap.size w W) (hlo : w.heap.size ≤ b) (hb : But (PoK b) W W') : Below w.heap.size w W' :=
  h.trans (hb.below h.size (fun g hg e => by rcases e with e | e <;> omega))
theorem below_row {w W W' : World} {b : Nat} (h : Below w.heap.size w W) (hlo : w.heap.size ≤ b) (hb : But (fun g => b + 1 < g) W W') : Below w.heap.size w W' :=
  h.trans (hb.below h.size (fun g hg e => by have e : b + 1 < g := e; omega))
theorem PoAt.row {W W' : World} {b : Nat} {L : List Po} {ck : Nat} {nx : Int} (h : PoAt W b L ck nx) (hb : But (fun g => b + 1 < g) W W') : PoAt W' b L ck nx :=
  h.but hb (fun g e e' => by have e' : b + 1 < g := e'; rcases e with e | e <;> omega)
theorem take_more {α : Type} {L : List α} {k : Nat} {r : α} (h : L[k]? = some r) : L.take (k + 1) = L.take k ++ [r] := by
  rw [List.take_add_one, h]
  rfl
set_option maxRecDepth 100000 in
set_option maxHeartbeats 16000000 in
theorem uFree_walk (lv : Value) (l : List OpU) (w : World) (hl : IsO w.heap.size w lv l) (_ : l.length ≤ 8796093021952) :
    Calls Try.prog 7 #[lv] w fun e w' => e = .returned (.bool true) ∧ Below w.heap.size w w' := by
  obtain ⟨la, lc, rfl, hlc⟩ := hl
  obtain ⟨n, hn⟩ : ∃ n, n = l.length := ⟨_, rfl⟩
  rw [← hn] at hlc ⊢
  have HLC := hide hlc
  have HN := hide hn
  clear hlc hn
  go_enter Try.func7, Try.ntmps7
  go_wp2_with fail
  refine (uAwake_any w).mono ?_
  rintro _ w2 ⟨rfl, b2⟩
  have HB2 := hide b2
  clear b2
  have NB := hide (uNew_any w2)
  obtain ⟨b, hb⟩ : ∃ b, b = w2.heap.size := ⟨_, rfl⟩
  rw [← hb] at NB
  have KLO : Hid (w.heap.size ≤ b) := by rw [hb]; exact HB2.out.size
  go_wp2_with fail
  refine NB.out.mono ?_
  rintro _ w3 ⟨rfl, K3, b3'⟩
  have b3 : Below w2.heap.size w2 w3 := by rw [← hb]; exact b3'
  have BEL3 := hide (later HB2.out b3)
  by_cases g3 : (300 : Int) < (n : Int)
  · clear K3 b3 b3' NB hb
    go_wp2
    go_ret
    exact ⟨rfl, BEL3.out⟩
  have M3 : Hid (UfM w b [] 0 49152 (fun _ => 0) (.slice none 0 0) (.slice none 0 0) w3) :=
    ⟨K3, OOk.nil 0, Int.le_refl _, by decide, Rw.nil _ _ _ _, Rw.nil _ _ _ _, BEL3.out, KLO.out⟩
  clear K3 b3 b3' NB HB2 hb BEL3
  go_wp2
  go_loopw [5, 6, 7] (fun v5 v6 v7 wr => ∃ (i : Nat) (L : List Po) (ck : Nat) (nx : Int) (ρ : Nat → Nat) (pa sa : Option Addr) (pn pc sc : Nat), v5 = .slice pa pn pc ∧ v6 = .slice sa pn sc ∧ v7 = .int .i64 (i : Int) ∧ i ≤ n ∧ pn ≤ i ∧ Hid (pn = L.length) ∧ Hid (UfM w b L ck nx ρ (.slice pa pn pc) (.slice sa pn sc) wr)) (fun _ _ v7 _ => n - (intOf v7).toNat)
  case atStart => exact ⟨0, [], 0, 49152, _, none, none, 0, 0, 0, rfl, rfl, rfl, Nat.zero_le _, Nat.le_refl _, rfl, M3.out⟩
  case round =>
    obtain ⟨i, L, ck, nx, ρ, pa, sa, pn, pc, sc, rfl, rfl, rfl, hi, hpi, EL, MI⟩ := hrel
    obtain ⟨wp, hwp⟩ : ∃ wp, wp = wr := ⟨_, rfl⟩
    rw [← hwp] at MI ⊢
    clear hwp M3
    by_cases hlt : i < n
    · obtain ⟨lg, off, rfl, hg, hcs⟩ := HLC.out (by omega)
      obtain ⟨o, ho⟩ : ∃ o, l[i]? = some o := ⟨_, List.getElem?_eq_getElem (by rw [← HN.out]; exact hlt)⟩
      obtain ⟨kd, wt, pt⟩ := o
      have co := (hcs i _ ho).later hg MI.out.bel
      have k0 : wp.cell? ⟨lg, off + i * 3, none⟩ = some (.int .i64 kd) := co 0 _ rfl
      have k1 : wp.cell? ⟨lg, off + i * 3 + 1, none⟩ = some (.int .i64 wt) := co 1 _ rfl
      obtain ⟨d, hd⟩ : ∃ d, d = wt.tmod 5 := ⟨_, rfl⟩
      have d0 : -4 ≤ d ∧ d ≤ 4 := by
        have h1 := Int.tmod_lt_of_pos wt (show (0 : Int) < 5 by decide)
        have h2 := Int.lt_tmod_of_pos wt (show (0 : Int) < 5 by decide)
        omega
      obtain ⟨d1, d2⟩ := d0
      have hd' := hd.symm
      obtain ⟨who, hwho⟩ : ∃ who, who = (d + 5).tmod 5 := ⟨_, rfl⟩
      have w0 : 0 ≤ who := by rw [hwho, Int.tmod_eq_emod_of_nonneg (by omega)]; omega
      have hwho' := hwho.symm
      have iz : (i : Int) < (n : Int) := by omega
      have HN0 := hide MI.out.n0
      have HN1 := hide MI.out.n1
      clear hd hwho hcs ho co
      by_cases ek : kd = 1
      · have FR := hide (uFree_any MI.out.p MI.out.ok who)
        go_wp2_with fail
        clear k0 k1 hd' hwho' ek
        refine FR.out.mono ?_
        rintro _ w5 ⟨rfl, P5, bo5⟩
        have WL := hide (fun r (hr : r ∈ L) => who_left MI.out.ok who hr)
        have BEL5 := hide (below_po MI.out.bel MI.out.lo bo5)
        have R1 := hide (MI.out.r1.but bo5)
        have R2 := hide (MI.out.r2.but bo5)
        obtain ⟨L', hL'⟩ : ∃ L', L' = L.filter (fun e => !(e.who == who)) := ⟨_, rfl⟩
        rw [← hL'] at P5 WL
        have PH := hide P5
        have HL' := hide hL'
        have OK' : Hid (OOk L' ck) := by rw [hL']; exact MI.out.ok.filter _
        have LO := hide MI.out.lo
        clear FR P5 bo5 hL' MI
        go_wp2
        go_loopw [9, 10, 11] (fun v9 v10 v11 wr => ∃ (k : Nat) (ρ : Nat → Nat) (aa ba : Option Addr) (an ac bc : Nat), v9 = .slice aa an ac ∧ v10 = .slice ba an bc ∧ v11 = .int .i64 (k : Int) ∧ k ≤ pn ∧ an ≤ k ∧ Hid (an = ((L.take k).filter (fun e => !(e.who == who))).length) ∧ Hid (PoAt wr b L' ck nx) ∧ Hid (Below w.heap.size w wr) ∧ Hid (Rw b ρ 1 wr (.slice pa pn pc) (L.map (·.n))) ∧ Hid (Rw b ρ 2 wr (.slice sa pn sc) (L.map (·.who))) ∧ Hid (Rw b ρ 3 wr (.slice aa an ac) (((L.take k).filter (fun e => !(e.who == who))).map (·.n))) ∧ Hid (Rw b ρ 4 wr (.slice ba an bc) (((L.take k).filter (fun e => !(e.who == who))).map (·.who)))) (fun _ _ v11 _ => pn - (intOf v11).toNat)
        case atStart => exact ⟨0, ρ, none, none, 0, 0, 0, rfl, rfl, rfl, Nat.zero_le _, Nat.le_refl _, rfl, PH.out, BEL5.out, R1.out, R2.out, Rw.nil _ _ _ _, Rw.nil _ _ _ _⟩
        case round =>
          obtain ⟨k, ρ, aa, ba, an, ac, bc, rfl, rfl, rfl, hk, hak, EA, PI, BI, Q1, Q2, Q3, Q4⟩ := hrel
          obtain ⟨wk, hwk⟩ : ∃ wk, wk = wr := ⟨_, rfl⟩
          rw [← hwk] at PI BI Q1 Q2 Q3 Q4 ⊢
          clear hwk R1 R2 PH BEL5
          by_cases hkl : k < pn
          · obtain ⟨r, hr⟩ : ∃ r, L[k]? = some r := ⟨_, List.getElem?_eq_getElem (by rw [← EL.out]; exact hkl)⟩
            obtain ⟨pg, po, rfl, hpg, _, hpc⟩ := RowN.at Q1.out (by rw [List.length_map, ← EL.out]; omega)
            obtain ⟨sg, so, rfl, hsg, _, hsc⟩ := RowN.at Q2.out (by rw [List.length_map, ← EL.out]; omega)
            have cp : wk.cell? ⟨pg, po + k, none⟩ = some (.int .i64 r.n) := hpc k _ (by rw [List.getElem?_map, hr]; rfl)
            have cs : wk.cell? ⟨sg, so + k, none⟩ = some (.int .i64 r.who) := hsc k _ (by rw [List.getElem?_map, hr]; rfl)
            have WR := WL.out r (List.mem_of_getElem? hr)
            have TK := take_more hr
            have kz : (k : Int) < (pn : Int) := by omega
            obtain ⟨rn, hrn⟩ : ∃ rn, rn = r.n := ⟨_, rfl⟩
            obtain ⟨rw', hrw⟩ : ∃ rw', rw' = r.who := ⟨_, rfl⟩
            rw [← hrn] at cp
            rw [← hrw] at cs
            have WH := hide (uWho_any PI.out rn)
            by_cases e : rw' = who
            · have t0 : otk rn L' = false := by rw [hrn]; exact WR.1 (by rw [← hrw]; exact e)
              obtain ⟨q, hq⟩ : ∃ q, q = owh rn L' := ⟨_, rfl⟩
              rw [t0, ← hq] at WH
              have KE : Hid ((L.take (k + 1)).filter (fun e => !(e.who == who)) = (L.take k).filter (fun e => !(e.who == who))) := by
                rw [TK, List.filter_append, List.filter_cons, if_neg (by rw [← hrw, e]; simp), List.filter_nil, List.append_nil]
                exact rfl
              subst e
              clear hr hpc hsc WR TK hrn hrw t0 hq
              go_wp2_with fail
              refine WH.out.mono ?_
              rintro _ wx ⟨rfl, hw⟩
              rw [hw]
              clear hw wx WH
              go_wp2
              go_roundw
              case rel => exact ⟨k + 1, ρ, aa, ba, an, ac, bc, rfl, rfl, by go_num, by omega, by omega, by rw [KE.out]; exact EA.out, PI.out, BI.out, Q1.out, Q2.out, by rw [KE.out]; exact Q3.out, by rw [KE.out]; exact Q4.out⟩
              case measure => simp [intOf]; omega
            · obtain ⟨t1, t2⟩ := WR.2 (by rw [← hrw]; exact e)
              rw [← hrn] at t1
              rw [← hrn, ← hrw] at t2
              rw [t1, t2] at WH
              have KE : Hid ((L.take (k + 1)).filter (fun e => !(e.who == who)) = (L.take k).filter (fun e => !(e.who == who)) ++ [r]) := by
                rw [TK, List.filter_append, List.filter_cons, if_pos (by rw [← hrw]; simp [e]), List.filter_nil]
                exact rfl
              obtain ⟨a7, c7, w7, run7, row7, oth7, bo7⟩ := Rw.push Q3.out (by rw [List.length_map]; exact EA.out) PI.out.lt rn (by rw [List.length_map, ← EA.out]; omega)
              have P7 := hide (PI.out.row bo7)
              have BEL7 := hide (below_row BI.out LO.out bo7)
              have Y1 := hide (oth7 1 _ _ (by decide) Q1.out)
              have Y2 := hide (oth7 2 _ _ (by decide) Q2.out)
              have Y4 := hide (oth7 4 _ _ (by decide) Q4.out)
              have c7s : w7.cell? ⟨sg, so + k, none⟩ = some (.int .i64 rw') := by
                obtain ⟨g', o', e1, _, _, hc⟩ := RowN.at Y2.out (by rw [List.length_map, ← EL.out]; omega)
                cases e1
                exact hc k _ (by rw [List.getElem?_map, hr, hrw]; rfl)
              obtain ⟨a8, c8, w8, run8, row8, oth8, bo8⟩ := Rw.push Y4.out (by rw [List.length_map]; exact EA.out) P7.out.lt rw' (by rw [List.length_map, ← EA.out]; omega)
              have P8 := hide (P7.out.row bo8)
              have BEL8 := hide (below_row BEL7.out LO.out bo8)
              have Z1 := hide (oth8 1 _ _ (by decide) Y1.out)
              have Z2 := hide (oth8 2 _ _ (by decide) Y2.out)
              have Z3 : Hid (Rw b (upR (upR ρ wk.heap.size 3) w7.heap.size 4) 3 w8 (.slice a7 (an + 1) c7) (((L.take (k + 1)).filter (fun e => !(e.who == who))).map (·.n))) := by
                rw [KE.out, List.map_append, List.map_cons, List.map_nil, ← hrn]; exact oth8 3 _ _ (by decide) row7
              have Z4 : Hid (Rw b (upR (upR ρ wk.heap.size 3) w7.heap.size 4) 4 w8 (.slice a8 (an + 1) c8) (((L.take (k + 1)).filter (fun e => !(e.who == who))).map (·.who))) := by
                rw [KE.out, List.map_append, List.map_cons, List.map_nil, ← hrw]; exact row8
              have RUN7 := hide run7
              have RUN8 := hide run8
              have EA2 : Hid (an + 1 = ((L.take (k + 1)).filter (fun e => !(e.who == who))).length) := by
                rw [KE.out, List.length_append, ← EA.out]; rfl
              clear hr hpc hsc WR TK hrn hrw t1 t2 run7 row7 oth7 bo7 run8 row8 oth8 bo8 KE Y1 Y2 Y4 P7 BEL7
              go_wp2_with fail
              refine WH.out.mono ?_
              rintro _ wx ⟨rfl, hw⟩
              rw [hw]
              clear hw wx WH
              have z1 : (rw' != who) = true := by simp [e]
              have z2 : (rw' == who) = false := by simp [e]
              go_upto_region 22 with fail
              clear z1 z2
              go_upto_region 23 with (at_builtin; refine wpList_appI rfl _ _ rfl rfl _ _ rfl rfl RUN7.out ?_)
              clear cp cs
              go_upto_region 17 with (at_builtin; refine wpList_appI rfl _ _ rfl rfl _ _ rfl rfl RUN8.out ?_)
              clear c7s
              go_wp2
              go_roundw
              case rel => exact ⟨k + 1, _, a7, a8, an + 1, c7, c8, rfl, rfl, by go_num, by omega, by omega, EA2.out, P8.out, BEL8.out, Z1.out, Z2.out, Z3.out, Z4.out⟩
              case measure => simp [intOf]; omega
          · have ekn : k = pn := by omega
            have TL : Hid (((L.take k).filter (fun e => !(e.who == who))) = L') := by rw [ekn, EL.out, List.take_length]; exact HL'.out.symm
            have M9 : Hid (UfM w b L' ck nx (fun g => if ρ g = 3 then 1 else if ρ g = 4 then 2 else 0) (.slice aa an ac) (.slice ba an bc) wk) := by
              have q3 := Q3.out
              have q4 := Q4.out
              rw [TL.out] at q3 q4
              exact ⟨PI.out, OK'.out, HN0.out, HN1.out, q3.turn (fun g e => by simp [e]), q4.turn (fun g e => by simp [e]), BI.out, LO.out⟩
            have EA2 : Hid (an = L'.length) := by rw [← TL.out]; exact EA.out
            have kz : ¬ (k : Int) < (pn : Int) := by omega
            clear Q1 Q2 Q3 Q4 PI BI TL EA
            go_wp2
            go_roundw
            case rel => exact ⟨i + 1, L', ck, nx, _, aa, ba, an, ac, bc, rfl, rfl, by go_num, by omega, by omega, EA2.out, M9.out⟩
            case measure => simp [intOf]; omega
      · have BD := hide (uBind_any MI.out.p MI.out.n0 MI.out.n1 who 0)
        go_wp2_with fail
        clear k0 k1 hd' hwho' ek
        refine BD.out.mono ?_
        rintro _ w5 ⟨r, err, L2, ck2, nx2, rfl, hbd, P5, bo5⟩
        obtain ⟨rfl, m0, m1, m2, m3, rfl, m5, m6⟩ := bnd0 hbd w0 (by rw [← EL.out]; omega) MI.out.n0 MI.out.n1
        subst m3
        have NO : Hid (∀ q ∈ L, q.n ≠ r) := ofd_none (otk_none m2)
        have OK2 := hide (MI.out.ok.push (who := who) m2)
        have BEL5 := hide (below_po MI.out.bel MI.out.lo bo5)
        have R1 := hide (MI.out.r1.but bo5)
        have R2 := hide (MI.out.r2.but bo5)
        have LO := hide MI.out.lo
        have PH := hide P5
        have HM5 := hide m5
        have HM6 := hide m6
        clear BD hbd P5 bo5 m2 m5 m6 MI
        go_wp2
        go_loopw [16] (fun v16 wr => ∃ (k : Nat), v16 = .int .i64 (k : Int) ∧ k ≤ pn ∧ w5 = wr) (fun v16 _ => pn - (intOf v16).toNat)
        case atStart => exact ⟨0, rfl, Nat.zero_le _, rfl⟩
        case round =>
          obtain ⟨k, rfl, hk, hwk⟩ := hrel
          rw [← hwk]
          clear hwk
          by_cases hkl : k < pn
          · obtain ⟨q, hq⟩ : ∃ q, L[k]? = some q := ⟨_, List.getElem?_eq_getElem (by rw [← EL.out]; exact hkl)⟩
            obtain ⟨pg, po, rfl, hpg, _, hpc⟩ := RowN.at R1.out (by rw [List.length_map, ← EL.out]; omega)
            have cp : w5.cell? ⟨pg, po + k, none⟩ = some (.int .i64 q.n) := hpc k _ (by rw [List.getElem?_map, hq]; rfl)
            have qn := NO.out q (List.mem_of_getElem? hq)
            obtain ⟨u, hu⟩ : ∃ u, u = q.n := ⟨_, rfl⟩
            rw [← hu] at cp qn
            have kz : (k : Int) < (pn : Int) := by omega
            clear hq hpc hu
            go_wp2
            go_roundw
            case rel => exact ⟨k + 1, by go_num, by omega, trivial⟩
            case measure => simp [intOf]; omega
          · obtain ⟨a7, c7, w7, run7, row7, oth7, bo7⟩ := Rw.push R1.out (by rw [List.length_map]; exact EL.out) PH.out.lt r (by rw [List.length_map, ← EL.out]; omega)
            have P7 := hide (PH.out.row bo7)
            have BEL7 := hide (below_row BEL5.out LO.out bo7)
            have Y2 := hide (oth7 2 _ _ (by decide) R2.out)
            obtain ⟨a8, c8, w8, run8, row8, oth8, bo8⟩ := Rw.push Y2.out (by rw [List.length_map]; exact EL.out) P7.out.lt who (by rw [List.length_map, ← EL.out]; omega)
            have M8 : Hid (UfM w b (L ++ [⟨r, who, ck⟩]) (ck + 1) nx2 (upR (upR ρ w5.heap.size 1) w7.heap.size 2) (.slice a7 (pn + 1) c7) (.slice a8 (pn + 1) c8) w8) :=
              ⟨P7.out.row bo8, OK2.out, HM5.out, HM6.out, by rw [List.map_append, List.map_cons, List.map_nil]; exact oth8 1 _ _ (by decide) row7, by rw [List.map_append, List.map_cons, List.map_nil]; exact row8, below_row BEL7.out LO.out bo8, LO.out⟩
            have RUN7 := hide run7
            have RUN8 := hide run8
            have EL2 : Hid (pn + 1 = (L ++ [(⟨r, who, ck⟩ : Po)]).length) := by rw [List.length_append, ← EL.out]; rfl
            have kz : ¬ (k : Int) < (pn : Int) := by omega
            clear run7 row7 oth7 bo7 run8 row8 oth8 bo8 P7 BEL7 Y2
            go_upto_region 34 with fail
            go_upto_region 35 with (at_builtin; refine wpList_appI rfl _ _ rfl rfl _ _ rfl rfl RUN7.out ?_)
            go_upto_region 9 with (at_builtin; refine wpList_appI rfl _ _ rfl rfl _ _ rfl rfl RUN8.out ?_)
            go_wp2
            go_roundw
            case rel => exact ⟨i + 1, _, _, nx2, _, a7, a8, pn + 1, c7, c8, rfl, rfl, by go_num, by omega, by omega, EL2.out, M8.out⟩
            case measure => simp [intOf]; omega
    · have iz : ¬ (i : Int) < (n : Int) := by omega
      have BEL := hide MI.out.bel
      clear MI
      go_wp2
      go_ret
      exact ⟨rfl, BEL.out⟩
end Go.Proofs.Ythjeaebpboilpaa
