
/-
  The document's answer for the wire: Pull, Double.
-/
import Derived.Test.YtghojbgjmpjhgaaV2
namespace Go.Proofs.Ytghojbgjmpjhgaa
open Go.RowKit

theorem RLst.push {ρ : Nat → Nat} {w w' : World} {i g' c' : Nat} {v : Value} {l : List (Value × Frm)} {p : Value × Frm} (h : RLst ρ w i v l) (hG : IsF (Mine ρ) w p.1 p.2.bs) (hr : w'.ownsRow 0 48 3 (.slice (some ⟨g', 0, none⟩) (l.length + 1) c') (l.length + 1) (flat l ++ cel p)) (hb : But (fun k => v.ownBlock = some k) w w') (hg : v.ownBlock = some g' ∨ w.heap.size ≤ g') :
    RLst (upd ρ g' (15 + i)) w' i (.slice (some ⟨g', 0, none⟩) (l.length + 1) c') (l ++ [p]) ∧ ∀ g, g < w.heap.size → upd ρ g' (15 + i) g = ρ g := by
  have ext : ∀ g, g < w.heap.size → upd ρ g' (15 + i) g = ρ g := fun g hlt => by
    by_cases e : g = g'
    · subst e
      rw [upd_same]
      rcases hg with hg | hg
      · exact (h.role g hg).symm
      · omega
    · exact upd_other _ _ _ _ e
  refine ⟨⟨?_, fun k e => ?_, fun q hq => ?_⟩, ext⟩
  · unfold Row3
    rw [List.length_append, flat_append]
    exact hr
  · have e : some g' = some k := e
    cases e
    exact upd_same _ _ _
  · have hq' : IsF (Mine ρ) w q.1 q.2.bs := by
      rcases List.mem_append.1 hq with hq | hq
      · exact h.fr q hq
      · rw [List.mem_singleton] at hq; subst hq; exact hG
    exact hq'.ext hb (fun g e => by rw [h.role g e]; omega) ext

theorem rpush_run {ρ : Nat → Nat} {w : World} {b : Nat} {dv : Nat → Nat} {ck : Int} {L : Nat → List (Value × Frm)} {D : Nat → Dev} (h : RNet ρ w b dv ck L D) (i : Nat) (hi : i < 2) (v : Value) (hv : w.cell? ⟨b, 2 + i, none⟩ = some v) (p : Value × Frm) (hG : IsF (Mine ρ) w p.1 p.2.bs) (hpl : p.2.bs.length ≤ 274)
    (hl : (L i).length ≤ 2513169434843) (s : Nat) (ht : T3 w s p.1 (.bool p.2.bad) (.int .i64 p.2.tick)) :
    ∃ g' c' w', (Builtin.append_ #[56, 56] 56 #[v, .slice (some ⟨s, 0, none⟩) 1 1]).run Try.prog w = .ok (.slice (some ⟨g', 0, none⟩) ((L i).length + 1) c') w' ∧ w'.cell? ⟨b, 2 + i, none⟩ = some v ∧ w'.frozen? ⟨b, 2 + i, none⟩ = false ∧
      RDid ρ w (w'.setCell ⟨b, 2 + i, none⟩ (.slice (some ⟨g', 0, none⟩) ((L i).length + 1) c')) b dv ck (upd L i (L i ++ [p])) D := by
  obtain ⟨v', hv', hL⟩ := h.ls i hi
  rw [hv] at hv'
  cases hv'
  obtain ⟨inf, hin, hz0, hz1, hz2⟩ := info_parts info_ow
  obtain ⟨g', c', w', hrun, hrow, hb, hg, _, hlt⟩ := run_more 56 48 inf (.agg #[.slice none 0 0, .bool false, .int .i64 0]) 3 40 Try.underlying56 hin hz0 hz1 hz2 rfl (by omega) hL.row ⟨s, 0, none⟩ 1 1 (cel p) rfl (fun j u hu => by
      have hj : j < 3 := (List.getElem?_eq_some_iff.1 hu).1
      rw [Addr.add_lit]
      have : j = 0 ∨ j = 1 ∨ j = 2 := by omega
      rcases this with rfl | rfl | rfl
      · rw [← hu]; exact ht.c0
      · rw [← hu]; exact ht.c1
      · rw [← hu]; exact ht.c2) (fun u hu => by
      simp only [cel, List.mem_cons, List.not_mem_nil, or_false] at hu
      rcases hu with rfl | rfl | rfl
      · exact hG.one
      · rfl
      · rfl) (by omega) (Nat.zero_le _) (by unfold maxLen; omega) (by omega)
  obtain ⟨hL', hext⟩ := hL.push hG hrow hb hg
  have nb : ¬ v.ownBlock = some b := fun e => by have := hL.role b e; have := h.rb; omega
  refine ⟨g', c', w', hrun, (hb.cell (p := ⟨b, 2 + i, none⟩) h.blt nb).trans hv, (hb.frozen (p := ⟨b, 2 + i, none⟩) h.blt nb).trans (h.fz _), upd ρ g' (15 + i), ?_, hext, ?_⟩
  · refine h.put i hi (hb.mono (fun x e => hL.role x e)) hext (fun g e => ?_) hL' (fun q hq => ?_)
    · by_cases eg : g = g'
      · rw [eg]; exact hlt
      · rw [upd_other _ _ _ _ eg] at e
        exact Nat.lt_of_lt_of_le (h.lt g e) hb.size
    · rcases List.mem_append.1 hq with hq | hq
      · exact h.fl i hi q hq
      · rw [List.mem_singleton] at hq; subst hq; exact hpl
  · exact (hb.mono (fun x e => by unfold RRo; rw [hL.role x e]; omega)).setCell (p := ⟨b, 2 + i, none⟩) (.inr (by unfold RRo; simp only; rw [h.rb]; omega)) _

section
variable {ρ : Nat → Nat} {w : World} {b : Nat} {dv : Nat → Nat} {ck : Int} {L : Nat → List (Value × Frm)} {D : Nat → Dev}
theorem dir_q (i : Nat) (hi : i < 2) : ((i : Int) != 0) = false ∨ ((i : Int) != 0) = true ∧ ((i : Int) != 1) = false := by
  have : i = 0 ∨ i = 1 := by omega
  rcases this with rfl | rfl
  · left; rfl
  · right; exact ⟨rfl, rfl⟩

set_option maxRecDepth 100000 in
set_option maxHeartbeats 4000000 in
theorem rPull_any (h : RNet ρ w b dv ck L D) (d : Int) (hck : 0 ≤ ck ∧ ck ≤ 4611686018427387904) (hT : ∀ i, i < 2 → ∀ j, j < 16 → 0 ≤ (D i).posted j ∧ (D i).posted j ≤ ck) (hl : ∀ i, i < 2 → (L i).length ≤ 2513169434843) :
    Calls Try.prog 31 #[.pointer (some ⟨b, 0, none⟩), .int .i64 d] w fun e w' => e = .returned (.int .i64 (plE D d)) ∧ ∃ L', RDid ρ w w' b dv ck L' (plD D d) ∧ ab L' = plA (ab L) D ck d := by
  unfold plE plD
  cases hd : isDir d with
  | false =>
    rw [if_neg (by simp), if_neg (by simp), plA_dir hd]
    have hd0 : ¬ (0 ≤ d ∧ d < 2) := by unfold isDir at hd; simpa using hd
    have q : (d != 0) = true := by simp; omega
    have q' : (d != 1) = true := by simp; omega
    have H := hide h
    clear h hd hd0
    go_enter Try.func31, Try.ntmps31
    go_wp2
    go_ret
    exact ⟨rfl, L, H.out.did, rfl⟩
  | true =>
    rw [if_pos rfl, if_pos rfl]
    obtain ⟨i, rfl, hi⟩ := isDir_nat hd
    rw [Int.toNat_natCast]
    have hTk : 0 ≤ (D i).tkT ∧ (D i).tkT ≤ ck := by
      unfold Dev.tkT
      split
      · exact hT i hi _ (by have := (h.ok i hi).ring 4 (by omega) (by omega); omega)
      · omega
    have hFl : (D i).tkF.length ≤ 274 := by
      unfold Dev.tkF
      split
      · exact (h.ok i hi).txf _ (by have := (h.ok i hi).ring 4 (by omega) (by omega); omega)
      · simp
    have hli := hl i hi
    have X := hide (rTake_any (h.dev i hi) (h.ok i hi))
    have ce := h.ends i hi
    have hi2 : (i : Int) < 2 := by omega
    have hi0 : (0 : Int) ≤ (i : Int) := by omega
    have dq := dir_q i hi
    have H := hide h
    have HH := hide (And.intro hTk (And.intro hFl (And.intro hli (h.ok i hi).tk)))
    obtain ⟨er, her⟩ : ∃ er, er = (D i).tkE := ⟨_, rfl⟩
    obtain ⟨F, hF⟩ : ∃ F, F = (D i).tkF := ⟨_, rfl⟩
    obtain ⟨tk, htk⟩ : ∃ tk, tk = (D i).tkT := ⟨_, rfl⟩
    have PN : Hid (Hid (er ≠ 0) → plA (ab L) D ck (i : Int) = ab L) := fun e => plA_no (by rw [Int.toNat_natCast, ← her]; exact e.out)
    have PO : Hid (old ck tk = true → plA (ab L) D ck (i : Int) = ab L) := fun e => plA_old (by rw [Int.toNat_natCast, ← htk]; exact e)
    have PW : Hid (Hid (er = 0) → old ck tk = false → plA (ab L) D ck (i : Int) = upd (ab L) i (ab L i ++ [⟨F, false, tk⟩])) := fun e e2 => by rw [hF, htk]; exact plA_new hi (by rw [← her]; exact e.out) (by rw [← htk]; exact e2)
    rw [← her, ← hF, ← htk] at X
    rw [← her]
    rw [← hF, ← htk] at HH
    generalize plA (ab L) D ck (i : Int) = PL at *
    clear h hTk hFl hli hT hl hd her hF htk
    have hb1 : 0 ≤ tk ∧ tk ≤ ck := HH.out.1
    have K1 : Hid (∀ w1 a c, IsF (Mine ρ) w1 (.slice a F.length c) F → DevAt LR (Mine ρ) w1 (dv i) (D i).tkD → But (Only (dv i)) w w1 → RNet ρ (w1.alloc (.cells #[.slice a F.length c, .bool false, .int .i64 tk] 48)) b dv ck L (upd D i (D i).tkD) ∧ But (RRo ρ) w (w1.alloc (.cells #[.slice a F.length c, .bool false, .int .i64 tk] 48)) ∧ IsF (Mine ρ) (w1.alloc (.cells #[.slice a F.length c, .bool false, .int .i64 tk] 48)) (.slice a F.length c) F) := by
      intro w1 a c hv hd1 hb1
      refine ⟨(H.out.acts i hi hd1 HH.out.2.2.2 hb1).al _, But.alloc (hb1.mono (fun g e => by have e : g = dv i := e; unfold RRo; rw [e, H.out.rd i hi]; omega)) _, hv.later ((Below.refl _ _).alloc (Nat.le_refl _) _)⟩
    rcases dq with q | ⟨q, q'⟩
    all_goals go_enter Try.func31, Try.ntmps31
    all_goals go_wp2_with fail
    all_goals refine X.out.mono ?_
    all_goals rintro e w1 ⟨a, c, rfl, hv1, hd1, hb1'⟩
    all_goals obtain ⟨n2, hb2, g2⟩ := K1.out w1 a c hv1 hd1 hb1'
    all_goals have t1 := T3.new w1 (.slice a F.length c) (.bool false) (.int .i64 tk) 48
    all_goals clear X hv1 hd1 hb1'
    all_goals by_cases e0 : er = 0
    · subst e0
      have N2 := hide n2
      have B2 := hide hb2
      have G2 := hide g2
      have cc := n2.clock
      obtain ⟨v, hv, hLv⟩ := n2.ls i hi
      obtain ⟨va, vc, rfl⟩ := hLv.row.shape
      obtain ⟨s, hs⟩ : ∃ s, s = w1.heap.size := ⟨_, rfl⟩
      rw [← hs] at t1
      obtain ⟨x0, x1, x2, _, _, _⟩ := t1
      have hblt := n2.blt
      have hck8 : ck - 8 ≤ 4611686018427387904 := by omega
      clear n2 hb2 g2 hLv K1
      cases ho : old ck tk with
      | true =>
        have hx : tk ≤ ck - 8 := by unfold old at ho; simp only [decide_eq_true_eq] at ho; omega
        have P2 := hide (PO.out ho)
        clear ho PO PW PN
        have hs' := hs
        clear hs
        go_wp2
        rw [← hs']
        clear hs'
        go_quiet (fail)
        go_wp2
        go_ret
        exact ⟨rfl, L, rdid_trans (fun _ _ => rfl) B2.out ⟨ρ, N2.out.later ⟨rfl, rfl, rfl, Nat.le_refl _, fun _ _ => rfl⟩, fun _ _ => rfl, ⟨rfl, rfl, rfl, Nat.le_refl _, fun _ _ _ => rfl⟩⟩, P2.out.symm⟩
      | false =>
        have hx : ck - 8 < tk := by unfold old at ho; simp only [decide_eq_false_iff_not] at ho; omega
        have P2 := hide (PW.out (hide rfl) ho)
        clear ho PO PW PN
        have hs' := hs
        clear hs
        go_wp2
        rw [← hs']
        clear hs'
        go_quiet (fail)
        go_wp2
        have bq : Below (w1.alloc (.cells #[.slice a F.length c, .bool false, .int .i64 tk] 48)).heap.size (w1.alloc (.cells #[.slice a F.length c, .bool false, .int .i64 tk] 48)) ((w1.alloc (.cells #[.slice a F.length c, .bool false, .int .i64 tk] 48)).drewN nq) := ⟨rfl, rfl, rfl, Nat.le_refl _, fun _ _ => rfl⟩
        have n2 := N2.out.later bq
        have g2 := G2.out.later bq
        have hv2 := (bq.cell (p := ⟨b, 2 + i, none⟩) hblt).trans hv
        have y0 := (bq.cell (p := ⟨s, 0, none⟩) (World.block_lt_of_cell? _ _ x0)).trans x0
        have y1 := (bq.cell (p := ⟨s, 1, none⟩) (World.block_lt_of_cell? _ _ x1)).trans x1
        have y2 := (bq.cell (p := ⟨s, 2, none⟩) (World.block_lt_of_cell? _ _ x2)).trans x2
        have hblt2 := n2.blt
        have B3 : Hid (But (RRo ρ) w ((w1.alloc (.cells #[.slice a F.length c, .bool false, .int .i64 tk] 48)).drewN nq)) := B2.out.trans (But.of_below bq)
        clear bq x0 x1 x2 hv hblt cc N2 G2 B2
        generalize (w1.alloc (.cells #[.slice a F.length c, .bool false, .int .i64 tk] 48)).drewN nq = w2 at *
        have n3 := (n2.al (.cells #[.slice a F.length c, .bool false, .int .i64 tk] 48)).drew
        have t3 := (T3.new w2 (.slice a F.length c) (.bool false) (.int .i64 tk) 48).but (K := fun _ => False) ((But.refl _ _).drew) id
        have g3 : IsF (Mine ρ) (w2.alloc (.cells #[.slice a F.length c, .bool false, .int .i64 tk] 48)).drew (.slice a F.length c) F := (g2.later ((Below.refl _ _).alloc (Nat.le_refl _) _)).drew
        have hv3 : (w2.alloc (.cells #[.slice a F.length c, .bool false, .int .i64 tk] 48)).drew.cell? ⟨b, 2 + i, none⟩ = some (.slice va (L i).length vc) := (((But.refl (fun _ => False) w2).alloc (.cells #[.slice a F.length c, .bool false, .int .i64 tk] 48)).drew.cell (p := ⟨b, 2 + i, none⟩) hblt2 id).trans hv2
        obtain ⟨g', c', w4, hrun, k0, k1, hD⟩ := rpush_run n3 i hi _ hv3 (.slice a F.length c, ⟨F, false, tk⟩) g3 HH.out.2.1 HH.out.2.2.1 _ t3
        have HR := hide hrun
        have HD := hide hD
        have hsl := World.block_lt_of_cell? w2 _ y0
        clear hrun hD n3 t3 g3 hv3 n2 g2
        go_region_law (refine step_app rfl 56 _ _ rfl rfl _ _ _ _ (by simp [Act.eval]) (by simp [Act.eval]) HR.out ?_)
        all_goals go_wp2
        all_goals go_ret
        all_goals refine ⟨rfl, _, rdid_trans (fun _ _ => rfl) B3.out (rdid_trans (fun _ _ => rfl) ((But.refl _ w2).alloc _).drew HD.out), ?_⟩
        all_goals rw [P2.out, ab_upd, List.map_append]
        all_goals rfl
    · have qe : (er != 0) = true := by simp [e0]
      have P2 := hide (PN.out (hide e0))
      have N2 := hide n2
      have B2 := hide hb2
      clear n2 hb2 g2 t1 K1 PO PW PN
      go_wp2
      go_ret
      exact ⟨rfl, L, rdid_trans (fun _ _ => rfl) B2.out N2.out.did, P2.out.symm⟩
    · subst e0
      have N2 := hide n2
      have B2 := hide hb2
      have G2 := hide g2
      have cc := n2.clock
      obtain ⟨v, hv, hLv⟩ := n2.ls i hi
      obtain ⟨va, vc, rfl⟩ := hLv.row.shape
      obtain ⟨s, hs⟩ : ∃ s, s = w1.heap.size := ⟨_, rfl⟩
      rw [← hs] at t1
      obtain ⟨x0, x1, x2, _, _, _⟩ := t1
      have hblt := n2.blt
      have hck8 : ck - 8 ≤ 4611686018427387904 := by omega
      clear n2 hb2 g2 hLv K1
      cases ho : old ck tk with
      | true =>
        have hx : tk ≤ ck - 8 := by unfold old at ho; simp only [decide_eq_true_eq] at ho; omega
        have P2 := hide (PO.out ho)
        clear ho PO PW PN
        have hs' := hs
        clear hs
        go_wp2
        rw [← hs']
        clear hs'
        go_quiet (fail)
        go_wp2
        go_ret
        exact ⟨rfl, L, rdid_trans (fun _ _ => rfl) B2.out ⟨ρ, N2.out.later ⟨rfl, rfl, rfl, Nat.le_refl _, fun _ _ => rfl⟩, fun _ _ => rfl, ⟨rfl, rfl, rfl, Nat.le_refl _, fun _ _ _ => rfl⟩⟩, P2.out.symm⟩
      | false =>
        have hx : ck - 8 < tk := by unfold old at ho; simp only [decide_eq_false_iff_not] at ho; omega
        have P2 := hide (PW.out (hide rfl) ho)
        clear ho PO PW PN
        have hs' := hs
        clear hs
        go_wp2
        rw [← hs']
        clear hs'
        go_quiet (fail)
        go_wp2
        have bq : Below (w1.alloc (.cells #[.slice a F.length c, .bool false, .int .i64 tk] 48)).heap.size (w1.alloc (.cells #[.slice a F.length c, .bool false, .int .i64 tk] 48)) ((w1.alloc (.cells #[.slice a F.length c, .bool false, .int .i64 tk] 48)).drewN nq) := ⟨rfl, rfl, rfl, Nat.le_refl _, fun _ _ => rfl⟩
        have n2 := N2.out.later bq
        have g2 := G2.out.later bq
        have hv2 := (bq.cell (p := ⟨b, 2 + i, none⟩) hblt).trans hv
        have y0 := (bq.cell (p := ⟨s, 0, none⟩) (World.block_lt_of_cell? _ _ x0)).trans x0
        have y1 := (bq.cell (p := ⟨s, 1, none⟩) (World.block_lt_of_cell? _ _ x1)).trans x1
        have y2 := (bq.cell (p := ⟨s, 2, none⟩) (World.block_lt_of_cell? _ _ x2)).trans x2
        have hblt2 := n2.blt
        have B3 : Hid (But (RRo ρ) w ((w1.alloc (.cells #[.slice a F.length c, .bool false, .int .i64 tk] 48)).drewN nq)) := B2.out.trans (But.of_below bq)
        clear bq x0 x1 x2 hv hblt cc N2 G2 B2
        generalize (w1.alloc (.cells #[.slice a F.length c, .bool false, .int .i64 tk] 48)).drewN nq = w2 at *
        have n3 := (n2.al (.cells #[.slice a F.length c, .bool false, .int .i64 tk] 48)).drew
        have t3 := (T3.new w2 (.slice a F.length c) (.bool false) (.int .i64 tk) 48).but (K := fun _ => False) ((But.refl _ _).drew) id
        have g3 : IsF (Mine ρ) (w2.alloc (.cells #[.slice a F.length c, .bool false, .int .i64 tk] 48)).drew (.slice a F.length c) F := (g2.later ((Below.refl _ _).alloc (Nat.le_refl _) _)).drew
        have hv3 : (w2.alloc (.cells #[.slice a F.length c, .bool false, .int .i64 tk] 48)).drew.cell? ⟨b, 2 + i, none⟩ = some (.slice va (L i).length vc) := (((But.refl (fun _ => False) w2).alloc (.cells #[.slice a F.length c, .bool false, .int .i64 tk] 48)).drew.cell (p := ⟨b, 2 + i, none⟩) hblt2 id).trans hv2
        obtain ⟨g', c', w4, hrun, k0, k1, hD⟩ := rpush_run n3 i hi _ hv3 (.slice a F.length c, ⟨F, false, tk⟩) g3 HH.out.2.1 HH.out.2.2.1 _ t3
        have HR := hide hrun
        have HD := hide hD
        have hsl := World.block_lt_of_cell? w2 _ y0
        clear hrun hD n3 t3 g3 hv3 n2 g2
        go_region_law (refine step_app rfl 56 _ _ rfl rfl _ _ _ _ (by simp [Act.eval]) (by simp [Act.eval]) HR.out ?_)
        all_goals go_wp2
        all_goals go_ret
        all_goals refine ⟨rfl, _, rdid_trans (fun _ _ => rfl) B3.out (rdid_trans (fun _ _ => rfl) ((But.refl _ w2).alloc _).drew HD.out), ?_⟩
        all_goals rw [P2.out, ab_upd, List.map_append]
        all_goals rfl
    · have qe : (er != 0) = true := by simp [e0]
      have P2 := hide (PN.out (hide e0))
      have N2 := hide n2
      have B2 := hide hb2
      clear n2 hb2 g2 t1 K1 PO PW PN
      go_wp2
      go_ret
      exact ⟨rfl, L, rdid_trans (fun _ _ => rfl) B2.out N2.out.did, P2.out.symm⟩
end
end Go.Proofs.Ytghojbgjmpjhgaa
