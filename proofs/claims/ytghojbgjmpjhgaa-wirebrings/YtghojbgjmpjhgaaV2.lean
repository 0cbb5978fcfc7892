
/-
  The document's answer for the wire: out, Drop, Deliver.
-/
import Derived.Test.YtghojbgjmpjhgaaV1
namespace Go.Proofs.Ytghojbgjmpjhgaa
open Go.RowKit

theorem wout_step {α : Type} {l : List α} {k m : Nat} {p : α} (h : l[m]? = some p) : (l.take (m + 1)).eraseIdx k = if m = k then (l.take m).eraseIdx k else (l.take m).eraseIdx k ++ [p] := by
  have hm := (List.getElem?_eq_some_iff.1 h).1
  have e : l.take (m + 1) = l.take m ++ [p] := by rw [List.take_add_one, h]; rfl
  have hl : (l.take m).length = m := by rw [List.length_take]; omega
  rw [e]
  by_cases c : m = k
  · rw [if_pos c]
    subst c
    have e1 : (l.take m ++ [p]).eraseIdx m = l.take m := by rw [List.eraseIdx_append_of_length_le (by omega), hl, Nat.sub_self]; simp
    have e2 : (l.take m).eraseIdx m = l.take m := List.eraseIdx_of_length_le (by omega)
    rw [e1, e2]
  · rw [if_neg c]
    by_cases d : k < m
    · rw [List.eraseIdx_append_of_lt_length (by omega)]
    · rw [List.eraseIdx_of_length_le (l := l.take m) (by omega), List.eraseIdx_of_length_le (by simp; omega)]

set_option maxRecDepth 100000 in
set_option maxHeartbeats 2000000 in
/-- out: a new list without the frame at a place -/
theorem out_any {w : World} {v : Value} {l : List (Value × Frm)} (h : Row3 w v l) (ho : ∀ p ∈ l, ∃ a c, p.1 = .slice a p.2.bs.length c) (hl : l.length ≤ 2513169434843) (k : Nat) :
    Calls Try.prog 62 #[v, .int .i64 (k : Int)] w fun e w' => ∃ a c, e = .returned (.slice a (l.eraseIdx k).length c) ∧ w'.ownsRow w.heap.size 48 3 (.slice a (l.eraseIdx k).length c) (l.eraseIdx k).length (flat (l.eraseIdx k)) ∧ Below w.heap.size w w' := by
  obtain ⟨a0, c0, rfl⟩ := h.shape
  have H := hide h
  have HO := hide ho
  clear h ho
  go_enter Try.func62, Try.ntmps62
  go_wp2
  go_loopw [5, 6] (fun v5 v6 wr => ∃ (m : Nat) (a : Option Addr) (c : Nat), v6 = .int .i64 (m : Int) ∧ v5 = .slice a ((l.take m).eraseIdx k).length c ∧ m ≤ l.length ∧ Hid (wr.ownsRow w.heap.size 48 3 (.slice a ((l.take m).eraseIdx k).length c) ((l.take m).eraseIdx k).length (flat ((l.take m).eraseIdx k))) ∧ Hid (Below w.heap.size w wr)) (fun _ v6 _ => l.length - (intOf v6).toNat)
  case atStart => exact ⟨0, none, 0, rfl, by simp, Nat.zero_le _, by unfold Hid; simpa [flat_nil] using World.ownsRow_nil w w.heap.size 48 3, Below.refl _ _⟩
  case round =>
    obtain ⟨m, a, c, rfl, rfl, hm, hR, hB⟩ := hrel
    by_cases hlt : m < l.length
    · obtain ⟨p, hp⟩ : ∃ p, l[m]? = some p := ⟨_, List.getElem?_eq_getElem hlt⟩
      have hmi : (m : Int) < (l.length : Int) := by omega
      have hli : (l.length : Int) ≤ 2513169434843 := by omega
      have ST := hide (wout_step (k := k) hp)
      by_cases hmk : m = k
      · have q : ((m : Int) != (k : Int)) = false := by simp [hmk]
        have hst := ST.out
        rw [if_pos hmk] at hst
        have HS := hide hst
        clear hmk hst
        go_wp2
        go_roundw
        case rel => exact ⟨m + 1, a, c, by go_num, by rw [HS.out], by omega, by rw [HS.out]; exact hR.out, hB.out⟩
        case measure => simp [intOf]; omega
      · have q : ((m : Int) != (k : Int)) = true := by simp; omega
        have hst := ST.out
        rw [if_neg hmk] at hst
        obtain ⟨pa, pc, epv⟩ := HO.out p (List.mem_of_getElem? hp)
        obtain ⟨pv, f⟩ := p
        simp only at epv
        subst epv
        have hrow : Row3 wr (.slice a0 l.length c0) l := row_keep H.out (But.of_below (K := fun _ => False) hB.out) (fun _ _ => id)
        obtain ⟨f0, f1, f2⟩ := flat_get l m _ hp
        obtain ⟨g, rfl⟩ : ∃ g, a0 = some ⟨g, 0, none⟩ := by
          obtain ⟨_, ⟨e, e0⟩ | ⟨g, cap, cur, e, _⟩⟩ := hrow
          · omega
          · simp only [Value.slice.injEq] at e; exact ⟨g, e.1⟩
        have r0 : wr.cell? ⟨g, m * 3, none⟩ = some (.slice pa f.bs.length pc) := by rw [World.ownsRow.cellAt hrow _ (by omega)]; exact f0
        have r1 : wr.cell? ⟨g, m * 3 + 1, none⟩ = some (.bool f.bad) := by rw [World.ownsRow.cellAt hrow _ (by omega)]; exact f1
        have r2 : wr.cell? ⟨g, m * 3 + 2, none⟩ = some (.int .i64 f.tick) := by rw [World.ownsRow.cellAt hrow _ (by omega)]; exact f2
        obtain ⟨inf, hin, hz0, hz1, hz2⟩ := info_parts info_ow
        have t3 := T3.new wr (.slice pa f.bs.length pc) (.bool f.bad) (.int .i64 f.tick) 48
        obtain ⟨cur, hcur⟩ : ∃ cur, cur = (l.take m).eraseIdx k := ⟨_, rfl⟩
        rw [← hcur] at hR hst ⊢
        have hcl : cur.length ≤ m := by rw [hcur]; exact Nat.le_trans (List.length_eraseIdx_le _ _) (by rw [List.length_take]; omega)
        obtain ⟨g', c', w', hrun, hrow', hb', hg', _, _⟩ := run_more 56 48 inf (.agg #[.slice none 0 0, .bool false, .int .i64 0]) 3 40 Try.underlying56 hin hz0 hz1 hz2 rfl (by omega) (World.ownsRow.alloc hR.out (.cells #[.slice pa f.bs.length pc, .bool f.bad, .int .i64 f.tick] 48)) ⟨wr.heap.size, 0, none⟩ 1 1 (cel (.slice pa f.bs.length pc, f)) rfl (fun j u hu => by
            have hj : j < 3 := (List.getElem?_eq_some_iff.1 hu).1
            rw [Addr.add_lit]
            have : j = 0 ∨ j = 1 ∨ j = 2 := by omega
            rcases this with rfl | rfl | rfl
            · rw [← hu]; exact t3.c0
            · rw [← hu]; exact t3.c1
            · rw [← hu]; exact t3.c2) (fun u hu => by
            simp only [cel, List.mem_cons, List.not_mem_nil, or_false] at hu
            rcases hu with rfl | rfl | rfl <;> rfl) (by omega) (by have := hB.out.size; simp; omega) (by unfold maxLen; omega) (by omega)
        have hown : ∀ x, (Value.slice a cur.length c).ownBlock = some x → w.heap.size ≤ x := fun x e => (World.ownsRow.lt hR.out x e).1
        have HB2 : Hid (Below w.heap.size w w') := (hB.out.trans (((Below.refl _ wr).alloc (Nat.le_refl _) _).mono hB.out.size)).trans (hb'.below (by have := hB.out.size; simp; omega) (fun x hx e => by have := hown x e; omega))
        have HR := hide hrun
        have HROW : Hid (w'.ownsRow w.heap.size 48 3 (.slice (some ⟨g', 0, none⟩) (cur.length + 1) c') (cur.length + 1) (flat (cur ++ [(.slice pa f.bs.length pc, f)]))) := by rw [flat_append]; exact hrow'
        have HS := hide hst
        clear hrun hrow' hb' hg' hst hcur t3 hrow f0 f1 f2 hp hmk hin hz0 hz1 hz2
        go_wp2_with (at_builtin; refine wpList_app rfl _ _ 56 rfl _ _ rfl rfl HR.out ?_)
        go_roundw
        case rel => exact ⟨m + 1, some ⟨g', 0, none⟩, c', by go_num, by rw [HS.out]; simp, by omega, by rw [HS.out, List.length_append]; exact HROW.out, HB2.out⟩
        case measure => simp [intOf]; omega
    · obtain rfl : m = l.length := by omega
      have hR2 := hR.out
      rw [List.take_length] at hR2 ⊢
      have HR2 := hide hR2
      clear hR hR2
      go_wp2
      go_ret
      exact ⟨_, _, rfl, HR2.out, hB.out⟩

section
variable {ρ : Nat → Nat} {w : World} {b : Nat} {dv : Nat → Nat} {ck : Int} {L : Nat → List (Value × Frm)} {D : Nat → Dev}
theorem rdid_trans {ρ1 : Nat → Nat} {w1 w2 : World} (he : ∀ g, g < w.heap.size → ρ1 g = ρ g) (hb : But (RRo ρ) w w1) (h : RDid ρ1 w1 w2 b dv ck L D) : RDid ρ w w2 b dv ck L D := by
  obtain ⟨ρ2, hn, he2, hb2⟩ := h
  exact ⟨ρ2, hn, fun g hg => (he2 g (Nat.lt_of_lt_of_le hg hb.size)).trans (he g hg), hb.trans' hb2 (fun g hg e => by unfold RRo; rw [← he g hg]; exact e)⟩
/-- a new list is stored in the place of one -/
theorem RNet.fresh (h : RNet ρ w b dv ck L D) (i : Nat) (hi : i < 2) {w' : World} {v : Value} {l : List (Value × Frm)} (hS : Below w.heap.size w w') (hr : w'.ownsRow w.heap.size 48 3 v l.length (flat l)) (hf : ∀ p ∈ l, p ∈ L i) : RDid ρ w (w'.setCell ⟨b, 2 + i, none⟩ v) b dv ck (upd L i l) D := by
  have hvb : ∀ x, v.ownBlock = some x → w.heap.size ≤ x ∧ x < w'.heap.size := fun x e => World.ownsRow.lt hr x e
  obtain ⟨ρ', hρ⟩ : ∃ ρ' : Nat → Nat, ρ' = fun g => if v.ownBlock = some g then 15 + i else ρ g := ⟨_, rfl⟩
  have hext : ∀ g, g < w.heap.size → ρ' g = ρ g := fun g hg => by rw [hρ]; simp only; rw [if_neg (fun e => by have := (hvb g e).1; omega)]
  have hlw : ∀ g, ρ' g ≠ 0 → g < w'.heap.size := fun g e => by
    rw [hρ] at e; simp only at e
    by_cases c : v.ownBlock = some g
    · exact (hvb g c).2
    · rw [if_neg c] at e; exact Nat.lt_of_lt_of_le (h.lt g e) hS.size
  have hb0 : But (fun _ => False) w w' := But.of_below hS
  obtain ⟨u, _, hL⟩ := h.ls i hi
  have hL' : RLst ρ' w' i v l := by
    refine ⟨?_, fun k e => by rw [hρ]; simp only; rw [if_pos e], fun p hp => (hL.fr p (hf p hp)).ext hb0 (fun _ e => e.elim) hext⟩
    unfold Row3
    obtain ⟨q1, q2 | ⟨g, cap, cur, q3, q4, q5, q6⟩⟩ := hr
    · exact ⟨q1, .inl q2⟩
    · exact ⟨q1, .inr ⟨g, cap, cur, q3, Nat.zero_le _, q5, q6⟩⟩
  refine ⟨ρ', h.put i hi (hb0.mono (fun _ e => e.elim)) hext hlw hL' (fun p hp => h.fl i hi p (hf p hp)), hext, ?_⟩
  exact (But.of_below hS).setCell (p := ⟨b, 2 + i, none⟩) (.inr (by unfold RRo; simp only; rw [h.rb]; omega)) _

set_option maxRecDepth 100000 in
set_option maxHeartbeats 2000000 in
theorem rDrop_any (h : RNet ρ w b dv ck L D) (hl : ∀ i, i < 2 → (L i).length ≤ 2513169434843) (d k : Int) : Calls Try.prog 34 #[.pointer (some ⟨b, 0, none⟩), .int .i64 d, .int .i64 k] w fun e w' => e = .returned (.int .i64 (thE (lens L) d k)) ∧ RDid ρ w w' b dv ck (drL L d k) D := by
  have R := hide (there_any h d k)
  by_cases e0 : thE (lens L) d k = 0
  · obtain ⟨i, j, p, rfl, rfl, hi, hp⟩ := thE_get e0
    unfold drL
    rw [e0, if_pos rfl, Int.toNat_natCast, Int.toNat_natCast]
    rw [e0] at R
    obtain ⟨v, hv, hL⟩ := h.ls i hi
    obtain ⟨a, c, rfl⟩ := hL.row.shape
    have hjl := (List.getElem?_eq_some_iff.1 hp).1
    have X := hide (out_any (w := w.drew) (World.ownsRow.drew hL.row) (fun p hp => by obtain ⟨a, c, e, _⟩ := (hL.fr p hp).shape; exact ⟨a, c, e⟩) (hl i hi) j)
    have hblt := h.blt
    have hi2 : (i : Int) < 2 := by omega
    have hi0 : (0 : Int) ≤ (i : Int) := by omega
    have FIN : Hid (∀ w1 v', w1.ownsRow w.drew.heap.size 48 3 v' ((L i).eraseIdx j).length (flat ((L i).eraseIdx j)) → Below w.drew.heap.size w.drew w1 → w1.cell? ⟨b, 2 + i, none⟩ = some (.slice a (L i).length c) ∧ w1.frozen? ⟨b, 2 + i, none⟩ = false ∧ RDid ρ w (w1.setCell ⟨b, 2 + i, none⟩ v') b dv ck (upd L i ((L i).eraseIdx j)) D) := by
      intro w1 v' hr hB
      have hB : Below w.heap.size w w1 := ⟨hB.os, hB.tape, hB.output, hB.size, hB.block⟩
      exact ⟨(hB.cell (p := ⟨b, 2 + i, none⟩) hblt).trans hv, ((But.of_below (K := fun _ => False) hB).frozen (p := ⟨b, 2 + i, none⟩) hblt id).trans (h.fz _), h.fresh i hi hB hr (fun p hp => mem_erase hp)⟩
    clear h hL hp e0 hl hjl
    go_enter Try.func34, Try.ntmps34
    go_wp2_with fail
    refine R.out.mono ?_
    rintro e w' ⟨rfl, rfl⟩
    clear R
    go_wp2
    go_region_law (first
      | (refine step_call rfl 62 #[.slice a (L i).length c, .int .i64 (j : Int)] (by simp [Act.eval, go_sem]) X.out (fun e w' h => by obtain ⟨_, _, rfl, _⟩ := h; exact ⟨_, rfl⟩) ?_; rintro _ w1 ⟨a', c', hre, hr1, hB1⟩; cases hre; obtain ⟨k0, k1, hd⟩ := FIN.out w1 _ hr1 hB1; have HD := hide hd; clear hr1 hB1 hd))
    all_goals go_wp2
    all_goals go_ret
    all_goals exact ⟨rfl, HD.out⟩
  · unfold drL
    rw [if_neg e0]
    obtain ⟨er, her⟩ : ∃ er, er = thE (lens L) d k := ⟨_, rfl⟩
    rw [← her] at R e0 ⊢
    have q : (er == 0) = false := beq_no e0
    have H := hide h
    clear her h
    go_enter Try.func34, Try.ntmps34
    go_wp2_with fail
    refine R.out.mono ?_
    rintro e w' ⟨rfl, rfl⟩
    go_wp2
    go_ret
    exact ⟨rfl, H.out.did⟩
end
end Go.Proofs.Ytghojbgjmpjhgaa
