
/-
  The document's answer for the wire: Double, Deliver.
-/
import Derived.Test.YtghojbgjmpjhgaaV3
namespace Go.Proofs.Ytghojbgjmpjhgaa
open Go.RowKit

theorem RLst.at {ρ : Nat → Nat} {w : World} {i : Nat} {v : Value} {l : List (Value × Frm)} (h : RLst ρ w i v l) {k : Nat} {p : Value × Frm} (hk : l[k]? = some p) :
    ∃ g c, v = .slice (some ⟨g, 0, none⟩) l.length c ∧ ρ g = 15 + i ∧ g < w.heap.size ∧ w.cell? ⟨g, k * 3, none⟩ = some p.1 ∧ w.cell? ⟨g, k * 3 + 1, none⟩ = some (.bool p.2.bad) ∧ w.cell? ⟨g, k * 3 + 2, none⟩ = some (.int .i64 p.2.tick) ∧ ∀ j, w.frozen? ⟨g, j, none⟩ = false := by
  have hlt := (List.getElem?_eq_some_iff.1 hk).1
  have hr := h.row
  have hr' := h.row
  obtain ⟨_, ⟨rfl, e⟩ | ⟨g, cap, cur, rfl, _, hh, _⟩⟩ := hr
  · omega
  · obtain ⟨f0, f1, f2⟩ := flat_get l k p hk
    refine ⟨g, cap, rfl, h.role g rfl, (Array.getElem?_eq_some_iff.1 hh).1, ?_, ?_, ?_, fun j => World.ownsRow.frozenAt hr' j⟩
    · rw [World.ownsRow.cellAt hr' _ (by omega)]; exact f0
    · rw [World.ownsRow.cellAt hr' _ (by omega)]; exact f1
    · rw [World.ownsRow.cellAt hr' _ (by omega)]; exact f2

section
variable {ρ : Nat → Nat} {w : World} {b : Nat} {dv : Nat → Nat} {ck : Int} {L : Nat → List (Value × Frm)} {D : Nat → Dev}

set_option maxRecDepth 100000 in
set_option maxHeartbeats 4000000 in
theorem rDouble_any (h : RNet ρ w b dv ck L D) (hl : ∀ i, i < 2 → (L i).length ≤ 2513169434843) (d k : Int) : Calls Try.prog 35 #[.pointer (some ⟨b, 0, none⟩), .int .i64 d, .int .i64 k] w fun e w' => e = .returned (.int .i64 (thE (lens L) d k)) ∧ ∃ L', RDid ρ w w' b dv ck L' D ∧ ab L' = dbA (ab L) d k := by
  have R := hide (there_any h d k)
  unfold dbA
  rw [lens_ab]
  by_cases e0 : thE (lens L) d k = 0
  · obtain ⟨i, j, p, rfl, rfl, hi, hp⟩ := thE_get e0
    rw [if_pos e0, Int.toNat_natCast, Int.toNat_natCast, e0, ab_get hp]
    rw [e0] at R
    have hlen := h.fl i hi p (List.mem_of_getElem? hp)
    have hli := hl i hi
    obtain ⟨v, hv, hL⟩ := h.ls i hi
    have hf := hL.fr p (List.mem_of_getElem? hp)
    obtain ⟨g, cl, rfl, hgr, hg, c0, c1, c2, _⟩ := hL.at hp
    obtain ⟨pv, f⟩ := p
    simp only at hf c0 c1 c2 hlen
    obtain ⟨a, c, rfl, _, _⟩ := hf.shape
    have hblt := h.blt
    have hi2 : (i : Int) < 2 := by omega
    have hi0 : (0 : Int) ≤ (i : Int) := by omega
    have hj : (j : Int) < (L i).length := by have := (List.getElem?_eq_some_iff.1 hp).1; omega
    have hj0 : (0 : Int) ≤ (j : Int) := by omega
    have n3 := (h.al (.cells #[.slice a f.bs.length c, .bool f.bad, .int .i64 f.tick] 48)).drew
    have hba : But (fun _ => False) w (w.alloc (.cells #[.slice a f.bs.length c, .bool f.bad, .int .i64 f.tick] 48)).drew := ((But.refl _ w).alloc _).drew
    have t3 := (T3.new w (.slice a f.bs.length c) (.bool f.bad) (.int .i64 f.tick) 48).but (K := fun _ => False) ((But.refl _ _).drew) id
    obtain ⟨g', c', w4, hrun, k0, k1, hD⟩ := rpush_run n3 i hi _ ((hba.cell (p := ⟨b, 2 + i, none⟩) hblt id).trans hv) (.slice a f.bs.length c, f) (hf.ext hba (fun _ e => e.elim) (fun _ _ => rfl)) hlen hli _ t3
    have HR := hide hrun
    have HD : Hid (∃ L', RDid ρ w (w4.setCell ⟨b, 2 + i, none⟩ (.slice (some ⟨g', 0, none⟩) ((L i).length + 1) c')) b dv ck L' D ∧ ab L' = upd (ab L) i (ab L i ++ [f])) := ⟨_, rdid_trans (fun _ _ => rfl) (hba.mono (fun _ e => e.elim)) hD, by rw [ab_upd, List.map_append]; rfl⟩
    clear hrun hD n3 hba t3 h hL hf hp e0 hlen hli hl
    go_enter Try.func35, Try.ntmps35
    go_wp2_with fail
    refine R.out.mono ?_
    rintro e w' ⟨rfl, rfl⟩
    clear R
    go_wp2
    go_region_law (refine step_app rfl 56 _ _ rfl rfl _ _ _ _ (by simp [Act.eval]) (by simp [Act.eval]) HR.out ?_)
    all_goals go_wp2
    all_goals go_ret
    all_goals exact ⟨rfl, HD.out⟩
  · rw [if_neg e0]
    obtain ⟨er, her⟩ : ∃ er, er = thE (lens L) d k := ⟨_, rfl⟩
    rw [← her] at R e0 ⊢
    have q : (er == 0) = false := beq_no e0
    have H := hide h
    clear her h
    go_enter Try.func35, Try.ntmps35
    go_wp2_with fail
    refine R.out.mono ?_
    rintro e w' ⟨rfl, rfl⟩
    go_wp2
    go_ret
    exact ⟨rfl, L, H.out.did, rfl⟩

set_option maxRecDepth 100000 in
set_option maxHeartbeats 4000000 in
theorem rDeliver_any (h : RNet ρ w b dv ck L D) (hl : ∀ i, i < 2 → (L i).length ≤ 2513169434843) (d k : Int) : Calls Try.prog 39 #[.pointer (some ⟨b, 0, none⟩), .int .i64 d, .int .i64 k] w fun e w' => e = .returned (.int .i64 (dlE L D d k)) ∧ RDid ρ w w' b dv ck (drL L d k) (dlD L D d k) := by
  have R := hide (there_any h d k)
  by_cases e0 : thE (lens L) d k = 0
  · obtain ⟨i, j, p, rfl, rfl, hi, hp⟩ := thE_get e0
    have hlen := h.fl i hi p (List.mem_of_getElem? hp)
    have elook := (look_yes hi hp).2
    unfold drL dlE dlD
    rw [elook, if_pos e0, if_pos e0, if_pos e0, Int.toNat_natCast, Int.toNat_natCast]
    rw [e0] at R
    obtain ⟨v, hv, hL⟩ := h.ls i hi
    have hf := hL.fr p (List.mem_of_getElem? hp)
    obtain ⟨g, cl, rfl, hgr, hg, c0, c1, c2, _⟩ := hL.at hp
    obtain ⟨pv, f⟩ := p
    simp only at hf c0 c1 c2 hlen ⊢
    obtain ⟨a, c, rfl, _, _⟩ := hf.shape
    have hblt := h.blt
    have hi2 : (i : Int) < 2 := by omega
    have hi0 : (0 : Int) ≤ (i : Int) := by omega
    have hj : (j : Int) < (L i).length := by have := (List.getElem?_eq_some_iff.1 hp).1; omega
    have hj0 : (0 : Int) ≤ (j : Int) := by omega
    obtain ⟨s, hs⟩ : ∃ s, s = w.heap.size := ⟨_, rfl⟩
    have b2 : Below w.heap.size w (w.alloc (.cells #[.slice a f.bs.length c, .bool f.bad, .int .i64 f.tick] 48)) := (Below.refl _ _).alloc (Nat.le_refl _) _
    have n2 := h.later b2
    have t2 := T3.new w (.slice a f.bs.length c) (.bool f.bad) (.int .i64 f.tick) 48
    have g2 := hf.later b2
    have hv2 := (b2.cell (p := ⟨b, 2 + i, none⟩) hblt).trans hv
    have hL2 := hL.but (K := fun _ => False) (But.of_below b2) (fun _ e => e.elim) (fun _ _ => (rfl : ρ _ = ρ _))
    rw [← hs] at t2
    have HWR : Hid (IntKind.i64.wrap (1 - (i : Int)) = ((1 - i : Nat) : Int)) := by rw [show ((1 - i : Nat) : Int) = 1 - (i : Int) by omega]; exact wrapI _ (by omega) (by omega)
    have hi1 : 1 - i < 2 := by omega
    generalize 1 - i = i1 at *
    have HLN := hide hlen
    have HL := hide (hl i hi)
    have HF : Hid (∀ p ∈ L i, ∃ a c, p.1 = .slice a p.2.bs.length c) := fun p hp => by obtain ⟨a, c, e, _⟩ := (hL.fr p hp).shape; exact ⟨a, c, e⟩
    have DL := hide h.lt
    clear h hL hf hp e0 elook hlen hl b2
    have hs' := hs
    clear hs
    go_enter Try.func39, Try.ntmps39
    go_wp2_with fail
    refine R.out.mono ?_
    rintro e w' ⟨rfl, rfl⟩
    clear R
    go_wp2
    rw [← hs']
    have SZ : Hid (w'.heap.size ≤ s) := Nat.le_of_eq hs'.symm
    have BA : Hid (But (RRo ρ) w' (w'.alloc (.cells #[.slice a f.bs.length c, .bool f.bad, .int .i64 f.tick] 48))) := (But.refl _ _).alloc _
    clear hs' c0 c1 c2 hv
    generalize w'.alloc (.cells #[.slice a f.bs.length c, .bool f.bad, .int .i64 f.tick] 48) = w2 at *
    have X := hide (out_any (w := w2.drew) (World.ownsRow.drew hL2.row) HF.out HL.out j)
    have FIN : Hid (∀ w3 v', w3.ownsRow w2.drew.heap.size 48 3 v' ((L i).eraseIdx j).length (flat ((L i).eraseIdx j)) → Below w2.drew.heap.size w2.drew w3 → w3.cell? ⟨b, 2 + i, none⟩ = some (.slice (some ⟨g, 0, none⟩) (L i).length cl) ∧ w3.frozen? ⟨b, 2 + i, none⟩ = false ∧ ∃ ρ4, RNet ρ4 (w3.setCell ⟨b, 2 + i, none⟩ v') b dv ck (upd L i ((L i).eraseIdx j)) D ∧ (∀ g, g < w'.heap.size → ρ4 g = ρ g) ∧ But (RRo ρ) w' (w3.setCell ⟨b, 2 + i, none⟩ v') ∧ T3 (w3.setCell ⟨b, 2 + i, none⟩ v') s (.slice a f.bs.length c) (.bool f.bad) (.int .i64 f.tick) ∧ IsF (Mine ρ4) (w3.setCell ⟨b, 2 + i, none⟩ v') (.slice a f.bs.length c) f.bs) := by
      intro w3 v' hr hB
      have hB : Below w2.heap.size w2 w3 := ⟨hB.os, hB.tape, hB.output, hB.size, hB.block⟩
      obtain ⟨ρ4, n4, he4, hb4⟩ := n2.fresh i hi hB hr (fun p hp => mem_erase hp)
      have hs0 : ¬ RRo ρ s := fun e => by have h1 := DL.out s (by unfold RRo at e; omega); have h2 := SZ.out; omega
      exact ⟨(hB.cell (p := ⟨b, 2 + i, none⟩) n2.blt).trans hv2, ((But.of_below (K := fun _ => False) hB).frozen (p := ⟨b, 2 + i, none⟩) n2.blt id).trans (n2.fz _), ρ4, n4, fun x hx => he4 x (Nat.lt_of_lt_of_le hx BA.out.size), BA.out.trans hb4, t2.but hb4 hs0, g2.ext hb4 (fun x e => by unfold RRo at e; omega) he4⟩
    have hblt2 := n2.blt
    have DLT := hide (DL.out (dv i1) (by rw [n2.rd i1 hi1]; omega))
    clear n2 g2 t2 hL2
    go_region_law (first
      | (refine step_call rfl 62 #[.slice (some ⟨g, 0, none⟩) (L i).length cl, .int .i64 (j : Int)] (by simp [Act.eval, go_sem]) X.out (fun e w' h => by obtain ⟨_, _, rfl, _⟩ := h; exact ⟨_, rfl⟩) ?_; rintro _ w3 ⟨a', c', hre, hr1, hB1⟩; cases hre; obtain ⟨k0, k1, hd⟩ := FIN.out w3 _ hr1 hB1; have HD := hide hd; clear hr1 hB1 hd))
    go_wp2
    obtain ⟨ρ4, n4, he4, hb4, ⟨x0, x1, x2, _, _, _⟩, g4⟩ := HD.out
    clear HD FIN X hv2
    generalize w3.setCell ⟨b, 2 + i, none⟩ (.slice a' ((L i).eraseIdx j).length c') = w4 at *
    have ce := n4.ends i1 hi1
    have Y := hide (rGive_any (n4.dev i1 hi1).drew (n4.ok i1 hi1) (fun g e => n4.lt g e) _ f.bs f.bad g4.drew (by have := HLN.out; omega))
    have N4 := hide n4
    have E4 := hide he4
    have B4 := hide hb4
    have hsl : s < w4.heap.size := World.block_lt_of_cell? w4 _ x0
    have q2 : But (Only (dv i1)) w4 w4.drew := (But.refl _ _).drew
    have hi12 : (i1 : Int) < 2 := by omega
    have hz0 : (0 : Int) ≤ (i1 : Int) := by omega
    have hwr := HWR.out
    have keepS : Hid (∀ W : World, But (Only (dv i1)) w4 W → W.cell? ⟨b, i1, none⟩ = some (.pointer (some ⟨dv i1, 0, none⟩)) ∧ W.cell? ⟨s, 0, none⟩ = some (.slice a f.bs.length c) ∧ W.cell? ⟨s, 1, none⟩ = some (.bool f.bad)) := fun W hb => by
      have nb : ¬ Only (dv i1) b := fun e => by have e : b = dv i1 := e; have := N4.out.rb; rw [e, N4.out.rd i1 (by omega)] at this; omega
      have ns : ¬ Only (dv i1) s := fun e => by have e : s = dv i1 := e; have h1 := SZ.out; have h2 := DLT.out; omega
      exact ⟨(hb.cell (p := ⟨b, i1, none⟩) N4.out.blt nb).trans ce, (hb.cell (p := ⟨s, 0, none⟩) hsl ns).trans x0, (hb.cell (p := ⟨s, 1, none⟩) hsl ns).trans x1⟩
    clear n4 he4 hb4 g4
    go_region_held3 (fun W => W.cell? ⟨b, i1, none⟩ = some (.pointer (some ⟨dv i1, 0, none⟩)) ∧ W.cell? ⟨s, 0, none⟩ = some (.slice a f.bs.length c) ∧ W.cell? ⟨s, 1, none⟩ = some (.bool f.bad)) (exact keepS.out _ (by assumption))
      (first
        | (go_at_call 64; refine Y.out.mono ?_; rintro e w5 ⟨rfl, hd5, hb5⟩; have HD5 := hide hd5; have HB5 := hide hb5; have q3 : But (Only (dv i1)) w4 w5 := q2.trans hb5; clear hd5 hb5))
    clear q2 q3 keepS
    go_wp2
    go_ret
    refine ⟨rfl, rdid_trans E4.out B4.out ⟨ρ4, N4.out.drew.acts i1 (by omega) HD5.out ((N4.out.ok i1 (by omega)).gv _ _) HB5.out, fun _ _ => rfl, ?_⟩⟩
    exact (But.refl _ w4).drew.trans (HB5.out.mono (fun g e => by have e : g = dv i1 := e; unfold RRo; rw [e, N4.out.rd i1 (by omega)]; omega))
  · unfold drL dlE dlD
    rw [if_neg e0, if_neg e0, if_neg e0]
    obtain ⟨er, her⟩ : ∃ er, er = thE (lens L) d k := ⟨_, rfl⟩
    rw [← her] at R e0 ⊢
    have q : (er != 0) = true := by simp [e0]
    have H := hide h
    clear her h
    go_enter Try.func39, Try.ntmps39
    go_wp2_with fail
    refine R.out.mono ?_
    rintro e w' ⟨rfl, rfl⟩
    go_wp2
    go_ret
    exact ⟨rfl, H.out.did⟩
end
end Go.Proofs.Ytghojbgjmpjhgaa
