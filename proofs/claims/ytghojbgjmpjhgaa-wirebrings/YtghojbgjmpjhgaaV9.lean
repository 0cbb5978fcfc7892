
/-
  The document's answer for the wire: Move. The document's answer for the wire: Move, whatever is asked.
-/
import Derived.Test.YtghojbgjmpjhgaaV8
namespace Go.Proofs.Ytghojbgjmpjhgaa
open Go.RowKit

theorem row_low {B B' : Nat} {e : TypeId} {sz : Nat} {w : World} {v : Value} {n : Nat} {xs : List Value} (h : w.ownsRow B e sz v n xs) (hB : B' ≤ B) : w.ownsRow B' e sz v n xs := by
  obtain ⟨h1, h2 | ⟨g, cap, cur, rfl, hg, hh, rr⟩⟩ := h
  · exact ⟨h1, .inl h2⟩
  · exact ⟨h1, .inr ⟨g, cap, cur, rfl, Nat.le_trans hB hg, hh, rr⟩⟩

section
variable {ρ : Nat → Nat} {w : World} {b : Nat} {dv : Nat → Nat} {ck : Int} {L : Nat → List (Value × Frm)} {D : Nat → Dev}

set_option maxRecDepth 100000 in
set_option maxHeartbeats 4000000 in
theorem rMove_yes (h : RNet ρ w b dv ck L D) (i j t : Nat) (hi : i < 2) (a : Option Addr) (c : Nat) (f : Frm) (hp : (L i)[j]? = some (.slice a f.bs.length c, f)) (ht : t < (L i).length) (hl : (L i).length ≤ 2513169434843) :
    Calls Try.prog 36 #[.pointer (some ⟨b, 0, none⟩), .int .i64 (i : Int), .int .i64 (j : Int), .int .i64 (t : Int)] w fun e w' => e = .returned (.int .i64 0) ∧ RDid ρ w w' b dv ck (upd L i (moved (L i) j t (.slice a f.bs.length c, f))) D := by
  have R := hide (there_any h (i : Int) (j : Int))
  have hjl := (List.getElem?_eq_some_iff.1 hp).1
  rw [thE_yes hi (by unfold lens; omega)] at R
  obtain ⟨v, hv, hL⟩ := h.ls i hi
  obtain ⟨g, cl, rfl, hgr, hg, c0, c1, c2, _⟩ := hL.at hp
  simp only at c0 c1 c2
  have hblt := h.blt
  have hi2 : (i : Int) < 2 := by omega
  have hi0 : (0 : Int) ≤ (i : Int) := by omega
  have hj : (j : Int) < (L i).length := by omega
  have hj0 : (0 : Int) ≤ (j : Int) := by omega
  have ht1 : (t : Int) < (L i).length := by omega
  have ht0 : (0 : Int) ≤ (t : Int) := by omega
  have hll : ((L i).length : Int) ≤ 2513169434843 := by omega
  have b1 : Below w.heap.size w (w.alloc (.cells #[.slice a f.bs.length c, .bool f.bad, .int .i64 f.tick] 48)) := (Below.refl _ _).alloc (Nat.le_refl _) _
  have t1 := T3.new w (.slice a f.bs.length c) (.bool f.bad) (.int .i64 f.tick) 48
  have hL1 := hL.but (K := fun _ => False) (But.of_below b1) (fun _ e => e.elim) (fun _ _ => (rfl : ρ _ = ρ _))
  have HF : Hid (∀ p ∈ L i, ∃ a c, p.1 = .slice a p.2.bs.length c) := fun p hp => by obtain ⟨a, c, e, _⟩ := (hL.fr p hp).shape; exact ⟨a, c, e⟩
  have X := hide (out_any hL1.row HF.out hl j)
  have H := hide h
  have hel : ((L i).eraseIdx j).length = (L i).length - 1 := by rw [List.length_eraseIdx, if_pos hjl]
  have hpm := List.mem_of_getElem? hp
  have HPM := hide hpm
  have T1 := hide t1
  have B1 := hide b1
  obtain ⟨s, hs⟩ : ∃ s, s = w.heap.size := ⟨_, rfl⟩
  rw [← hs] at T1
  clear h hL hp hL1 t1 b1 hpm
  go_enter Try.func36, Try.ntmps36
  go_wp2_with fail
  refine R.out.mono ?_
  rintro e w0 ⟨rfl, rfl⟩
  clear R
  have hs' := hs
  clear hs
  go_wp2_with fail
  rw [← hs']
  have S1 : Hid (w0.heap.size ≤ s) := Nat.le_of_eq hs'.symm
  clear hs'
  generalize w0.alloc (.cells #[.slice a f.bs.length c, .bool f.bad, .int .i64 f.tick] 48) = w1 at *
  refine X.out.mono ?_
  rintro e w2 ⟨ra, rc, rfl, hr2, hb2⟩
  clear X
  generalize hRR : (L i).eraseIdx j = RR at *
  rw [hel] at hr2 ⊢
  obtain ⟨n, hn⟩ : ∃ n, (L i).length = n + 1 := ⟨(L i).length - 1, by omega⟩
  rw [show (L i).length - 1 = n by omega] at hr2 ⊢
  have hRl : RR.length = n := by rw [hel]; omega
  have htn : t ≤ n := by omega
  have hone : ∀ u ∈ flat RR, u.oneCell' = true := flat_one _ (fun p hp => by rw [← hRR] at hp; obtain ⟨pa, pc, e⟩ := HF.out p (mem_erase hp); rw [e]; rfl)
  have hl1 : ((flat RR).take (t * 3)).length = t * 3 := by rw [List.length_take, flat_len, hRl]; omega
  have zt : (t : Int) ≤ n := by omega
  have hr2' := hr2
  obtain ⟨_, ⟨e1, e2⟩ | ⟨gr, rc', cur, e1, hgr1, hgh, hnrc, hrcm, _⟩⟩ := hr2'
  · simp only [Value.slice.injEq] at e1
    obtain ⟨rfl, _, rfl⟩ := e1
    have n0 : n = 0 := e2
    have t0 : t = 0 := by omega
    subst n0
    subst t0
    clear zt ht0
    obtain ⟨a3, c3, w3, hrun3, hrow3, hbut3⟩ := app_src (World.ownsRow_nil w2 w2.heap.size 48 3) none 0 0 ((flat RR).take (0 * 3)) hl1 (fun ad e => by cases e) (fun _ => ⟨rfl, rfl⟩) (fun u hu => hone u (List.mem_of_mem_take hu)) (Nat.le_refl _) (by omega)
    simp only [Nat.zero_add, List.nil_append] at hrun3 hrow3
    have bel3 : Below w2.heap.size w2 w3 := hbut3.below (Nat.le_refl _) (fun x _ e => by cases e)
    have t3 := T1.out.but (But.of_below (K := fun _ => False) ((hb2.mono (Nat.le_refl _)))) id |>.but (But.of_below (K := fun _ => False) bel3) id
    have tN := T3.new w3 (.slice a f.bs.length c) (.bool f.bad) (.int .i64 f.tick) 48
    obtain ⟨a4, c4, w4, hrun4, hrow4, hbut4⟩ := app_src (World.ownsRow.alloc hrow3 (.cells #[.slice a f.bs.length c, .bool f.bad, .int .i64 f.tick] 48)) (some ⟨w3.heap.size, 0, none⟩) 1 1 (cel (.slice a f.bs.length c, f)) rfl (fun ad e j u hu => by
        cases e
        have hj : j < 3 := (List.getElem?_eq_some_iff.1 hu).1
        rw [Addr.add_lit]
        have : j = 0 ∨ j = 1 ∨ j = 2 := by omega
        rcases this with rfl | rfl | rfl
        · rw [← hu]; exact tN.c0
        · rw [← hu]; exact tN.c1
        · rw [← hu]; exact tN.c2) (fun e => by cases e) (fun u hu => by
        simp only [cel, List.mem_cons, List.not_mem_nil, or_false] at hu
        rcases hu with rfl | rfl | rfl <;> rfl) (by have := bel3.size; simp; omega) (by omega)
    simp only [Nat.zero_add] at hrun4 hrow4
    have own3 : ∀ x, (Value.slice a3 0 c3).ownBlock = some x → w2.heap.size ≤ x := fun x e => (World.ownsRow.lt hrow3 x e).1
    have bel4 : Below w2.heap.size w2 w4 := (bel3.trans (((Below.refl _ w3).alloc (Nat.le_refl _) (.cells #[.slice a f.bs.length c, .bool f.bad, .int .i64 f.tick] 48)).mono bel3.size)).trans (hbut4.below (by have := bel3.size; simp; omega) (fun x hx e => by have := own3 x e; omega))
    have bel4d : Below w2.heap.size w2 w4.drew := bel4.drew
    obtain ⟨a5, c5, w5, hrun5, hrow5, hbut5⟩ := app_src (World.ownsRow.drew hrow4) none 0 0 ((flat RR).drop (0 * 3)) (by rw [List.length_drop, flat_len, hRl]) (fun ad e => by cases e) (fun _ => ⟨rfl, rfl⟩) (fun u hu => hone u (List.mem_of_mem_drop hu)) bel4d.size (by omega)
    have own4 : ∀ x, (Value.slice a4 1 c4).ownBlock = some x → w2.heap.size ≤ x := fun x e => (World.ownsRow.lt hrow4 x e).1
    have bel5 : Below w2.heap.size w2 w5 := bel4d.trans (hbut5.below bel4d.size (fun x hx e => by have := own4 x e; omega))
    have belW : Below w0.heap.size w0 w5 := (B1.out.trans (hb2.mono B1.out.size)).trans (bel5.mono (by have h1 := B1.out.size; have h2 := hb2.size; omega))
    simp only [Nat.add_zero] at hrun5 hrow5
    have hrowF : w5.ownsRow w0.heap.size 48 3 (.slice a5 1 c5) (moved (L i) j 0 (.slice a f.bs.length c, f)).length (flat (moved (L i) j 0 (.slice a f.bs.length c, f))) := by
      have e1 : moved (L i) j 0 (.slice a f.bs.length c, f) = RR.take 0 ++ [(.slice a f.bs.length c, f)] ++ RR.drop 0 := by unfold moved; rw [hRR]
      have e2 : flat (moved (L i) j 0 (.slice a f.bs.length c, f)) = (flat RR).take (0 * 3) ++ cel (.slice a f.bs.length c, f) ++ (flat RR).drop (0 * 3) := by rw [e1, flat_append, flat_append, flat_take RR 0 (by omega), flat_drop RR 0 (by omega)]; rfl
      have e3 : (moved (L i) j 0 (.slice a f.bs.length c, f)).length = 1 := by rw [e1]; simp only [List.length_append, List.length_take, List.length_drop, List.length_cons, List.length_nil, hRl]; omega
      rw [e2, e3]
      exact row_low hrow5 (by have h1 := B1.out.size; have h2 := hb2.size; omega)
    have HD := hide (H.out.fresh i hi belW hrowF (fun q hq => by
      rcases List.mem_append.1 hq with hq | hq
      · rcases List.mem_append.1 hq with hq | hq
        · exact mem_erase (List.mem_of_mem_take hq)
        · rw [List.mem_singleton.1 hq]; exact HPM.out
      · exact mem_erase (List.mem_of_mem_drop hq)))
    have k0 := (belW.cell (p := ⟨b, 2 + i, none⟩) hblt).trans hv
    have k1 := ((But.of_below (K := fun _ => False) belW).frozen (p := ⟨b, 2 + i, none⟩) hblt id).trans (H.out.fz (2 + i))
    obtain ⟨x0, x1, x2, _, _, _⟩ := t3
    have HR3 := hide hrun3
    have HR4 := hide hrun4
    have HR5 := hide hrun5
    have hsl3 : s < w3.heap.size := World.block_lt_of_cell? w3 _ x0
    clear hrun3 hrun4 hrun5 hrow3 hrow4 hrow5 hbut3 hbut4 hbut5 bel3 bel4 bel4d bel5 belW hrowF tN own3 own4 hone hl1 hr2 hb2 hRR hRl hel c0 c1 c2 hv
    go_upto_region 9 with (at_builtin; refine wpList_app rfl _ _ 56 rfl _ _ rfl rfl HR3.out ?_)
    go_upto_region 10 with (at_builtin; refine wpList_app rfl _ _ 56 rfl _ _ rfl rfl HR4.out ?_)
    go_region_law (refine step_app rfl 56 _ _ rfl rfl _ _ _ _ (by simp [Act.eval, Act.put]) (by simp [Act.eval, Act.put]) HR5.out ?_)
    all_goals go_wp2
    all_goals go_ret
    all_goals exact ⟨rfl, HD.out⟩
  · simp only [Value.slice.injEq, true_and] at e1
    obtain ⟨rfl, rfl⟩ := e1
    have hgr2 : gr < w2.heap.size := (Array.getElem?_eq_some_iff.1 hgh).1
    have zr : (t : Int) ≤ rc := by omega
    have zr2 : t ≤ rc := by omega
    have zr3 : (rc : Int) ≤ 9223372036854775807 := by unfold maxLen at hrcm; omega
    by_cases ec : rc = t
    · have ec2 := ec.symm
      clear ec
      subst ec2
      have en : t = n := by omega
      subst en
      obtain ⟨a3, c3, w3, hrun3, hrow3, hbut3⟩ := app_src (World.ownsRow_nil w2 w2.heap.size 48 3) (some ⟨gr, 0, none⟩) t t ((flat RR).take (t * 3)) hl1 (fun ad e x u hu => by
          cases e
          have hx : x < (flat RR).length := by have := (List.getElem?_eq_some_iff.1 hu).1; rw [List.length_take] at this; omega
          rw [Addr.add_lit, Nat.zero_add, World.ownsRow.cellAt hr2 x (by rw [flat_len, hRl] at hx; exact hx), ← hu, List.getElem?_take]
          have := (List.getElem?_eq_some_iff.1 hu).1
          rw [List.length_take] at this
          rw [if_pos (by omega)]) (fun e => by cases e) (fun u hu => hone u (List.mem_of_mem_take hu)) (Nat.le_refl _) (by omega)
      simp only [Nat.zero_add, List.nil_append] at hrun3 hrow3
      have bel3 : Below w2.heap.size w2 w3 := hbut3.below (Nat.le_refl _) (fun x _ e => by cases e)
      have t3 := T1.out.but (But.of_below (K := fun _ => False) ((hb2.mono (Nat.le_refl _)))) id |>.but (But.of_below (K := fun _ => False) bel3) id
      have tN := T3.new w3 (.slice a f.bs.length c) (.bool f.bad) (.int .i64 f.tick) 48
      obtain ⟨a4, c4, w4, hrun4, hrow4, hbut4⟩ := app_src (World.ownsRow.alloc hrow3 (.cells #[.slice a f.bs.length c, .bool f.bad, .int .i64 f.tick] 48)) (some ⟨w3.heap.size, 0, none⟩) 1 1 (cel (.slice a f.bs.length c, f)) rfl (fun ad e j u hu => by
          cases e
          have hj : j < 3 := (List.getElem?_eq_some_iff.1 hu).1
          rw [Addr.add_lit]
          have : j = 0 ∨ j = 1 ∨ j = 2 := by omega
          rcases this with rfl | rfl | rfl
          · rw [← hu]; exact tN.c0
          · rw [← hu]; exact tN.c1
          · rw [← hu]; exact tN.c2) (fun e => by cases e) (fun u hu => by
          simp only [cel, List.mem_cons, List.not_mem_nil, or_false] at hu
          rcases hu with rfl | rfl | rfl <;> rfl) (by have := bel3.size; simp; omega) (by omega)
      have own3 : ∀ x, (Value.slice a3 t c3).ownBlock = some x → w2.heap.size ≤ x := fun x e => (World.ownsRow.lt hrow3 x e).1
      have bel4 : Below w2.heap.size w2 w4 := (bel3.trans (((Below.refl _ w3).alloc (Nat.le_refl _) (.cells #[.slice a f.bs.length c, .bool f.bad, .int .i64 f.tick] 48)).mono bel3.size)).trans (hbut4.below (by have := bel3.size; simp; omega) (fun x hx e => by have := own3 x e; omega))
      have bel4d : Below w2.heap.size w2 w4.drew := bel4.drew
      obtain ⟨a5, c5, w5, hrun5, hrow5, hbut5⟩ := app_src (World.ownsRow.drew hrow4) (some ⟨gr, 0, none⟩) 0 0 ((flat RR).drop (t * 3)) (by rw [List.length_drop, flat_len, hRl]; omega) (fun ad e x u hu => by
          have hx : x < ((flat RR).drop (t * 3)).length := (List.getElem?_eq_some_iff.1 hu).1
          rw [List.length_drop, flat_len, hRl] at hx
          omega) (fun e => by cases e) (fun u hu => hone u (List.mem_of_mem_drop hu)) bel4d.size (by omega)
      have own4 : ∀ x, (Value.slice a4 (t + 1) c4).ownBlock = some x → w2.heap.size ≤ x := fun x e => (World.ownsRow.lt hrow4 x e).1
      have bel5 : Below w2.heap.size w2 w5 := bel4d.trans (hbut5.below bel4d.size (fun x hx e => by have := own4 x e; omega))
      have belW : Below w0.heap.size w0 w5 := (B1.out.trans (hb2.mono B1.out.size)).trans (bel5.mono (by have h1 := B1.out.size; have h2 := hb2.size; omega))
      simp only [Nat.add_zero] at hrun5 hrow5
      have hrowF : w5.ownsRow w0.heap.size 48 3 (.slice a5 (t + 1) c5) (moved (L i) j t (.slice a f.bs.length c, f)).length (flat (moved (L i) j t (.slice a f.bs.length c, f))) := by
        have e1 : moved (L i) j t (.slice a f.bs.length c, f) = RR.take t ++ [(.slice a f.bs.length c, f)] ++ RR.drop t := by unfold moved; rw [hRR]
        have e2 : flat (moved (L i) j t (.slice a f.bs.length c, f)) = (flat RR).take (t * 3) ++ cel (.slice a f.bs.length c, f) ++ (flat RR).drop (t * 3) := by rw [e1, flat_append, flat_append, flat_take RR t (by omega), flat_drop RR t (by omega)]; rfl
        have e3 : (moved (L i) j t (.slice a f.bs.length c, f)).length = t + 1 := by rw [e1]; simp only [List.length_append, List.length_take, List.length_drop, List.length_cons, List.length_nil, hRl]; omega
        rw [e2, e3]
        exact row_low hrow5 (by have h1 := B1.out.size; have h2 := hb2.size; omega)
      have HD := hide (H.out.fresh i hi belW hrowF (fun q hq => by
        rcases List.mem_append.1 hq with hq | hq
        · rcases List.mem_append.1 hq with hq | hq
          · exact mem_erase (List.mem_of_mem_take hq)
          · rw [List.mem_singleton.1 hq]; exact HPM.out
        · exact mem_erase (List.mem_of_mem_drop hq)))
      have k0 := (belW.cell (p := ⟨b, 2 + i, none⟩) hblt).trans hv
      have k1 := ((But.of_below (K := fun _ => False) belW).frozen (p := ⟨b, 2 + i, none⟩) hblt id).trans (H.out.fz (2 + i))
      obtain ⟨x0, x1, x2, _, _, _⟩ := t3
      have HR3 := hide hrun3
      have HR4 := hide hrun4
      have HR5 := hide hrun5
      have hsl3 : s < w3.heap.size := World.block_lt_of_cell? w3 _ x0
      clear hrun3 hrun4 hrun5 hrow3 hrow4 hrow5 hbut3 hbut4 hbut5 bel3 bel4 bel4d bel5 belW hrowF tN own3 own4 hone hl1 hr2 hb2 hRR hRl hel c0 c1 c2 hv hgh hgr1 hrcm
      go_upto_region 9 with (at_builtin; refine wpList_app rfl _ _ 56 rfl _ _ rfl rfl HR3.out ?_)
      go_upto_region 10 with (at_builtin; refine wpList_app rfl _ _ 56 rfl _ _ rfl rfl HR4.out ?_)
      go_region_law (refine step_app rfl 56 _ _ rfl rfl _ _ _ _ (by simp [Act.eval, Act.put]) (by simp [Act.eval, Act.put]) HR5.out ?_)
      all_goals go_wp2
      all_goals go_ret
      all_goals exact ⟨rfl, HD.out⟩
    · obtain ⟨a3, c3, w3, hrun3, hrow3, hbut3⟩ := app_src (World.ownsRow_nil w2 w2.heap.size 48 3) (some ⟨gr, 0, none⟩) t rc ((flat RR).take (t * 3)) hl1 (fun ad e x u hu => by
          cases e
          have hx : x < (flat RR).length := by have := (List.getElem?_eq_some_iff.1 hu).1; rw [List.length_take] at this; omega
          rw [Addr.add_lit, Nat.zero_add, World.ownsRow.cellAt hr2 x (by rw [flat_len, hRl] at hx; exact hx), ← hu, List.getElem?_take]
          have := (List.getElem?_eq_some_iff.1 hu).1
          rw [List.length_take] at this
          rw [if_pos (by omega)]) (fun e => by cases e) (fun u hu => hone u (List.mem_of_mem_take hu)) (Nat.le_refl _) (by omega)
      simp only [Nat.zero_add, List.nil_append] at hrun3 hrow3
      have bel3 : Below w2.heap.size w2 w3 := hbut3.below (Nat.le_refl _) (fun x _ e => by cases e)
      have t3 := T1.out.but (But.of_below (K := fun _ => False) ((hb2.mono (Nat.le_refl _)))) id |>.but (But.of_below (K := fun _ => False) bel3) id
      have tN := T3.new w3 (.slice a f.bs.length c) (.bool f.bad) (.int .i64 f.tick) 48
      obtain ⟨a4, c4, w4, hrun4, hrow4, hbut4⟩ := app_src (World.ownsRow.alloc hrow3 (.cells #[.slice a f.bs.length c, .bool f.bad, .int .i64 f.tick] 48)) (some ⟨w3.heap.size, 0, none⟩) 1 1 (cel (.slice a f.bs.length c, f)) rfl (fun ad e j u hu => by
          cases e
          have hj : j < 3 := (List.getElem?_eq_some_iff.1 hu).1
          rw [Addr.add_lit]
          have : j = 0 ∨ j = 1 ∨ j = 2 := by omega
          rcases this with rfl | rfl | rfl
          · rw [← hu]; exact tN.c0
          · rw [← hu]; exact tN.c1
          · rw [← hu]; exact tN.c2) (fun e => by cases e) (fun u hu => by
          simp only [cel, List.mem_cons, List.not_mem_nil, or_false] at hu
          rcases hu with rfl | rfl | rfl <;> rfl) (by have := bel3.size; simp; omega) (by omega)
      have own3 : ∀ x, (Value.slice a3 t c3).ownBlock = some x → w2.heap.size ≤ x := fun x e => (World.ownsRow.lt hrow3 x e).1
      have bel4 : Below w2.heap.size w2 w4 := (bel3.trans (((Below.refl _ w3).alloc (Nat.le_refl _) (.cells #[.slice a f.bs.length c, .bool f.bad, .int .i64 f.tick] 48)).mono bel3.size)).trans (hbut4.below (by have := bel3.size; simp; omega) (fun x hx e => by have := own3 x e; omega))
      have bel4d : Below w2.heap.size w2 w4.drew := bel4.drew
      obtain ⟨a5, c5, w5, hrun5, hrow5, hbut5⟩ := app_src (World.ownsRow.drew hrow4) (some ⟨gr, t * 3, none⟩) (n - t) (rc - t) ((flat RR).drop (t * 3)) (by rw [List.length_drop, flat_len, hRl]; omega) (fun ad e x u hu => by
          cases e
          have hx : x < ((flat RR).drop (t * 3)).length := (List.getElem?_eq_some_iff.1 hu).1
          rw [List.length_drop, flat_len, hRl] at hx
          rw [Addr.add_lit]
          have h5 := (bel4d.cell (p := ⟨gr, t * 3 + x, none⟩) hgr2).trans (World.ownsRow.cellAt hr2 (t * 3 + x) (by omega))
          rw [h5, ← List.getElem?_drop]; exact hu) (fun e => by cases e) (fun u hu => hone u (List.mem_of_mem_drop hu)) bel4d.size (by omega)
      have own4 : ∀ x, (Value.slice a4 (t + 1) c4).ownBlock = some x → w2.heap.size ≤ x := fun x e => (World.ownsRow.lt hrow4 x e).1
      have bel5 : Below w2.heap.size w2 w5 := bel4d.trans (hbut5.below bel4d.size (fun x hx e => by have := own4 x e; omega))
      have belW : Below w0.heap.size w0 w5 := (B1.out.trans (hb2.mono B1.out.size)).trans (bel5.mono (by have h1 := B1.out.size; have h2 := hb2.size; omega))
      rw [show t + 1 + (n - t) = n + 1 by omega] at hrun5 hrow5
      have hrowF : w5.ownsRow w0.heap.size 48 3 (.slice a5 (n + 1) c5) (moved (L i) j t (.slice a f.bs.length c, f)).length (flat (moved (L i) j t (.slice a f.bs.length c, f))) := by
        have e1 : moved (L i) j t (.slice a f.bs.length c, f) = RR.take t ++ [(.slice a f.bs.length c, f)] ++ RR.drop t := by unfold moved; rw [hRR]
        have e2 : flat (moved (L i) j t (.slice a f.bs.length c, f)) = (flat RR).take (t * 3) ++ cel (.slice a f.bs.length c, f) ++ (flat RR).drop (t * 3) := by rw [e1, flat_append, flat_append, flat_take RR t (by omega), flat_drop RR t (by omega)]; rfl
        have e3 : (moved (L i) j t (.slice a f.bs.length c, f)).length = n + 1 := by rw [e1]; simp only [List.length_append, List.length_take, List.length_drop, List.length_cons, List.length_nil, hRl]; omega
        rw [e2, e3]
        exact row_low hrow5 (by have h1 := B1.out.size; have h2 := hb2.size; omega)
      have HD := hide (H.out.fresh i hi belW hrowF (fun q hq => by
        rcases List.mem_append.1 hq with hq | hq
        · rcases List.mem_append.1 hq with hq | hq
          · exact mem_erase (List.mem_of_mem_take hq)
          · rw [List.mem_singleton.1 hq]; exact HPM.out
        · exact mem_erase (List.mem_of_mem_drop hq)))
      have k0 := (belW.cell (p := ⟨b, 2 + i, none⟩) hblt).trans hv
      have k1 := ((But.of_below (K := fun _ => False) belW).frozen (p := ⟨b, 2 + i, none⟩) hblt id).trans (H.out.fz (2 + i))
      obtain ⟨x0, x1, x2, _, _, _⟩ := t3
      have HR3 := hide hrun3
      have HR4 := hide hrun4
      have HR5 := hide hrun5
      have hsl3 : s < w3.heap.size := World.block_lt_of_cell? w3 _ x0
      clear hrun3 hrun4 hrun5 hrow3 hrow4 hrow5 hbut3 hbut4 hbut5 bel3 bel4 bel4d bel5 belW hrowF tN own3 own4 hone hl1 hr2 hb2 hRR hRl hel c0 c1 c2 hv hgh hgr1 hrcm
      go_upto_region 9 with (at_builtin; refine wpList_app rfl _ _ 56 rfl _ _ rfl rfl HR3.out ?_)
      go_upto_region 10 with (at_builtin; refine wpList_app rfl _ _ 56 rfl _ _ rfl rfl HR4.out ?_)
      go_region_law (refine step_app rfl 56 _ _ rfl rfl _ _ _ _ (by simp [Act.eval, Act.put]) (by simp [Act.eval, Act.put]) HR5.out ?_)
      all_goals go_wp2
      all_goals go_ret
      all_goals exact ⟨rfl, HD.out⟩
end


section
variable {ρ : Nat → Nat} {w : World} {b : Nat} {dv : Nat → Nat} {ck : Int} {L : Nat → List (Value × Frm)} {D : Nat → Dev}
theorem rMove_any (h : RNet ρ w b dv ck L D) (hl : ∀ i, i < 2 → (L i).length ≤ 2513169434843) (d k t : Int) : Calls Try.prog 36 #[.pointer (some ⟨b, 0, none⟩), .int .i64 d, .int .i64 k, .int .i64 t] w fun e w' => e = .returned (.int .i64 (mvE (ab L) d k t)) ∧ ∃ L', RDid ρ w w' b dv ck L' D ∧ ab L' = mvA (ab L) d k t := by
  have R := hide (there_any h d k)
  unfold mvA mvE
  rw [lens_ab]
  by_cases e0 : thE (lens L) d k = 0
  · obtain ⟨i, j, p, rfl, rfl, hi, hp⟩ := thE_get e0
    rw [if_pos e0, Int.toNat_natCast, Int.toNat_natCast, ab_get hp, show (ab L i).length = (L i).length by simp [ab]]
    obtain ⟨v, hv, hL⟩ := h.ls i hi
    by_cases hb : 0 ≤ t ∧ t < ((L i).length : Int)
    · rw [if_pos hb, if_pos rfl]
      obtain ⟨u, rfl⟩ : ∃ u : Nat, t = (u : Int) := ⟨t.toNat, by omega⟩
      obtain ⟨a, c, ep, _, _⟩ := (hL.fr p (List.mem_of_getElem? hp)).shape
      have hp' : (L i)[j]? = some (.slice a p.2.bs.length c, p.2) := by rw [hp, ← ep]
      refine (rMove_yes h i j u hi a c p.2 hp' (by omega) (hl i hi)).mono ?_
      rintro e w' ⟨rfl, hd⟩
      refine ⟨rfl, _, hd, ?_⟩
      rw [ab_upd, map_moved, Int.toNat_natCast]; rfl
    · rw [if_neg hb, if_neg (by omega)]
      rw [e0] at R
      obtain ⟨a, c, rfl⟩ := hL.row.shape
      have hi2 : (i : Int) < 2 := by omega
      have H := hide h
      by_cases hb0 : t < 0
      · clear hb h hL hp e0
        go_enter Try.func36, Try.ntmps36
        go_wp2_with fail
        refine R.out.mono ?_
        rintro e w' ⟨rfl, rfl⟩
        go_wp2
        go_ret
        exact ⟨rfl, L, H.out.did, rfl⟩
      · have hb1 : ((L i).length : Int) ≤ t := by omega
        clear hb h hL hp e0
        go_enter Try.func36, Try.ntmps36
        go_wp2_with fail
        refine R.out.mono ?_
        rintro e w' ⟨rfl, rfl⟩
        go_wp2
        go_ret
        exact ⟨rfl, L, H.out.did, rfl⟩
  · rw [if_neg e0, if_neg e0]
    obtain ⟨er, her⟩ : ∃ er, er = thE (lens L) d k := ⟨_, rfl⟩
    rw [← her] at R e0 ⊢
    have q : (er != 0) = true := by simp [e0]
    have H := hide h
    clear her h
    go_enter Try.func36, Try.ntmps36
    go_wp2_with fail
    refine R.out.mono ?_
    rintro e w' ⟨rfl, rfl⟩
    go_wp2
    go_ret
    exact ⟨rfl, L, H.out.did, rfl⟩
end
end Go.Proofs.Ytghojbgjmpjhgaa
