
/-
  Package wire: takeOut, Drop, Deliver.
-/
import Derived.Test.YtghojbgjmpjhgaaW3
namespace Go.Proofs.Ytghojbgjmpjhgaa
open Go.RowKit

theorem wrapI (n : Int) (h0 : -9223372036854775808 ≤ n) (h1 : n ≤ 9223372036854775807) : IntKind.i64.wrap n = n := by simp [IntKind.wrap, IntKind.bits, IntKind.signed]; omega
theorem eraseIdx_td {α : Type} (l : List α) (k : Nat) : l.eraseIdx k = l.take k ++ l.drop (k + 1) := List.eraseIdx_eq_take_drop_succ l k
theorem mem_erase {α : Type} {l : List α} {k : Nat} {q : α} (h : q ∈ l.eraseIdx k) : q ∈ l := List.mem_of_mem_eraseIdx h

/-- one of the list's frames is gone -/
theorem Lst.del {ρ ρ' : Nat → Nat} {w w' : World} {i g n c k : Nat} {v : Value} {l : List (Value × Frm)} (h : Lst ρ w i v l) (hv : v = .slice (some ⟨g, 0, none⟩) n c) (hk : k < l.length) (hr : w'.ownsRow 0 48 3 (.slice (some ⟨g, 0, none⟩) (l.length - 1) c) (l.length - 1) ((flat l).take (k * 3) ++ (flat l).drop ((k + 1) * 3)))
    (hb : But (Only g) w w') (he : ∀ g, g < w.heap.size → ρ' g = ρ g) : Lst ρ' w' i (.slice (some ⟨g, 0, none⟩) (l.length - 1) c) (l.eraseIdx k) := by
  have hg := h.role g (by rw [hv]; rfl)
  have hglt := (World.ownsRow.lt h.row g (by rw [hv]; rfl)).2
  refine ⟨?_, fun k' e => ?_, fun p hp => ?_, ?_⟩
  · unfold Row3
    rw [flat_take l k (by omega), flat_drop l (k + 1) (by omega), ← flat_append, ← eraseIdx_td] at hr
    rw [List.length_eraseIdx, if_pos hk]
    exact hr
  · have e : some g = some k' := e
    cases e
    rw [he g hglt]; exact hg
  · obtain ⟨h1, h2⟩ := h.fr p (mem_erase hp)
    exact ⟨h1.keep hb (fun k' e c => by have c : k' = g := c; have := h2 k' e; rw [c] at this; omega), fun k' e => (he k' (h1.blk k' e).2).trans (h2 k' e)⟩
  · exact h.pw.sublist (List.eraseIdx_sublist _ _)

/-- what a call of a wire leaves behind -/
def Did (ρ : Nat → Nat) (w w' : World) (b : Nat) (dv : Nat → Nat) (ck : Int) (L : Nat → List (Value × Frm)) (D : Nat → Dev) : Prop :=
  ∃ ρ', Net ρ' w' b dv ck L D ∧ (∀ g, g < w.heap.size → ρ' g = ρ g) ∧ But (fun g => 1 ≤ ρ g ∧ ρ g ≤ 8) w w'

/-- blocks for a moment -/
def tmp9 (ρ : Nat → Nat) (w w' : World) : Nat → Nat := fun g => if w.heap.size ≤ g ∧ g < w'.heap.size then 9 else ρ g
theorem tmp9_low (ρ : Nat → Nat) (w w' : World) (g : Nat) (h : g < w.heap.size) : tmp9 ρ w w' g = ρ g := by unfold tmp9; rw [if_neg (by omega)]
theorem tmp9_in (ρ : Nat → Nat) (w w' : World) (g : Nat) (h : w.heap.size ≤ g) (h' : g < w'.heap.size) : tmp9 ρ w w' g = 9 := by unfold tmp9; rw [if_pos ⟨h, h'⟩]
theorem Net.tmp {ρ : Nat → Nat} {w w' : World} {b : Nat} {dv : Nat → Nat} {ck : Int} {L : Nat → List (Value × Frm)} {D : Nat → Dev} (h : Net ρ w b dv ck L D) (hb : Below w.heap.size w w') :
    Net (tmp9 ρ w w') w' b dv ck L D :=
  h.keep (K := fun _ => False) (But.of_below hb) (fun _ e => e.elim) (fun g hg => tmp9_low _ _ _ _ hg) (fun g e => by
    unfold tmp9 at e
    by_cases hh : w.heap.size ≤ g ∧ g < w'.heap.size
    · exact hh.2
    · rw [if_neg hh] at e; exact Nat.lt_of_lt_of_le (h.lt g e) hb.size)

section
variable {ρ : Nat → Nat} {w : World} {b : Nat} {dv : Nat → Nat} {ck : Int} {L : Nat → List (Value × Frm)} {D : Nat → Dev}

set_option maxRecDepth 100000 in
set_option maxHeartbeats 2000000 in
theorem takeOut_any (h : Net ρ w b dv ck L D) (i k : Nat) (hi : i < 2) (a : Option Addr) (ca : Nat) (f : Frm) (hp : (L i)[k]? = some (.slice a f.bs.length ca, f)) :
    Calls Try.prog 57 #[.pointer (some ⟨b, 0, none⟩), .int .i64 (i : Int), .int .i64 (k : Int)] w fun e w' => e = .returned (.agg #[.slice a f.bs.length ca, .bool f.bad, .int .i64 f.tick]) ∧ Did ρ w w' b dv ck (upd L i ((L i).eraseIdx k)) D ∧ Gro 0 w' (.slice a f.bs.length ca) f.bs ∧ ∃ g c, w'.cell? ⟨b, 3 + i, none⟩ = some (.slice (some ⟨g, 0, none⟩) ((L i).length - 1) c) ∧ (L i).length ≤ c := by
  have hk : k < (L i).length := (List.getElem?_eq_some_iff.1 hp).1
  obtain ⟨s, hs⟩ : ∃ s, s = w.heap.size := ⟨_, rfl⟩
  -- the world behind the two new blocks
  obtain ⟨w2, hw2⟩ : ∃ w2, w2 = (w.alloc (.cells #[.slice none 0 0, .bool false, .int .i64 0] 48)).alloc (.cells #[.slice a f.bs.length ca, .bool f.bad, .int .i64 f.tick] 48) := ⟨_, rfl⟩
  have b2 : Below w.heap.size w w2 := by
    rw [hw2]
    exact ((Below.refl _ _).alloc (Nat.le_refl _) _).alloc (by simp) _
  have t2 : T3 w2 s (.slice none 0 0) (.bool false) (.int .i64 0) ∧ T3 w2 (s + 1) (.slice a f.bs.length ca) (.bool f.bad) (.int .i64 f.tick) := by
    rw [hw2, hs]
    refine ⟨(T3.new w _ _ _ _).al _, ?_⟩
    have := T3.new (w.alloc (.cells #[.slice none 0 0, .bool false, .int .i64 0] 48)) (.slice a f.bs.length ca) (.bool f.bad) (.int .i64 f.tick) 48
    rw [World.size_alloc] at this
    exact this
  have hs2 : w2.heap.size = s + 2 := by rw [hw2, hs]; simp
  obtain ⟨v, hv, hL⟩ := h.ls i hi
  have hf0 := (hL.fr _ (List.mem_of_getElem? hp)).1
  have hr0 := (hL.fr _ (List.mem_of_getElem? hp)).2
  obtain ⟨g, c, hvv, hgr, hg, c0, c1, c2, fz⟩ := hL.at hp
  have N2 := hide (h.tmp b2)
  have L2 := hide (hL.but (K := fun _ => False) (But.of_below b2) (fun _ e => e.elim) (fun g hg => tmp9_low ρ w w2 g hg))
  have hrow2 := L2.out.row
  obtain ⟨m, hm⟩ : ∃ m, (L i).length = k + 1 + m := ⟨(L i).length - (k + 1), by omega⟩
  unfold Row3 at hrow2
  rw [hvv, hm] at hrow2
  have hone : ∀ u ∈ flat (L i), u.oneCell' = true := flat_one _ (fun p hp => (hL.fr p hp).1.one)
  have X := hide (Delete_any (World.ownsRow.drew hrow2) hone)
  subst hvv
  rw [hm] at hv
  have hv2 : w2.cell? ⟨b, 3 + i, none⟩ = some (.slice (some ⟨g, 0, none⟩) (k + 1 + m) c) := (b2.cell (p := ⟨b, 3 + i, none⟩) h.blt).trans hv
  have hfz2 : w2.frozen? ⟨b, 3 + i, none⟩ = false := (N2.out.fz (3 + i))
  have hblt := h.blt
  have HB := hide h.rb
  have hgb : b ≠ g := fun e => by have := HB.out; rw [e] at this; omega
  have HK : Hid (∀ w3, But (Only g) w2.drew w3 → w3.cell? ⟨b, 3 + i, none⟩ = some (.slice (some ⟨g, 0, none⟩) (k + 1 + m) c) ∧ w3.frozen? ⟨b, 3 + i, none⟩ = false ∧ T3 w3 s (.slice none 0 0) (.bool false) (.int .i64 0) ∧ T3 w3 (s + 1) (.slice a f.bs.length ca) (.bool f.bad) (.int .i64 f.tick)) := by
    intro w3 hb3
    have hb3 : But (Only g) w2 w3 := ⟨hb3.os, hb3.tape, hb3.output, hb3.size, hb3.block⟩
    have hlt2 : b < w2.heap.size := by omega
    exact ⟨(hb3.cell (p := ⟨b, 3 + i, none⟩) hlt2 hgb).trans hv2, (hb3.frozen (p := ⟨b, 3 + i, none⟩) hlt2 hgb).trans hfz2, t2.1.but hb3 (fun e => by have e : s = g := e; omega), t2.2.but hb3 (fun e => by have e : s + 1 = g := e; omega)⟩
  have hi2 : (i : Int) < 2 := by omega
  have hk2 : (k : Int) < (k : Int) + 1 + m := by omega
  have hk3 : (k : Int) + 1 + m ≤ 9223372036854775807 := by
    obtain ⟨_, ⟨e, _⟩ | ⟨g', cap, cur, e, _, _, h1, h2, _⟩⟩ := hrow2
    · cases e
    · unfold maxLen at h2; omega
  have HCAP : Hid (k + 1 + m ≤ c) := by
    obtain ⟨_, ⟨e, _⟩ | ⟨g', cap, cur, e, _, _, h1, h2, _⟩⟩ := hrow2
    · cases e
    · simp only [Value.slice.injEq] at e; unfold Hid; omega
  have HWR : Hid (IntKind.i64.wrap ((k : Int) + 1) = (k : Int) + 1) := wrapI _ (by omega) (by omega)
  have T2 := hide t2
  have B2 := hide b2
  have HW2 := hide hw2
  have HS2 := hide hs2
  have HS := hide hs
  have HL := hide hL
  have H0 := hide h
  have F0 := hide hf0
  have R0 := hide hr0
  clear hw2 hs2 t2 b2 hL hrow2 hone h hf0 hr0 hfz2
  go_enter Try.func57, Try.ntmps57
  go_wp2
  rw [← hs]
  rw [← HW2.out]
  clear hs
  go_region_with (rw [HWR.out]; refine X.out.mono ?_; rintro e w3 ⟨rfl, hrow3, hbut3⟩; obtain ⟨k0, k1, ⟨x0, x1, x2, y0, y1, y2⟩, ⟨x3, x4, x5, _, _, _⟩⟩ := HK.out _ hbut3; have HR3 := hide hrow3; have HB3 := hide hbut3; clear hrow3 hbut3)
  all_goals go_wp2
  all_goals refine bodyPost_ret (v := .agg #[.slice a f.bs.length ca, .bool f.bad, .int .i64 f.tick]) (by simp [results, asAddr, go_sem, x0, x1, x2]) (by simp) ?_
  have hb3 : But (Only g) w2 w3 := ⟨HB3.out.os, HB3.out.tape, HB3.out.output, HB3.out.size, HB3.out.block⟩
  have hs := HS.out
  have hs2 := HS2.out
  have hrow3 := HR3.out
  rw [show k + m = (L i).length - 1 by omega] at hrow3 ⊢
  have hl3 := L2.out.del rfl hk hrow3 hb3 (fun _ _ => rfl)
  have hg9 : ∀ x, x < w.heap.size → tmp9 ρ w w2 x = ρ x := fun x hx => tmp9_low _ _ _ _ hx
  have n4 := N2.out.put i hi (hb3.mono (fun x e => .inl (by have e : x = g := e; rw [e, hg9 g hg]; exact hgr))) (fun _ _ => rfl) (fun x e => Nat.lt_of_lt_of_le (N2.out.lt x e) hb3.size) hl3 (fun p hp => H0.out.fl i hi p (mem_erase hp))
  have hb5 : But (Only s) (w3.setCell ⟨b, 3 + i, none⟩ (.slice (some ⟨g, 0, none⟩) ((L i).length - 1) c)) ((((w3.setCell ⟨b, 3 + i, none⟩ (.slice (some ⟨g, 0, none⟩) ((L i).length - 1) c)).setCell ⟨s, 0, none⟩ (.slice a f.bs.length ca)).setCell ⟨s, 1, none⟩ (.bool f.bad)).setCell ⟨s, 2, none⟩ (.int .i64 f.tick)) :=
    (((But.refl (Only s) _).setCell (p := ⟨s, 0, none⟩) (.inr rfl) _).setCell (p := ⟨s, 1, none⟩) (.inr rfl) _).setCell (p := ⟨s, 2, none⟩) (.inr rfl) _
  have hb4 : But (Only b) w3 (w3.setCell ⟨b, 3 + i, none⟩ (.slice (some ⟨g, 0, none⟩) ((L i).length - 1) c)) := (But.refl (Only b) w3).setCell (p := ⟨b, 3 + i, none⟩) (.inr rfl) _
  have n5 := n4.keep (ρ' := tmp9 ρ w w2) hb5 (fun x e => by have e : x = s := e; rw [e, tmp9_in _ _ _ _ (by omega) (by omega)]; omega) (fun _ _ => rfl) (fun x e => Nat.lt_of_lt_of_le (n4.lt x e) hb5.size)
  have hcell : ((((w3.setCell ⟨b, 3 + i, none⟩ (.slice (some ⟨g, 0, none⟩) ((L i).length - 1) c)).setCell ⟨s, 0, none⟩ (.slice a f.bs.length ca)).setCell ⟨s, 1, none⟩ (.bool f.bad)).setCell ⟨s, 2, none⟩ (.int .i64 f.tick)).cell? ⟨b, 3 + i, none⟩ = some (.slice (some ⟨g, 0, none⟩) ((L i).length - 1) c) := by
    have hsb : ∀ o, (⟨s, o, none⟩ : Addr) ≠ ⟨b, 3 + i, none⟩ := fun o q => by have q := congrArg Addr.block q; have q : s = b := q; have := H0.out.blt; omega
    rw [World.cell?_setCell_other _ _ _ _ (hsb 2), World.cell?_setCell_other _ _ _ _ (hsb 1), World.cell?_setCell_other _ _ _ _ (hsb 0), World.cell?_setCell_same' _ _ _ (by rw [k0]; rfl)]
  refine ⟨rfl, ⟨_, n5, hg9, ?_⟩, ?_, g, c, hcell, by have := HCAP.out; omega⟩
  · have q2 : But (fun g => 1 ≤ ρ g ∧ ρ g ≤ 8) w w2 := But.of_below B2.out
    have q3 : But (fun g => 1 ≤ ρ g ∧ ρ g ≤ 8) w w3 := q2.trans' hb3 (fun x _ e => by have e : x = g := e; rw [e]; omega)
    have q4 := q3.trans' hb4 (fun x _ e => by have e : x = b := e; rw [e]; have := HB.out; omega)
    exact q4.trans' hb5 (fun x hx e => by have e : x = s := e; omega)
  · have nb : ∀ kk, (Value.slice a f.bs.length ca).ownBlock = some kk → kk < w.heap.size ∧ ρ kk = 7 + i := fun kk e => ⟨(F0.out.blk kk e).2, R0.out kk e⟩
    exact (((F0.out.keep (But.of_below B2.out : But (fun _ => False) w w2) (fun _ _ => id)).keep hb3 (fun kk e c => by have c : kk = g := c; have := (nb kk e).2; rw [c] at this; omega)).keep hb4 (fun kk e c => by have c : kk = b := c; have := (nb kk e).2; rw [c] at this; have := HB.out; omega)).keep hb5 (fun kk e c => by have c : kk = s := c; have := (nb kk e).1; omega)
end
end Go.Proofs.Ytghojbgjmpjhgaa
