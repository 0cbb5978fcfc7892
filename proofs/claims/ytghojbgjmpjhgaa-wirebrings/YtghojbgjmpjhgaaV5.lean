
/-
  The document's answer for the wire: Damage.
-/
import Derived.Test.YtghojbgjmpjhgaaV4
namespace Go.Proofs.Ytghojbgjmpjhgaa
open Go.RowKit

theorem flat_set3 (l : List (Value × Frm)) (k : Nat) (hk : k < l.length) (q : Value × Frm) : (((flat l).set (k * 3) q.1).set (k * 3 + 1) (.bool q.2.bad)).set (k * 3 + 2) (.int .i64 q.2.tick) = flat (l.set k q) := by
  induction l generalizing k with
  | nil => simp at hk
  | cons p l ih =>
    cases k with
    | zero => simp [flat_cons]
    | succ k =>
      rw [show (k + 1) * 3 = k * 3 + 1 + 1 + 1 by omega, show k * 3 + 1 + 1 + 1 + 1 = k * 3 + 1 + 1 + 1 + 1 from rfl, show k * 3 + 1 + 1 + 1 + 2 = k * 3 + 2 + 1 + 1 + 1 by omega, List.set_cons_succ, flat_cons, flat_cons, ← ih k (by simpa using hk)]
      simp only [List.set_cons_succ]

section
variable {ρ : Nat → Nat} {w w' : World} {b : Nat} {dv : Nat → Nat} {ck : Int} {L : Nat → List (Value × Frm)} {D : Nat → Dev}
theorem RNet.inplace (h : RNet ρ w b dv ck L D) (i : Nat) (hi : i < 2) {l : List (Value × Frm)} (hb : But (fun g => ρ g = 15 + i) w w') (hL : ∀ v, w.cell? ⟨b, 2 + i, none⟩ = some v → RLst ρ w i v (L i) → RLst ρ w' i v l) (hf : ∀ p ∈ l, p.2.bs.length ≤ 274) :
    RNet ρ w' b dv ck (upd L i l) D := by
  have nb : ¬ ρ b = 15 + i := by rw [h.rb]; omega
  have cb : ∀ j, w'.cell? ⟨b, j, none⟩ = w.cell? ⟨b, j, none⟩ := fun j => hb.cell (p := ⟨b, j, none⟩) h.blt nb
  refine ⟨fun g e => Nat.lt_of_lt_of_le (h.lt g e) hb.size, h.rb, h.rd, (cb 4).trans h.clock, fun j hj => (cb _).trans (h.ends j hj), fun j => (hb.frozen (p := ⟨b, j, none⟩) h.blt nb).trans (h.fz j), fun j hj => ?_, fun j hj => ?_, h.ok, fun j hj => ?_⟩
  · obtain ⟨u, hu, hL2⟩ := h.ls j hj
    by_cases e : j = i
    · subst e
      rw [upd_same]
      exact ⟨u, (cb _).trans hu, hL u hu hL2⟩
    · rw [upd_other _ _ _ _ e]
      exact ⟨u, (cb _).trans hu, hL2.but hb (fun g e => by omega) (fun _ _ => rfl)⟩
  · exact (h.dev j hj).ext hb (fun g e => by omega) (fun e => by have := h.rd j hj; omega) (fun _ _ => rfl)
  · by_cases e : j = i
    · subst e; rw [upd_same]; exact hf
    · rw [upd_other _ _ _ _ e]; exact h.fl j hj

/-- a frame of a list is another one -/
theorem RNet.setAt (h : RNet ρ w b dv ck L D) (i j : Nat) (hi : i < 2) (hj : j < (L i).length) {g n c : Nat} (hv : w.cell? ⟨b, 2 + i, none⟩ = some (.slice (some ⟨g, 0, none⟩) n c)) (q : Value × Frm) (hq : IsF (Mine ρ) w q.1 q.2.bs) (hql : q.2.bs.length ≤ 274) :
    RNet ρ (((w.setCell ⟨g, j * 3, none⟩ q.1).setCell ⟨g, j * 3 + 1, none⟩ (.bool q.2.bad)).setCell ⟨g, j * 3 + 2, none⟩ (.int .i64 q.2.tick)) b dv ck (upd L i ((L i).set j q)) D ∧ But (RRo ρ) w (((w.setCell ⟨g, j * 3, none⟩ q.1).setCell ⟨g, j * 3 + 1, none⟩ (.bool q.2.bad)).setCell ⟨g, j * 3 + 2, none⟩ (.int .i64 q.2.tick)) := by
  obtain ⟨v0, hv0, hL0⟩ := h.ls i hi
  rw [hv] at hv0
  cases hv0
  have hr := hL0.role g rfl
  have hb : But (Only g) w (((w.setCell ⟨g, j * 3, none⟩ q.1).setCell ⟨g, j * 3 + 1, none⟩ (.bool q.2.bad)).setCell ⟨g, j * 3 + 2, none⟩ (.int .i64 q.2.tick)) := (((But.refl (Only g) w).setCell (p := ⟨g, j * 3, none⟩) (.inr rfl) _).setCell (p := ⟨g, j * 3 + 1, none⟩) (.inr rfl) _).setCell (p := ⟨g, j * 3 + 2, none⟩) (.inr rfl) _
  refine ⟨h.inplace i hi (hb.mono (fun x e => by have e : x = g := e; rw [e]; exact hr)) (fun v hv' hL => ?_) (fun p hp => ?_), hb.mono (fun x e => by have e : x = g := e; rw [e]; unfold RRo; rw [hr]; omega)⟩
  · rw [hv] at hv'
    cases hv'
    refine ⟨?_, hL.role, fun p hp => ?_⟩
    · have hrow := hL.row
      unfold Row3 at hrow ⊢
      obtain ⟨a', c', e'⟩ := hL.row.shape
      simp only [Value.slice.injEq] at e'
      obtain ⟨_, rfl, rfl⟩ := e'
      rw [List.length_set, ← flat_set3 _ _ hj q]
      exact (World.ownsRow.stored (World.ownsRow.stored (World.ownsRow.stored hrow _ _).1 _ _).1 _ _).1
    · have hp' : IsF (Mine ρ) w p.1 p.2.bs := by
        rcases mem_set hp with rfl | ⟨j', _, hp⟩
        · exact hq
        · exact hL.fr p (List.mem_of_getElem? hp)
      exact hp'.ext hb (fun x e => by have e : x = g := e; rw [e, hr]; omega) (fun _ _ => rfl)
  · rcases mem_set hp with rfl | ⟨j', _, hp⟩
    · exact hql
    · exact h.fl i hi _ (List.mem_of_getElem? hp)

set_option maxRecDepth 100000 in
set_option maxHeartbeats 4000000 in
theorem rDamage_yes (h : RNet ρ w b dv ck L D) (i j t : Nat) (hi : i < 2) (a : Option Addr) (c : Nat) (f : Frm) (hp : (L i)[j]? = some (.slice a f.bs.length c, f)) (ht : t < 8 * f.bs.length) :
    Calls Try.prog 37 #[.pointer (some ⟨b, 0, none⟩), .int .i64 (i : Int), .int .i64 (j : Int), .int .i64 (t : Int)] w fun e w' => e = .returned (.int .i64 0) ∧ ∃ v, RDid ρ w w' b dv ck (upd L i ((L i).set j (v, ⟨flip f.bs t, true, f.tick⟩))) D := by
  have R := hide (there_any h (i : Int) (j : Int))
  have hjl := (List.getElem?_eq_some_iff.1 hp).1
  rw [thE_yes hi (by unfold lens; omega)] at R
  obtain ⟨v, hv, hL⟩ := h.ls i hi
  have hf := hL.fr _ (List.mem_of_getElem? hp)
  have hlen := h.fl i hi _ (List.mem_of_getElem? hp)
  obtain ⟨g, cl, rfl, hgr, hg, c0, c1, c2, _⟩ := hL.at hp
  simp only at hf hlen c0 c1 c2
  have hblt := h.blt
  have hi2 : (i : Int) < 2 := by omega
  have hi0 : (0 : Int) ≤ (i : Int) := by omega
  have hj : (j : Int) < (L i).length := by omega
  have hj0 : (0 : Int) ≤ (j : Int) := by omega
  have ht1 : (t : Int) < 8 * (f.bs.length : Int) := by omega
  have ht2 : ¬ 8 * (f.bs.length : Int) ≤ (t : Int) := by omega
  have hz1 : (8 : Int) * (f.bs.length : Int) ≤ 2192 := by omega
  have H := hide h
  have HF := hide hf
  have HJ := hide hjl
  have HT := hide ht
  have HLN := hide hlen
  clear h hL hf hp
  go_enter Try.func37, Try.ntmps37
  go_wp2_with fail
  refine R.out.mono ?_
  rintro e w1 ⟨rfl, rfl⟩
  clear R
  go_wp2_with (at_builtin; refine wpList_grow rfl _ _ rfl rfl (w1.heap.size + 1) (Mine ρ) _ _ [] f.bs rfl rfl (Gro.nil _ _) ?g2 ?g3 ?g4 f.bs (List.nil_append _) ?_)
  · exact HF.out.later ((Below.refl _ _).alloc (Nat.le_refl _) _)
  · simp
  · have := HLN.out; simp; omega
  intro ba bc w2 hbc hG hB
  have hG' := hG
  obtain ⟨_, ⟨e1, e2⟩ | ⟨gb, cb0, cur, e1, hgb, hh, _⟩⟩ := hG'
  · have := HT.out; omega
  simp only [Value.slice.injEq] at e1
  obtain ⟨rfl, _, rfl⟩ := e1
  have hq : t / 8 < f.bs.length := by have := HT.out; omega
  have cb : w2.cell? ⟨gb, t / 8, none⟩ = some (.int .u8 (f.bs[t / 8]?.getD 0)) := by
    rw [World.ownsRow.cellAt hG _ (by omega)]
    simp [hq]
  have fb := World.ownsRow.frozenAt hG (t / 8)
  have bw : Below w1.heap.size w1 w2 := ((Below.refl _ w1).alloc (Nat.le_refl _) (.cells #[.slice a f.bs.length c, .bool f.bad, .int .i64 f.tick] 48)).trans (hB.mono (by omega))
  have hbut : But (fun x => w1.heap.size + 1 ≤ x) (w1.alloc (.cells #[.slice a f.bs.length c, .bool f.bad, .int .i64 f.tick] 48)) w2 := ⟨hB.os, hB.tape, hB.output, hB.size, fun k hk hn => hB.block k (by omega)⟩
  have t2 := (T3.new w1 (.slice a f.bs.length c) (.bool f.bad) (.int .i64 f.tick) 48).but hbut (by omega)
  have n2 := H.out.later bw
  have hv2 := (bw.cell (p := ⟨b, 2 + i, none⟩) hblt).trans hv
  have fg : ∀ k, w2.frozen? ⟨g, k, none⟩ = false := fun k => by
    obtain ⟨v', hv', hL'⟩ := n2.ls i hi
    rw [hv2] at hv'
    cases hv'
    obtain ⟨a', c', e'⟩ := hL'.row.shape
    simp only [Value.slice.injEq] at e'
    obtain ⟨_, _, rfl⟩ := e'
    exact World.ownsRow.frozenAt hL'.row k
  have d0 := (bw.cell (p := ⟨g, j * 3, none⟩) hg).trans c0
  have d1 := (bw.cell (p := ⟨g, j * 3 + 1, none⟩) hg).trans c1
  have d2 := (bw.cell (p := ⟨g, j * 3 + 2, none⟩) hg).trans c2
  have fg0 := fg (j * 3)
  have fg1 := fg (j * 3 + 1)
  have fg2 := fg (j * 3 + 2)
  have hgl : w1.heap.size < gb := by omega
  obtain ⟨s, hs⟩ : ∃ s, s = w1.heap.size := ⟨_, rfl⟩
  have bw3 : Below w1.heap.size w1 (w2.setCell ⟨gb, t / 8, none⟩ (.int .u8 (flipB (f.bs[t / 8]?.getD 0) (t % 8)))) := bw.setCell (p := ⟨gb, t / 8, none⟩) (by simp only; omega) _
  have n3 := (H.out.later bw3).drew
  have gro3 : Gro (w1.heap.size + 1) (w2.setCell ⟨gb, t / 8, none⟩ (.int .u8 (flipB (f.bs[t / 8]?.getD 0) (t % 8)))) (.slice (some ⟨gb, 0, none⟩) f.bs.length bc) (flip f.bs t) := by
    unfold Gro flip
    simp only [List.length_set, List.map_set]
    exact (World.ownsRow.stored hG (t / 8) _).1
  have f3 : IsF (Mine ρ) (w2.setCell ⟨gb, t / 8, none⟩ (.int .u8 (flipB (f.bs[t / 8]?.getD 0) (t % 8)))).drew (.slice (some ⟨gb, 0, none⟩) (flip f.bs t).length bc) (flip f.bs t) := by
    rw [flip_len]
    exact (gro3.isF (A := Mine ρ) (fun x hx e => by have := H.out.lt x e; omega)).drew
  have hv3 : (w2.setCell ⟨gb, t / 8, none⟩ (.int .u8 (flipB (f.bs[t / 8]?.getD 0) (t % 8)))).drew.cell? ⟨b, 2 + i, none⟩ = some (.slice (some ⟨g, 0, none⟩) (L i).length cl) := (bw3.cell (p := ⟨b, 2 + i, none⟩) hblt).trans hv
  obtain ⟨n4, hb4⟩ := n3.setAt i j hi HJ.out hv3 (.slice (some ⟨gb, 0, none⟩) (flip f.bs t).length bc, ⟨flip f.bs t, true, f.tick⟩) f3 (by rw [flip_len]; exact HLN.out)
  have hbr : But (RRo ρ) w1 (w2.setCell ⟨gb, t / 8, none⟩ (.int .u8 (flipB (f.bs[t / 8]?.getD 0) (t % 8)))).drew := (But.of_below bw3).drew
  have hRD : RDid ρ (w2.setCell ⟨gb, t / 8, none⟩ (.int .u8 (flipB (f.bs[t / 8]?.getD 0) (t % 8)))).drew _ b dv ck (upd L i ((L i).set j (.slice (some ⟨gb, 0, none⟩) (flip f.bs t).length bc, ⟨flip f.bs t, true, f.tick⟩))) D := ⟨ρ, n4, fun _ _ => rfl, hb4⟩
  have hRD2 := rdid_trans (fun _ _ => rfl) hbr hRD
  have HD := hide hRD2
  clear hRD hRD2 hbr
  simp only [flip_len] at HD
  unfold flipB at HD
  rw [← hs] at t2
  obtain ⟨x0, x1, x2, _, _, _⟩ := t2
  have hgb2 : gb ≠ g := by omega
  have hgs : gb ≠ s := by omega
  have hgs2 : g ≠ s := by omega
  have hbs : b ≠ s := by omega
  have hbg : b ≠ gb := by omega
  generalize hxx : f.bs[t / 8]?.getD 0 = x at *
  clear n2 n3 n4 hb4 f3 gro3 hv3 bw3 hG hB hh hbut bw fg H HF hxx hv c0 c1 c2
  have hs' := hs
  clear hs
  go_wp2
  rw [← hs']
  clear hs'
  go_region
  all_goals go_wp2
  all_goals go_ret
  all_goals exact ⟨rfl, _, HD.out⟩
end
end Go.Proofs.Ytghojbgjmpjhgaa
