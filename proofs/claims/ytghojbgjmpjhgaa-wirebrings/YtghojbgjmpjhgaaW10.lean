
/-
  Package wire: Move.
-/
import Derived.Test.YtghojbgjmpjhgaaW9
namespace Go.Proofs.Ytghojbgjmpjhgaa
open Go.RowKit

theorem pw_ins {l : List (Value × Frm)} {p : Value × Frm} (t : Nat) (hp : l.Pairwise (fun p q => ∀ k, p.1.ownBlock = some k → q.1.ownBlock ≠ some k)) (hpd : ∀ q ∈ l, ∀ k, q.1.ownBlock = some k → p.1.ownBlock ≠ some k) : (l.take t ++ [p] ++ l.drop t).Pairwise (fun p q => ∀ k, p.1.ownBlock = some k → q.1.ownBlock ≠ some k) := by
  have e : l = l.take t ++ l.drop t := (List.take_append_drop t l).symm
  have hp' := hp
  rw [e] at hp'
  obtain ⟨h1, h2, h3⟩ := List.pairwise_append.1 hp'
  rw [List.append_assoc]
  refine List.pairwise_append.2 ⟨h1, List.pairwise_append.2 ⟨List.pairwise_singleton _ _, h2, fun q hq r hr k ek => ?_⟩, fun q hq r hr => ?_⟩
  · rw [List.mem_singleton] at hq; subst hq
    exact fun e2 => hpd r (List.mem_of_mem_drop hr) k e2 ek
  · rcases List.mem_append.1 hr with hr | hr
    · rw [List.mem_singleton] at hr; subst hr
      exact hpd q (List.mem_of_mem_take hq)
    · exact h3 q hq r hr

/-- a frame put in at a place -/
theorem Lst.ins {ρ : Nat → Nat} {w w' : World} {i g n c c' t : Nat} {l : List (Value × Frm)} {p : Value × Frm} (h : Lst ρ w i (.slice (some ⟨g, 0, none⟩) n c) l) (ht : t ≤ l.length) (hG : Gro 0 w p.1 p.2.bs) (hpr : ∀ k, p.1.ownBlock = some k → ρ k = 7 + i) (hpd : ∀ q ∈ l, ∀ k, q.1.ownBlock = some k → p.1.ownBlock ≠ some k)
    (hr : w'.ownsRow 0 48 3 (.slice (some ⟨g, 0, none⟩) (l.length + 1) c') (l.length + 1) ((flat l).take (t * 3) ++ cel p ++ (flat l).drop (t * 3))) (hb : But (Only g) w w') :
    Lst ρ w' i (.slice (some ⟨g, 0, none⟩) (l.length + 1) c') (l.take t ++ [p] ++ l.drop t) := by
  have hg := h.role g rfl
  have keepP : ∀ q : Value × Frm, Gro 0 w q.1 q.2.bs → (∀ k, q.1.ownBlock = some k → ρ k = 7 + i) → Gro 0 w' q.1 q.2.bs := fun q hq hk => hq.keep hb (fun k e c => by have c : k = g := c; have h1 := hk k e; rw [c] at h1; omega)
  refine ⟨?_, fun k e => by have e : some g = some k := e; cases e; exact hg, fun q hq => ?_, pw_ins t h.pw hpd⟩
  · unfold Row3
    rw [flat_take l t ht, flat_drop l t ht, show flat (l.take t) ++ cel p ++ flat (l.drop t) = flat (l.take t ++ [p] ++ l.drop t) by rw [flat_append, flat_append]; rfl] at hr
    rw [show (l.take t ++ [p] ++ l.drop t).length = l.length + 1 by simp only [List.length_append, List.length_take, List.length_drop, List.length_cons, List.length_nil]; omega]
    exact hr
  · have : q ∈ l ∨ q = p := by
      rcases List.mem_append.1 hq with hq | hq
      · rcases List.mem_append.1 hq with hq | hq
        · exact .inl (List.mem_of_mem_take hq)
        · exact .inr (List.mem_singleton.1 hq)
      · exact .inl (List.mem_of_mem_drop hq)
    rcases this with hq | rfl
    · exact ⟨keepP q (h.fr q hq).1 (h.fr q hq).2, (h.fr q hq).2⟩
    · exact ⟨keepP q hG hpr, hpr⟩

def mvE (l : Nat → List Frm) (d k t : Int) : Int := if thE (fun i => (l i).length) d k = 0 then (if 0 ≤ t ∧ t < ((l d.toNat).length : Int) then 0 else 1) else thE (fun i => (l i).length) d k
/-- taken out, and put in -/
def moved {α : Type} (l : List α) (k t : Nat) (p : α) : List α := (l.eraseIdx k).take t ++ [p] ++ (l.eraseIdx k).drop t
def mvA (l : Nat → List Frm) (d k t : Int) : Nat → List Frm :=
  if mvE l d k t = 0 then upd l d.toNat (moved (l d.toNat) k.toNat t.toNat (((l d.toNat)[k.toNat]?).getD ⟨[], false, 0⟩)) else l

section
variable {ρ : Nat → Nat} {w : World} {b : Nat} {dv : Nat → Nat} {ck : Int} {L : Nat → List (Value × Frm)} {D : Nat → Dev}

set_option maxRecDepth 100000 in
set_option maxHeartbeats 4000000 in
theorem Move_yes (h : Net ρ w b dv ck L D) (i j t : Nat) (hi : i < 2) (a : Option Addr) (ca : Nat) (f : Frm) (hp : (L i)[j]? = some (.slice a f.bs.length ca, f)) (ht : t < (L i).length) :
    Calls Try.prog 23 #[.pointer (some ⟨b, 0, none⟩), .int .i64 (i : Int), .int .i64 (j : Int), .int .i64 (t : Int)] w fun e w' => e = .returned (.int .i64 0) ∧ Did ρ w w' b dv ck (upd L i (moved (L i) j t (.slice a f.bs.length ca, f))) D := by
  have R := hide (stands_any h (i : Int) (j : Int))
  have hjl := (List.getElem?_eq_some_iff.1 hp).1
  rw [thE_yes hi (by unfold lens; omega)] at R
  have X := hide (takeOut_any h i j hi a ca f hp)
  obtain ⟨v0, hv0, hL0⟩ := h.ls i hi
  have hpm := List.mem_of_getElem? hp
  have hf0 := hL0.fr _ hpm
  have hlen := h.fl i hi _ hpm
  have hpd : ∀ q ∈ (L i).eraseIdx j, ∀ k, q.1.ownBlock = some k → (Value.slice a f.bs.length ca).ownBlock ≠ some k := fun q hq => by
    rw [List.mem_eraseIdx_iff_getElem?] at hq
    obtain ⟨j', hne, hq⟩ := hq
    exact pw_ne hp hL0.pw hq hne
  obtain ⟨av, cv, hvs⟩ := hL0.row.shape
  subst hvs
  have FR : Hid (∀ k, (Value.slice a f.bs.length ca).ownBlock = some k → k < w.heap.size ∧ ρ k = 7 + i) := fun k e => ⟨(hf0.1.blk k e).2, hf0.2 k e⟩
  have PD := hide hpd
  have HLN := hide hlen
  have HF := hide h
  have hi2 : (i : Int) < 2 := by omega
  have hi0 : (0 : Int) ≤ (i : Int) := by omega
  have ht1 : (t : Int) < ((L i).length : Int) := by omega
  have ht0 : (0 : Int) ≤ (t : Int) := by omega
  have hbl : ((L i).length : Int) ≤ 9223372036854775807 := by
    obtain ⟨_, ⟨_, e2⟩ | ⟨g', cap, cur, e, _, _, h1, h2, _⟩⟩ := hL0.row
    · omega
    · unfold maxLen at h2; omega
  clear h hL0 hf0 hpm hlen hpd hp
  go_enter Try.func23, Try.ntmps23
  go_wp2_with fail
  refine R.out.mono ?_
  rintro e w' ⟨rfl, rfl⟩
  clear R
  go_wp2_with fail
  refine X.out.mono ?_
  rintro e w1 ⟨rfl, ⟨ρ1, n1, he1, hb1⟩, hg1, g, c, hc1, hcap⟩
  clear X
  have n2 := n1.al (.cells #[.slice a f.bs.length ca, .bool f.bad, .int .i64 f.tick] 48)
  have t2 := T3.new w1 (.slice a f.bs.length ca) (.bool f.bad) (.int .i64 f.tick) 48
  have g2 : Gro 0 (w1.alloc (.cells #[.slice a f.bs.length ca, .bool f.bad, .int .i64 f.tick] 48)) (.slice a f.bs.length ca) f.bs := hg1.keep (K := fun _ => False) ((But.refl _ w1).alloc _) (fun _ _ => id)
  have hc2 : (w1.alloc (.cells #[.slice a f.bs.length ca, .bool f.bad, .int .i64 f.tick] 48)).cell? ⟨b, 3 + i, none⟩ = some (.slice (some ⟨g, 0, none⟩) ((L i).length - 1) c) := (((But.refl (fun _ => False) w1).alloc _).cell (p := ⟨b, 3 + i, none⟩) n1.blt id).trans hc1
  have hb2 : But (Ro ρ) w' (w1.alloc (.cells #[.slice a f.bs.length ca, .bool f.bad, .int .i64 f.tick] 48)) := But.alloc hb1 _
  obtain ⟨s, hs⟩ : ∃ s, s = w1.heap.size := ⟨_, rfl⟩
  rw [← hs] at t2
  clear n1 hb1 hg1 hc1
  have hs' := hs
  clear hs
  go_wp2
  rw [← hs']
  clear hs'
  generalize w1.alloc (.cells #[.slice a f.bs.length ca, .bool f.bad, .int .i64 f.tick] 48) = w2 at *
  obtain ⟨x0, x1, x2, _, _, _⟩ := t2
  obtain ⟨v2, hv2, hL2⟩ := n2.ls i hi
  rw [hc2] at hv2
  cases hv2
  rw [upd_same] at hL2
  have hgr := hL2.role g rfl
  have hel : ((L i).eraseIdx j).length = (L i).length - 1 := by rw [List.length_eraseIdx, if_pos hjl]
  obtain ⟨n, hn⟩ : ∃ n, (L i).length = n + 1 := ⟨(L i).length - 1, by omega⟩
  have hn1 : (L i).length - 1 = n := by omega
  have hsl : s < w2.heap.size := World.block_lt_of_cell? w2 _ x0
  have hblt := n2.blt
  -- the world at the call
  have n3 := (n2.al (.cells #[.slice a f.bs.length ca, .bool f.bad, .int .i64 f.tick] 48)).drew
  have hba : But (fun _ => False) w2 (w2.alloc (.cells #[.slice a f.bs.length ca, .bool f.bad, .int .i64 f.tick] 48)).drew := ((But.refl _ w2).alloc _).drew
  have hL3 := hL2.but hba (fun _ e => e.elim) (fun _ _ => (rfl : ρ1 _ = ρ1 _))
  have hrow3 := hL3.row
  unfold Row3 at hrow3
  rw [hel, hn1] at hrow3
  have hone : ∀ u ∈ flat ((L i).eraseIdx j), u.oneCell' = true := flat_one _ (fun p hp => (hL2.fr p hp).1.one)
  have hglt := (World.ownsRow.lt hL2.row g rfl).2
  have X := hide (Insert_any (s := w2.heap.size) (u0 := .slice a f.bs.length ca) (u1 := .bool f.bad) (u2 := .int .i64 f.tick) hrow3 hone (by omega) (show t ≤ n by omega) (heap_alloc_new w2 _) (by omega) (by simp [Value.oneCell']))
  have FIN : Hid (∀ w4, w4.ownsRow 0 48 3 (.slice (some ⟨g, 0, none⟩) (n + 1) c) (n + 1) ((flat ((L i).eraseIdx j)).take (t * 3) ++ [.slice a f.bs.length ca, .bool f.bad, .int .i64 f.tick] ++ (flat ((L i).eraseIdx j)).drop (t * 3)) → But (Only g) (w2.alloc (.cells #[.slice a f.bs.length ca, .bool f.bad, .int .i64 f.tick] 48)).drew w4 →
      w4.cell? ⟨b, 3 + i, none⟩ = some (.slice (some ⟨g, 0, none⟩) n c) ∧ w4.frozen? ⟨b, 3 + i, none⟩ = false ∧ Did ρ w' (w4.setCell ⟨b, 3 + i, none⟩ (.slice (some ⟨g, 0, none⟩) (n + 1) c)) b dv ck (upd L i (moved (L i) j t (.slice a f.bs.length ca, f))) D) := by
    intro w4 hr4 hb4
    have nb : ¬ Only g b := fun e => by have e : b = g := e; have := n2.rb; rw [e] at this; omega
    have hL4 := hL3.ins (p := (.slice a f.bs.length ca, f)) (t := t) (by omega) (g2.keep hba (fun _ _ => id)) (fun k e => (he1 k (FR.out k e).1).trans (FR.out k e).2) PD.out (by rw [hel, hn1]; exact hr4) hb4
    rw [hel, hn1] at hL4
    have hcell : (w2.alloc (.cells #[.slice a f.bs.length ca, .bool f.bad, .int .i64 f.tick] 48)).drew.cell? ⟨b, 3 + i, none⟩ = some (.slice (some ⟨g, 0, none⟩) n c) := by rw [← hn1]; exact (hba.cell (p := ⟨b, 3 + i, none⟩) hblt id).trans hc2
    refine ⟨(hb4.cell (p := ⟨b, 3 + i, none⟩) n3.blt nb).trans hcell, (hb4.frozen (p := ⟨b, 3 + i, none⟩) n3.blt nb).trans (n3.fz _), ?_⟩
    refine did_trans he1 hb2 ⟨ρ1, ?_, fun _ _ => rfl, ?_⟩
    · have n4 := n3.put (ρ' := ρ1) i hi (hb4.mono (fun x e => by have e : x = g := e; rw [e]; exact .inl hgr)) (fun _ _ => rfl) (fun x e => Nat.lt_of_lt_of_le (n3.lt x e) hb4.size) hL4 (fun q hq => by
        have : q ∈ L i ∨ q = (.slice a f.bs.length ca, f) := by
          rcases List.mem_append.1 hq with hq | hq
          · rcases List.mem_append.1 hq with hq | hq
            · exact .inl (mem_erase (List.mem_of_mem_take hq))
            · exact .inr (List.mem_singleton.1 hq)
          · exact .inl (mem_erase (List.mem_of_mem_drop hq))
        rcases this with hq | rfl
        · exact HF.out.fl i hi q hq
        · exact HLN.out)
      rw [show upd (upd L i ((L i).eraseIdx j)) i (((L i).eraseIdx j).take t ++ [(.slice a f.bs.length ca, f)] ++ ((L i).eraseIdx j).drop t) = upd L i (moved (L i) j t (.slice a f.bs.length ca, f)) from by funext k; unfold upd moved; split <;> rfl] at n4
      exact n4
    · have q1 : But (fun g => 1 ≤ ρ1 g ∧ ρ1 g ≤ 8) w2 (w2.alloc (.cells #[.slice a f.bs.length ca, .bool f.bad, .int .i64 f.tick] 48)).drew := hba.mono (fun _ e => e.elim)
      exact (q1.trans' hb4 (fun x _ e => by have e : x = g := e; rw [e]; omega)).setCell (p := ⟨b, 3 + i, none⟩) (.inr (by simp only; rw [n2.rb]; omega)) _
  rw [hn1] at hc2
  clear n2 n3 hL2 hL3 hrow3 hone g2 hb2 he1 hba hgr
  go_region_law (first
    | (refine step_call rfl 58 #[.slice (some ⟨g, 0, none⟩) n c, .int .i64 (t : Int), .slice (some ⟨w2.heap.size, 0, none⟩) 1 1] (by simp [Act.eval, go_sem]) X.out (fun e w' h => by obtain ⟨rfl, _⟩ := h; exact ⟨_, rfl⟩) ?_; rintro _ w4 ⟨hre, hr4, hb4⟩; cases hre; obtain ⟨k0, k1, hd4⟩ := FIN.out w4 hr4 hb4; have HD := hide hd4; clear hr4 hb4 hd4))
  all_goals go_wp2
  all_goals go_ret
  all_goals exact ⟨rfl, HD.out⟩
end
end Go.Proofs.Ytghojbgjmpjhgaa
