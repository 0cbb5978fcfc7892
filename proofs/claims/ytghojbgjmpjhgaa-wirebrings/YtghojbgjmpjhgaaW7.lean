
/-
  Package wire: Double, Damage.
-/
import Derived.Test.YtghojbgjmpjhgaaW6
namespace Go.Proofs.Ytghojbgjmpjhgaa
open Go.RowKit

/-- a call of a Go function as one step of a region that draws -/
theorem step_call {ops : Array Oper} {o : Oper} {a : Act} {w : World} {K : Act → World → Prop} {Q : Exit → Act → World → Prop} {E : Prop} (hg : o.guard = none) (F : FuncId) (vals : Array Value) (hex : (execOp a.eval o).run Try.prog w = .ok (.enter F vals) w)
    {R : Ending → World → Prop} (hC : Calls Try.prog F vals w R) (hR : ∀ e w', R e w' → ∃ v, e = .returned v) (hK : ∀ v w', R (.returned v) w' → K (a.put o.dst v) w') :
    if Region.wanted o (yielded ops a.tmps) = true then Oper.wp Try.prog o a w K Q else E := by
  have hw : Region.wanted o (yielded ops a.tmps) = true := by simp [Region.wanted, hg]
  rw [if_pos hw]
  unfold Oper.wp
  rw [hex, Oper.upon_enter]
  refine hC.mono ?_
  intro e w' h
  obtain ⟨v, rfl⟩ := hR e w' h
  exact hK v w' h

def dbA (l : Nat → List Frm) (d k : Int) : Nat → List Frm := if thE (fun i => (l i).length) d k = 0 then upd l d.toNat (l d.toNat ++ [((l d.toNat)[k.toNat]?).getD ⟨[], false, 0⟩]) else l
theorem lens_ab (L : Nat → List (Value × Frm)) : (fun i => (ab L i).length) = lens L := by funext i; simp [ab, lens]

section
variable {ρ : Nat → Nat} {w : World} {b : Nat} {dv : Nat → Nat} {ck : Int} {L : Nat → List (Value × Frm)} {D : Nat → Dev}

set_option maxRecDepth 100000 in
set_option maxHeartbeats 4000000 in
theorem Double_any (h : Net ρ w b dv ck L D) (d k : Int) (hl : ∀ i, i < 2 → (L i).length ≤ 2513169434843) : Calls Try.prog 16 #[.pointer (some ⟨b, 0, none⟩), .int .i64 d, .int .i64 k] w fun e w' => e = .returned (.int .i64 (thE (lens L) d k)) ∧ ∃ L', Did ρ w w' b dv ck L' D ∧ ab L' = dbA (ab L) d k := by
  have R := hide (stands_any h d k)
  unfold dbA
  rw [lens_ab]
  by_cases e0 : thE (lens L) d k = 0
  · obtain ⟨i, j, p, rfl, rfl, hi, hp⟩ := thE_get e0
    rw [if_pos e0, Int.toNat_natCast, Int.toNat_natCast, e0]
    rw [e0] at R
    obtain ⟨a, c, ep⟩ := h.shape hi hp
    have hlen := h.fl i hi p (List.mem_of_getElem? hp)
    have hli := hl i hi
    obtain ⟨v, hv, hL⟩ := h.ls i hi
    have hf := (hL.fr p (List.mem_of_getElem? hp)).1
    have hpd : ∀ q ∈ L i, ∀ k, q.1.ownBlock = some k → k < w.heap.size := fun q hq k e => ((hL.fr q hq).1.blk k e).2
    obtain ⟨g, cl, rfl, hgr, hg, c0, c1, c2, _⟩ := hL.at hp
    have EQ : Hid ((ab L i)[j]?.getD ⟨[], false, 0⟩ = p.2) := by unfold ab Hid; rw [List.getElem?_map, hp]; rfl
    rw [EQ.out]
    rw [ep] at hf c0 c1 c2
    simp only at hf c0 c1 c2
    generalize p.2 = f at *
    have A := hide (fun W (hW : IsF (fun _ => False) W (.slice a f.bs.length c) f.bs) => another_any hW (by omega) f.bad f.tick)
    have V0 := hide (hf.isF (A := fun _ => False) (fun _ _ => id))
    have H := hide h
    have HH := hide (And.intro hlen (And.intro hli hpd))
    have hblt := h.blt
    have hi2 : (i : Int) < 2 := by omega
    have hi0 : (0 : Int) ≤ (i : Int) := by omega
    have hj : (j : Int) < (L i).length := by have := (List.getElem?_eq_some_iff.1 hp).1; omega
    have hj0 : (0 : Int) ≤ (j : Int) := by omega
    have fz := h.fz (3 + i)
    have KK : Hid (∀ w1 v', Gro w.heap.size w1 v' f.bs → Below w.drew.heap.size w.drew w1 → w1.cell? ⟨b, 3 + i, none⟩ = some (.slice (some ⟨g, 0, none⟩) (L i).length cl) ∧ w1.frozen? ⟨b, 3 + i, none⟩ = false ∧ b < w1.heap.size ∧
        ∃ g' c' w', (Builtin.append_ #[56, 56] 56 #[.slice (some ⟨g, 0, none⟩) (L i).length cl, .slice (some ⟨w1.heap.size, 0, none⟩) 1 1]).run Try.prog (w1.alloc (.cells #[v', .bool f.bad, .int .i64 f.tick] 48)) = .ok (.slice (some ⟨g', 0, none⟩) ((L i).length + 1) c') w' ∧ w'.cell? ⟨b, 3 + i, none⟩ = some (.slice (some ⟨g, 0, none⟩) (L i).length cl) ∧ w'.frozen? ⟨b, 3 + i, none⟩ = false ∧
          ∃ L', Did ρ w (w'.setCell ⟨b, 3 + i, none⟩ (.slice (some ⟨g', 0, none⟩) ((L i).length + 1) c')) b dv ck L' D ∧ ab L' = upd (ab L) i (ab L i ++ [f])) := by
      intro w1 v' hG hB
      have hB : Below w.heap.size w w1 := ⟨hB.os, hB.tape, hB.output, hB.size, hB.block⟩
      have hv1 : w1.cell? ⟨b, 3 + i, none⟩ = some (.slice (some ⟨g, 0, none⟩) (L i).length cl) := (hB.cell (p := ⟨b, 3 + i, none⟩) hblt).trans hv
      have n1 : Net (role7 ρ v' i) w1 b dv ck L D := h.keep (K := fun _ => False) (But.of_below hB) (fun _ e => e.elim) (role7_low (fun k e => (hG.blk k e).1)) (role7_lt (fun k e => (hG.blk k e).2) (fun g e => Nat.lt_of_lt_of_le (h.lt g e) hB.size))
      have hba : But (fun _ => False) w1 (w1.alloc (.cells #[v', .bool f.bad, .int .i64 f.tick] 48)) := (But.refl _ w1).alloc _
      obtain ⟨g', c', w', hrun, k0, k1, hD⟩ := push_run (n1.al (.cells #[v', .bool f.bad, .int .i64 f.tick] 48)) i hi _ ((hba.cell (p := ⟨b, 3 + i, none⟩) n1.blt id).trans hv1) (v', f) (hG.low.keep hba (fun _ _ => id)) role7_at (fun q hq k e e2 => by
          have h1 := hpd q hq k e
          have h2 := (hG.blk k e2).1
          omega) hlen hli _ (T3.new w1 v' (.bool f.bad) (.int .i64 f.tick) 48)
      refine ⟨hv1, (But.of_below (K := fun _ => False) hB).frozen (p := ⟨b, 3 + i, none⟩) hblt id |>.trans fz, n1.blt, g', c', w', hrun, k0, k1, _, did_trans (role7_low (fun k e => (hG.blk k e).1)) (But.of_below hB) (did_trans (fun _ _ => rfl) ((But.refl _ w1).alloc _) hD), ?_⟩
      rw [ab_upd, List.map_append]; rfl
    clear h hL hf hpd ep hp e0 hlen hli hl hg
    go_enter Try.func16, Try.ntmps16
    go_wp2_with fail
    refine R.out.mono ?_
    rintro e w' ⟨rfl, rfl⟩
    clear R
    go_wp2
    go_region_law (first
      | (refine step_call rfl 50 #[.agg #[.slice a f.bs.length c, .bool f.bad, .int .i64 f.tick]] (by simp [Act.eval, go_sem]) (A.out _ V0.out.drew) (fun e w' h => by obtain ⟨_, _, rfl, _⟩ := h; exact ⟨_, rfl⟩) ?_; rintro _ w1 ⟨a', c', hre, hG1, hB1⟩; cases hre; obtain ⟨k0, k1, k2, g', c2, w4, hrun, k3, k4, hL4⟩ := KK.out w1 _ hG1 hB1; have HR := hide hrun; have HD := hide hL4; clear hG1 hB1 hrun hL4)
      | (refine step_app rfl 56 _ _ rfl rfl _ _ _ _ (by simp [Act.eval]) (by simp [Act.eval]) HR.out ?_))
    all_goals go_wp2
    all_goals go_ret
    all_goals exact ⟨rfl, HD.out⟩
  · rw [if_neg e0]
    obtain ⟨er, her⟩ : ∃ er, er = thE (lens L) d k := ⟨_, rfl⟩
    rw [← her] at R e0 ⊢
    have q : (er != 0) = true := by simp [e0]
    have H := hide h
    clear her h
    go_enter Try.func16, Try.ntmps16
    go_wp2_with fail
    refine R.out.mono ?_
    rintro e w' ⟨rfl, rfl⟩
    go_wp2
    go_ret
    exact ⟨rfl, L, H.out.did, rfl⟩
end
end Go.Proofs.Ytghojbgjmpjhgaa
