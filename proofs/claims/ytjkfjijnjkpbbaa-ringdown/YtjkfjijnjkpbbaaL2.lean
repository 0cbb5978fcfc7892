
/-
  The document's answer: Set, Front, Append, Trim.
-/
import Derived.Test.YtjkfjijnjkpbbaaL1
namespace Go.Proofs.Ytjkfjijnjkpbbaa
open Go.RowKit

/-- 'append' to a row of one's own, as one step of a region that draws its order -/
theorem step_more {ops : Array Oper} {o : Oper} {a : Act} {w : World} {K : Act → World → Prop} {Q : Exit → Act → World → Prop} {E : Prop} (hg : o.guard = none) (s x : Operand)
    (hop : o.op = Op.call { callee := Callee.builtin Builtin.append, args := #[s, x], argTypes := #[27, 27] }) (hty : o.type = 27)
    {A : Nat → Prop} {M : Nat} (v tv : Value) (xs ys : List Int) (hs : a.eval s = v) (hx : a.eval x = tv) (gx : Gro M w v xs) (iy : IsF A w tv ys) (hM : M ≤ w.heap.size) (hl : xs.length + ys.length ≤ 140737488355328) (L : List Int) (hL : xs ++ ys = L)
    (hK : ∀ (a' : Option Addr) (cap' : Nat) (w' : World), Gro M w' (.slice a' L.length cap') L → Below M w w' → K (a.put o.dst (.slice a' L.length cap')) w') :
    if Region.wanted o (yielded ops a.tmps) = true then Oper.wp Try.prog o a w K Q else E := by
  have hw : Region.wanted o (yielded ops a.tmps) = true := by simp [Region.wanted, hg]
  rw [if_pos hw]
  subst hL
  obtain ⟨v', w', hrun, g', b', _⟩ := append_run gx iy hM hl
  obtain ⟨a', cap', rfl, hle⟩ := g'.shape
  unfold Oper.wp
  simp only [execOp, hop, hty]
  simp [resolve, invoke, builtin, hx, hs, hrun, Result.andThen, -List.length_append]
  exact hK a' cap' w' g' b'

theorem own_one {n : Nat} {B : Nat → Buf} {id : Int} (h : owE n B id = 0) : ∃ i : Nat, id = i ∧ i < n ∧ (B i).refs = 1 := by
  unfold owE at h
  split at h
  · rename_i hu
    obtain ⟨i, rfl, hi, hr⟩ := usd_yes hu
    rw [Int.toNat_natCast] at h
    by_cases h1 : 1 < (B i).refs
    · rw [if_pos h1] at h; omega
    · exact ⟨i, rfl, hi, by omega⟩
  · omega

section
variable {A A' : Nat → Prop} {w : World} {b g n : Nat} {B : Nat → Buf}

/-- what a call finds, whatever was made new -/
theorem RPool.finds (H : RPool A w b g n B) (i : Nat) (hi : i < n) {W' : World} (hb : Below w.heap.size w W') :
    W'.cell? ⟨b, 0, none⟩ = some (.slice (some ⟨g, 0, none⟩) n n) ∧ (∃ u, W'.cell? ⟨g, i * 3 + 1, none⟩ = some u) ∧ (∃ u, W'.cell? ⟨g, i * 3 + 2, none⟩ = some u) ∧ W'.frozen? ⟨g, i * 3 + 1, none⟩ = false ∧ W'.frozen? ⟨g, i * 3 + 2, none⟩ = false ∧ RPool A W' b g n B := by
  have h := H.later hb
  obtain ⟨u1, k1, _⟩ := h.head i hi
  obtain ⟨u2, k2, _⟩ := h.data i hi
  exact ⟨h.cell, ⟨u1, k1⟩, ⟨u2, k2⟩, h.fz _, h.fz _, h⟩

set_option maxHeartbeats 2000000 in
theorem rSet_any (H : RPool A w b g n B) (hA : ∀ x, A x → x < w.heap.size) (id : Int) (v : Value) (bs : List Int) (hv : IsF A' w v bs) :
    Calls Try.prog 69 #[.pointer (some ⟨b, 0, none⟩), .int .i64 id, v] w fun e w' => e = .returned (.int .i64 (stE n B id bs)) ∧ RPool A w' b g n (stB n B id bs) ∧ But (Only g) w w' := by
  obtain ⟨va, vc, rfl, _, _⟩ := hv.shape
  have HH := hide H
  have U := hide (own_any H id)
  unfold stB stE
  by_cases e0 : owE n B id = 0
  · obtain ⟨i, rfl, hi, hr⟩ := own_one e0
    rw [e0] at U ⊢
    rw [if_pos rfl, Int.toNat_natCast]
    by_cases hl : 288 < bs.length
    · rw [if_pos hl, if_neg (by omega)]
      have hl' : (288 : Int) < (bs.length : Int) := by omega
      clear H hr hi e0 hl hv hA
      go_enter Try.func69, Try.ntmps69
      go_wp2_with fail
      refine U.out.mono ?_
      rintro e w1 ⟨rfl, rfl⟩
      go_wp2
      go_ret
      exact ⟨rfl, HH.out, But.refl _ _⟩
    · rw [if_neg hl, if_pos rfl]
      have hl' : (bs.length : Int) ≤ 288 := by omega
      have KK := hide (fun (W' : World) (hb : Below w.drew.heap.size w.drew W') => H.drew.finds i hi hb)
      have FV := hide hv.drew
      have c := H.drew.cell
      have hbg : ¬ b = g := H.ne
      have hgb : ¬ g = b := fun e => H.ne e.symm
      have HA := hide hA
      have z1 : (i : Int) < n := by omega
      clear H hr e0 hv hA
      go_enter Try.func69, Try.ntmps69
      go_wp2_with fail
      refine U.out.mono ?_
      rintro e w1 ⟨rfl, rfl⟩
      clear U
      go_wp2
      go_region_law (refine step_more rfl _ _ rfl rfl _ _ [] bs (by simp [Act.eval]) (by simp [Act.eval, Act.put]) (Gro.nil _ _) FV.out (Nat.le_refl _) (by simp; omega) bs (List.nil_append _) ?_; intro a' cap' w' hG hB; obtain ⟨hc', ⟨u1, k1⟩, ⟨u2, k2⟩, f1, f2, hd⟩ := KK.out _ hB; have HD := hide hd; have HG := hide hG; have HBB := hide hB; clear hd hG hB)
      all_goals go_wp2
      all_goals go_ret
      all_goals refine ⟨rfl, ?_, ((But.of_below (undrew HBB.out)).cellb _ _).cellb _ _⟩
      all_goals have fin := (HD.out.setData i hi _ bs (HG.out.isF (fun x hx ha => by have h1 := HA.out x ha; have h3 : w1.heap.size ≤ x := hx; omega)) HG.out.flat (by omega)).setHead i hi (.slice none 0 0) [] (IsF.nil _ _)
      all_goals rw [upd_upd, upd_same] at fin
      all_goals exact fin
  · rw [if_neg e0, if_neg e0]
    clear H hv
    generalize owE n B id = x at *
    have q : (x == 0) = false := beq_no e0
    clear e0
    go_enter Try.func69, Try.ntmps69
    go_wp2_with fail
    refine U.out.mono ?_
    rintro e w1 ⟨rfl, rfl⟩
    go_wp2
    go_ret
    exact ⟨rfl, HH.out, But.refl _ _⟩

set_option maxHeartbeats 2000000 in
theorem rFront_any (H : RPool A w b g n B) (hA : ∀ x, A x → x < w.heap.size) (id : Int) (v : Value) (bs : List Int) (hv : IsF A' w v bs) :
    Calls Try.prog 71 #[.pointer (some ⟨b, 0, none⟩), .int .i64 id, v] w fun e w' => e = .returned (.int .i64 (foE n B id bs)) ∧ RPool A w' b g n (foB n B id bs) ∧ But (Only g) w w' := by
  obtain ⟨va, vc, rfl, _, _⟩ := hv.shape
  have HH := hide H
  have U := hide (own_any H id)
  unfold foB foE
  by_cases e0 : owE n B id = 0
  · obtain ⟨i, rfl, hi, hr⟩ := own_one e0
    rw [e0] at U ⊢
    rw [if_pos rfl, Int.toNat_natCast]
    by_cases hl : 104 < bs.length
    · rw [if_pos hl, if_neg (by omega)]
      have hl' : (104 : Int) < (bs.length : Int) := by omega
      clear H hr hi e0 hl hv hA
      go_enter Try.func71, Try.ntmps71
      go_wp2_with fail
      refine U.out.mono ?_
      rintro e w1 ⟨rfl, rfl⟩
      go_wp2
      go_ret
      exact ⟨rfl, HH.out, But.refl _ _⟩
    · rw [if_neg hl, if_pos rfl]
      have hl' : (bs.length : Int) ≤ 104 := by omega
      have KK := hide (fun (W' : World) (hb : Below w.drew.heap.size w.drew W') => H.drew.finds i hi hb)
      have FV := hide hv.drew
      have c := H.drew.cell
      have HA := hide hA
      have z1 : (i : Int) < n := by omega
      clear H hr e0 hv hA
      go_enter Try.func71, Try.ntmps71
      go_wp2_with fail
      refine U.out.mono ?_
      rintro e w1 ⟨rfl, rfl⟩
      clear U
      go_wp2
      go_region_law (refine step_more rfl _ _ rfl rfl _ _ [] bs (by simp [Act.eval]) (by simp [Act.eval, Act.put]) (Gro.nil _ _) FV.out (Nat.le_refl _) (by simp; omega) bs (List.nil_append _) ?_; intro a' cap' w' hG hB; obtain ⟨hc', ⟨u1, k1⟩, ⟨u2, k2⟩, f1, f2, hd⟩ := KK.out _ hB; have HD := hide hd; have HG := hide hG; have HBB := hide hB; clear hd hG hB)
      all_goals go_wp2
      all_goals go_ret
      all_goals refine ⟨rfl, ?_, (But.of_below (undrew HBB.out)).cellb _ _⟩
      all_goals exact HD.out.setHead i hi _ bs (HG.out.isF (fun x hx ha => by have h1 := HA.out x ha; have h3 : w1.heap.size ≤ x := hx; omega))
  · rw [if_neg e0, if_neg e0]
    clear H hv
    generalize owE n B id = x at *
    have q : (x == 0) = false := beq_no e0
    clear e0
    go_enter Try.func71, Try.ntmps71
    go_wp2_with fail
    refine U.out.mono ?_
    rintro e w1 ⟨rfl, rfl⟩
    go_wp2
    go_ret
    exact ⟨rfl, HH.out, But.refl _ _⟩
end

end Go.Proofs.Ytjkfjijnjkpbbaa
