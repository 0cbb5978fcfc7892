
/-
  Contracts of package pool: Append, Trim.
-/
import Derived.Test.YtkadapjcnonbiaaP3
namespace Go.Proofs.Ytkadapjcnonbiaa
open Go.RowKit

theorem wp_copy {w : World} {o : Oper} {a : Act} {K : Act → World → Prop} {Q : Exit → Act → World → Prop} (d s : Operand) (t : TypeId)
    (ho : o.op = .call { callee := .builtin .copy, args := #[d, s], argTypes := #[t, t] }) (v u : Value) (hd : a.eval d = v) (hs : a.eval s = u) {v' : Value} {w' : World}
    (hr : (Builtin.copy_ #[t, t] o.type #[v, u]).run Try.prog w = .ok v' w') (h : K (a.put o.dst v') w') : o.wp Try.prog a w K Q := by
  unfold Oper.wp execOp
  simp only [ho, resolve, invoke, builtin, Sem.run_bind, Sem.run_pure, Result.andThen_ok, List.map_toArray, List.map_cons, List.map_nil, hd, hs, hr]
  exact h
theorem step_copy {ops : Array Oper} {o : Oper} {a : Act} {w : World} {K : Act → World → Prop} {Q : Exit → Act → World → Prop} {E : Prop}
    (hg : o.guard = none) (d x : Operand) (t : TypeId) (hop : o.op = Op.call { callee := Callee.builtin Builtin.copy, args := #[d, x], argTypes := #[t, t] })
    (v u : Value) (hd : a.eval d = v) (hx : a.eval x = u) {v' : Value} {w' : World} (hr : (Builtin.copy_ #[t, t] o.type #[v, u]).run Try.prog w = .ok v' w') (hK : K (a.put o.dst v') w') :
    if Region.wanted o (yielded ops a.tmps) = true then Oper.wp Try.prog o a w K Q else E := by
  have hw : Region.wanted o (yielded ops a.tmps) = true := by simp [Region.wanted, hg]
  rw [if_pos hw]
  exact wp_copy d x t hop v u hd hx hr hK

theorem setCells_drew (b : Nat) : ∀ (vs : List Value) (o : Nat) (w : World), w.drew.setCells b o vs = (w.setCells b o vs).drew
  | [], _, _ => rfl
  | v :: r, o, w => by rw [World.setCells, World.setCells, ← setCells_drew b r (o + 1)]; rfl

section
variable {w : World} {b g n : Nat} {B : Nat → Buf} {A : Nat → Prop}

theorem IsF.drew {A : Nat → Prop} {w : World} {v : Value} {bs : List Int} (h : IsF A w v bs) : IsF A w.drew v bs := h.but (K := fun _ => False) (But.refl _ _).drew (fun _ e => e.elim)

set_option maxRecDepth 100000 in
set_option maxHeartbeats 2000000 in
theorem Append_any (H : PoolAt w b g n B) (id : Int) (v : Value) (bs : List Int) (hv : IsF A w v bs) :
    Calls Try.prog 21 #[.pointer (some ⟨b, 0, none⟩), .int .i64 id, v] w fun e w' => e = .returned (.int .i64 (apE n B id bs)) ∧ PoolAt w' b g n (apB n B id bs) ∧ But (Only g) w w' := by
  obtain ⟨va, vc, rfl, _, _⟩ := hv.shape
  have HH := hide H
  rcases held_cases H id with ⟨i, rfl, hi, hr, e0⟩ | ⟨hx, U0⟩
  · have U := hide (held_yes H i hi hr)
    unfold apB apE
    rw [e0, if_pos rfl, Int.toNat_natCast]
    have hb := H.buf i hi
    have hdle := hb.dle
    have c1 := hb.dl
    by_cases hl : 288 < bs.length + (B i).data.length
    · rw [if_pos hl, if_neg (by omega)]
      have hl' : 288 - ((B i).data.length : Int) < (bs.length : Int) := by omega
      have hl2 : ((B i).data.length : Int) ≤ 288 := by omega
      have hl3 : (0 : Int) ≤ ((B i).data.length : Int) := by omega
      clear H hr hi e0 hl hv hb hdle
      generalize ((B i).data.length : Int) = dl at *
      generalize i * 395 = o at *
      go_enter Try.func21, Try.ntmps21
      go_wp2_with fail
      refine U.out.mono ?_
      rintro e w1 ⟨rfl, rfl⟩
      go_wp2
      go_ret
      exact ⟨rfl, HH.out, But.refl _ _⟩
    · rw [if_neg hl, if_pos rfl]
      obtain ⟨dl, hdl⟩ : ∃ dl, dl = (B i).data.length := ⟨_, rfl⟩
      obtain ⟨m, hm⟩ : ∃ m, m = bs.length := ⟨_, rfl⟩
      have hsum : dl + m ≤ 288 := by omega
      have hc := copy_run (w := w.drew) (some (if 288 = dl then ⟨g, i * 395 + 106, none⟩ else ⟨g, i * 395 + 106 + dl, none⟩)) (288 - dl) (288 - dl) _ bs hv.drew g (i * 395 + 106 + dl) (fun h => by rw [if_neg (by omega)]) (by omega) (fun j hj => by rw [Nat.add_assoc, Nat.add_assoc]; exact hb.isThere _ (by omega)) H.fz
      rw [setCells_drew] at hc
      have e1 : ((w.setCells g (i * 395 + 106 + dl) (bs.map (Value.int .u8))).drew).cell? ⟨g, i * 395 + 394, none⟩ = some (.int .i64 (dl : Int)) := (setCells_out (W := w) (by rw [List.length_map]; omega)).trans (by rw [hdl]; exact hb.dl)
      have f1 : ((w.setCells g (i * 395 + 106 + dl) (bs.map (Value.int .u8))).drew).frozen? ⟨g, i * 395 + 394, none⟩ = false := (World.frozen?_setCells ..).trans (H.fz _)
      have P1 := H.lay i hi dl bs ((B i).data ++ bs) (by omega) (by rw [List.length_append]; omega) (fun j hj => ⟨by omega, by rw [List.getElem?_append_left (by omega)]⟩) (fun j hj => by rw [List.getElem?_append_right (by omega)]; congr 2; omega)
      rw [show ((((B i).data ++ bs).length : Nat) : Int) = (dl : Int) + (m : Int) from by rw [List.length_append]; omega] at P1
      have bW := But.cells g (bs.map (Value.int .u8)) (i * 395 + 106 + dl) w
      have HP := hide P1
      have HW := hide bW
      have wr1 : IntKind.i64.wrap ((dl : Int) + (m : Int)) = (dl : Int) + (m : Int) := by rw [IntKind.wrap_i64]; omega
      have q1 : (m : Int) ≤ 288 - (dl : Int) := by omega
      have q2 : (dl : Int) ≤ 288 := by omega
      rw [← hdl] at c1
      rw [← hm] at hc ⊢
      have HC := hide hc
      have HM := hide hm
      clear H hr e0 hl hv hb P1 bW hc hdle hm hdl
      generalize w.setCells g (i * 395 + 106 + dl) (bs.map (Value.int .u8)) = w2 at *
      generalize { B i with data := (B i).data ++ bs } = xx at *
      clear hi
      generalize i * 395 = o at *
      go_enter Try.func21, Try.ntmps21
      go_wp2_with fail
      refine U.out.mono ?_
      rintro e w1 ⟨rfl, rfl⟩
      clear U
      go_wp2
      go_region_law (refine step_copy rfl _ _ 32 rfl _ _ (by simp [Act.eval, Act.put]) (by simp [Act.eval, Act.put]) HC.out ?_)
      all_goals go_wp2
      all_goals go_ret
      all_goals exact ⟨rfl, HP.out.drew, (HW.out.cellb _ _).drew⟩
  · have U := hide U0
    have e2 : apE n B id bs = owE n B id := by unfold apE; rw [if_neg hx]
    have e3 : apB n B id bs = B := by unfold apB; rw [e2, if_neg hx]
    rw [e2, e3]
    clear H hv e2 e3 U0
    generalize owE n B id = x at *
    have q : (x != 0) = true := by simp [hx]
    clear hx
    go_enter Try.func21, Try.ntmps21
    go_wp2_with fail
    refine U.out.mono ?_
    rintro e w1 ⟨rfl, rfl⟩
    go_wp2
    go_ret
    exact ⟨rfl, HH.out, But.refl _ _⟩
end

end Go.Proofs.Ytkadapjcnonbiaa
