
/-
  Package arp: the contract of wait.
-/
import Derived.Test.YtdcpnjlldocdcaaA6
namespace Go.Proofs.Ytdcpnjlldocdcaa
open Go.RowKit

theorem wpList_app {w : World} {ops : Array Oper} {rest : List Oper} {o : Oper} {a : Act} {Q : Exit → Act → World → Prop} (hgd : o.guard = none) (d s : Operand) (t t' : TypeId)
    (ho : o.op = .call { callee := .builtin .append, args := #[d, s], argTypes := #[t, t'] }) (v u : Value) (hd : a.eval d = v) (hs : a.eval s = u) {v' : Value} {w' : World}
    (hr : (Builtin.append_ #[t, t'] o.type #[v, u]).run Try.prog w = .ok v' w') (h : wpList Try.prog ops Q rest (a.put o.dst v') w') : wpList Try.prog ops Q (o :: rest) a w :=
  wpList_plain hgd fun _ hK => by
    unfold Oper.wp execOp
    simp only [ho, resolve, invoke, builtin, Sem.run_bind, Sem.run_pure, Result.andThen_ok, List.map_toArray, List.map_cons, List.map_nil, hd, hs, hr]
    exact hK _ _ h

/-- those that wait when one more waits; the one that is let go for it -/
def wtP (P : List Int) (x : Int) : List Int := if P.length < 2 then P ++ [x] else P.drop 1 ++ [x]
/-- what wait leaves: the slice v' is stored in the neighbour's last cell, in world w2 -/
def WtEnd (O : Nat → Prop) (w : World) (g o : Nat) (P : List Int) (x : Int) (e : Ending) (w' : World) : Prop :=
  ∃ w2 v', But O w w2 ∧ RowN (fun h => O h ∨ w.heap.size ≤ h ∧ h < w2.heap.size) w2 v' (wtP P x) ∧
    ((P.length < 2 ∧ e = .returned (.slice none 0 0) ∧ w' = w2.setCell ⟨g, o + 14, none⟩ v') ∨
     ∃ y R, P = y :: R ∧ 1 ≤ R.length ∧ e = .returned (.slice (some ⟨w2.heap.size, 0, none⟩) 1 1) ∧ w' = (w2.setCell ⟨g, o + 14, none⟩ v').alloc (.cells #[.int .i64 y] 3))

set_option maxHeartbeats 1000000 in
theorem wait_any {w : World} {O : Nat → Prop} (g o : Nat) (v : Value) (P : List Int) (x : Int) (cv : w.cell? ⟨g, o + 14, none⟩ = some v) (fz : w.frozen? ⟨g, o + 14, none⟩ = false) (hg : ¬ O g) (hr : RowN O w v P) (hP : P.length ≤ 2) :
    Calls Try.prog 38 #[.pointer (some ⟨g, o, none⟩), .int .i64 x] w (WtEnd O w g o P x) := by
  have hlt : g < w.heap.size := World.block_lt_of_cell? w _ cv
  by_cases h2 : P.length < 2
  · obtain ⟨a, cap, rfl⟩ := hr.shape
    obtain ⟨a', c', w2, hrun, hrow, hb⟩ := hr.push x (by omega)
    have c2 : w2.cell? ⟨g, o + 14, none⟩ = some (.slice a P.length cap) := (hb.cell (p := ⟨g, o + 14, none⟩) hlt hg).trans cv
    have f2 : w2.frozen? ⟨g, o + 14, none⟩ = false := (hb.frozen (p := ⟨g, o + 14, none⟩) hlt hg).trans fz
    obtain ⟨n, hn⟩ : ∃ n, n = P.length := ⟨_, rfl⟩
    have HW : Hid (RowN (fun h => O h ∨ w.heap.size ≤ h ∧ h < w2.heap.size) w2 (.slice a' (n + 1) c') (wtP P x) ∧ But O w w2 ∧ P.length < 2) := ⟨by unfold wtP; rw [if_pos h2, hn]; exact hrow, hb, h2⟩
    rw [← hn] at cv c2 hrun
    have n2 : (n : Int) < 2 := by omega
    have HR := hide hrun
    clear hrun hrow hb hr h2 hP hn hg
    go_enter Try.func38, Try.ntmps38
    go_wp2_with (at_builtin; refine wpList_app rfl _ _ 54 54 rfl _ _ rfl rfl HR.out ?_)
    go_ret
    exact ⟨w2, _, HW.out.2.1, HW.out.1, .inl ⟨HW.out.2.2, rfl, rfl⟩⟩
  · obtain ⟨y, R, rfl⟩ : ∃ y R, P = y :: R := by
      cases P with
      | nil => simp at h2
      | cons y R => exact ⟨y, R, rfl⟩
    have hR : R.length = 1 := by simp at h2 hP; omega
    obtain ⟨g', off, cap, rfl, d1, d2, d3, d4, d5⟩ := hr.rest
    rw [hR] at cv d1
    have hr2 := d5 ⟨g', off + 1, none⟩ (fun _ => rfl)
    obtain ⟨a', c', w2, hrun, hrow, hb⟩ := hr2.push x (by omega)
    have c2 : w2.cell? ⟨g, o + 14, none⟩ = some (.slice (some ⟨g', off, none⟩) (1 + 1) cap) := (hb.cell (p := ⟨g, o + 14, none⟩) hlt hg).trans cv
    have f2 : w2.frozen? ⟨g, o + 14, none⟩ = false := (hb.frozen (p := ⟨g, o + 14, none⟩) hlt hg).trans fz
    rw [hR] at hrun hrow
    have HW : Hid (RowN (fun h => O h ∨ w.heap.size ≤ h ∧ h < w2.heap.size) w2 (.slice a' 2 c') (wtP (y :: R) x) ∧ But O w w2 ∧ 1 ≤ R.length) := ⟨by unfold wtP; rw [if_neg h2]; exact hrow, hb, by omega⟩
    have n1 : ¬ cap = 1 := by omega
    have n2 : 2 ≤ cap := by omega
    have HR := hide hrun
    clear hrun hrow hb hr hr2 h2 hP hg hR d1 d2 d5
    simp only [Nat.reduceAdd] at cv c2
    go_enter Try.func38, Try.ntmps38
    go_wp2_with (at_builtin; refine wpList_app rfl _ _ 54 54 rfl _ _ rfl rfl HR.out ?_)
    go_ret
    exact ⟨w2, _, HW.out.2.1, HW.out.1, .inr ⟨y, R, rfl, HW.out.2.2, rfl, rfl⟩⟩
end Go.Proofs.Ytdcpnjlldocdcaa
