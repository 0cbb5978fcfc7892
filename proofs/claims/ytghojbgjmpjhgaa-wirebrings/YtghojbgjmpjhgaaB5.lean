
/-
  WireBrings: how it begins; laws for its appends.
-/
import Derived.Test.YtghojbgjmpjhgaaB4
import Derived.Test.YtghojbgjmpjhgaaB3
import Derived.Deep.RegionHeldLaw
namespace Go.Proofs.Ytghojbgjmpjhgaa
open Go.RowKit

theorem brg0 : Brg 0 (ab (fun _ => [])) (fun _ => Dn) (fun _ => 0) (fun _ => []) (fun _ => []) (fun _ => 0) [] [] [] 0 :=
  ⟨rfl, rfl, fun _ _ => Carry.new, fun _ _ j _ h => by simp at h, fun _ _ f hf => by simp [ab] at hf, fun _ _ f hf => by simp [ab] at hf, fun n hn => by simp at hn, fun x hx => by cases hx⟩
theorem rws0 (ρ : Nat → Nat) (w : World) : Rws ρ w (.slice none 0 0) (.slice none 0 0) (.slice none 0 0) [] [] [] :=
  ⟨World.ownsRow_nil _ _ _ _, fun k e => by simp [Value.ownBlock] at e, ⟨[], World.ownsRow_nil _ _ _ _, fun j hj => by simp at hj⟩, fun k e => by simp [Value.ownBlock] at e, World.ownsRow_nil _ _ _ _, fun k e => by simp [Value.ownBlock] at e⟩
/-- a struct's three cells, written anew -/
theorem T3.put {w : World} {s : Nat} {u0 u1 u2 : Value} (h : T3 w s u0 u1 u2) (v0 v1 v2 : Value) : T3 (((w.setCell ⟨s, 0, none⟩ v0).setCell ⟨s, 1, none⟩ v1).setCell ⟨s, 2, none⟩ v2) s v0 v1 v2 := by
  refine ⟨?_, ?_, ?_, ?_, ?_, ?_⟩
  · rw [cell_off (by omega), cell_off (by omega)]; exact World.cell?_setCell_same' _ _ _ (by rw [h.c0]; rfl)
  · rw [cell_off (by omega)]; exact World.cell?_setCell_same' _ _ _ (by rw [cell_off (by omega), h.c1]; rfl)
  · exact World.cell?_setCell_same' _ _ _ (by rw [cell_off (by omega), cell_off (by omega), h.c2]; rfl)
  · rw [World.frozen?_setCell, World.frozen?_setCell, World.frozen?_setCell]; exact h.f0
  · rw [World.frozen?_setCell, World.frozen?_setCell, World.frozen?_setCell]; exact h.f1
  · rw [World.frozen?_setCell, World.frozen?_setCell, World.frozen?_setCell]; exact h.f2
theorem T3.putB {w : World} {s : Nat} (v0 v1 v2 : Value) : But (Only s) w (((w.setCell ⟨s, 0, none⟩ v0).setCell ⟨s, 1, none⟩ v1).setCell ⟨s, 2, none⟩ v2) :=
  (((But.refl (Only s) w).setCell (p := ⟨s, 0, none⟩) (.inr rfl) v0).setCell (p := ⟨s, 1, none⟩) (.inr rfl) v1).setCell (p := ⟨s, 2, none⟩) (.inr rfl) v2

/-- which function an operation calls -/
def calleeOf (o : Oper) : Option FuncId := match o.op with
  | .call c => (match c.callee with
    | .value (.func F) => some F
    | _ => none)
  | _ => none
theorem at_func {ops : Array Oper} {o : Oper} {a : Act} {w : World} {K : Act → World → Prop} {Q : Exit → Act → World → Prop} {E : Prop} (F : FuncId) (_ : calleeOf o = some F) (h : if Region.wanted o (yielded ops a.tmps) = true then Oper.wp Try.prog o a w K Q else E) :
    if Region.wanted o (yielded ops a.tmps) = true then Oper.wp Try.prog o a w K Q else E := h
/-- 'append' to a row of one's own, as one step of a region that draws its order -/
theorem step_more {ops : Array Oper} {o : Oper} {a : Act} {w : World} {K : Act → World → Prop} {Q : Exit → Act → World → Prop} {E : Prop} (hg : o.guard = none) (s x : Operand)
    (hop : o.op = Op.call { callee := Callee.builtin Builtin.append, args := #[s, x], argTypes := #[27, 27] }) (hty : o.type = 27)
    {A : Nat → Prop} {M : Nat} (v tv : Value) (xs ys : List Int) (hs : a.eval s = v) (hx : a.eval x = tv) (gx : Gro M w v xs) (iy : IsF A w tv ys) (hM : M ≤ w.heap.size) (hl : xs.length + ys.length ≤ 140737488355328) (L : List Int) (hL : xs ++ ys = L)
    (hK : ∀ (a' : Option Addr) (cap' : Nat) (w' : World), Gro M w' (.slice a' L.length cap') L → Below M w w' → K (a.put o.dst (.slice a' L.length cap')) w') :
    if Region.wanted o (yielded ops a.tmps) = true then Oper.wp Try.prog o a w K Q else E := by
  have hw : Region.wanted o (yielded ops a.tmps) = true := by simp [Region.wanted, hg]
  rw [if_pos hw]
  subst hL
  obtain ⟨v', w', hrun, g', b', _⟩ := append_run gx iy hM hl
  obtain ⟨a', cap', rfl, _, _⟩ := (g'.isF (A := fun _ => False) (fun _ _ => id)).shape
  unfold Oper.wp
  simp only [execOp, hop, hty]
  simp [resolve, invoke, builtin, hx, hs, hrun, Result.andThen, -List.length_append]
  exact hK a' cap' w' g' b'
section
variable {P : Pl} {ρ : Nat → Nat} {w : World} {ck : Int} {L : Nat → List (Value × Frm)} {D : Nat → Dev} {T F : Nat → Nat} {m : Nat} {vp vb vl : Value} {BS : List (List Int)} {PT LF : List Int}
theorem int_news (w : World) (x : Int) : ∀ (j : Nat) (u : Value), ([Value.int .i64 x] : List Value)[j]? = some u → (w.alloc (.cells #[.int .i64 x] 3)).cell? ((⟨w.heap.size, 0, none⟩ : Addr).add j) = some u := fun j u hu => by
  have hj : j = 0 := by have := (List.getElem?_eq_some_iff.1 hu).1; simp at this; omega
  subst hj
  rw [Addr.add_lit, cell_of_row _ w.heap.size _ _ 3 (0, 0) (heap_alloc_new w _)]; exact hu
theorem int_ones (x : Int) : ∀ u ∈ ([Value.int .i64 x] : List Value), u.oneCell' = true := fun u hu => by rw [List.mem_singleton.1 hu]; rfl
theorem Mem.addP {pa : Option Addr} {n pc : Nat} (a : Mem P ρ w ck L D T F m (.slice pa n pc) vb vl BS PT LF) (hn : PT.length = n) (hn6 : n ≤ 60000) (x : Int) :
    ∃ g' c' w' ρ', (Builtin.append_ #[31, 31] 31 #[.slice pa n pc, .slice (some ⟨w.heap.size, 0, none⟩) 1 1]).run Try.prog (w.alloc (.cells #[.int .i64 x] 3)) = .ok (.slice (some ⟨g', 0, none⟩) (n + 1) c') w' ∧
      Mem P ρ' w' ck L D T F m (.slice (some ⟨g', 0, none⟩) (n + 1) c') vb vl BS (PT ++ [x]) LF ∧ (∀ g, g < w.heap.size → ρ' g = ρ g) ∧ But (Mine ρ) w w' := by
  subst hn
  obtain ⟨inf, hin, hz0, hz1, hz2⟩ := info_parts info_int
  have bx : Below w.heap.size w (w.alloc (.cells #[.int .i64 x] 3)) := (Below.refl _ _).alloc (Nat.le_refl _) _
  have a1 := a.later bx
  obtain ⟨g', c', w', hrun, hrow, hb, hg, _, _⟩ := run_more 31 3 inf (.int .i64 0) 1 8 Try.underlying31 hin hz0 hz1 hz2 rfl (by omega) a1.r.p ⟨w.heap.size, 0, none⟩ 1 1 [.int .i64 x] rfl (int_news w x) (int_ones x) (by omega) (Nat.zero_le _) (by unfold maxLen; omega) (by omega)
  obtain ⟨ρ', m', e', b'⟩ := a1.pushP (PT' := PT ++ [x]) (by rw [List.length_append, List.map_append]; exact hrow) hb hg
  exact ⟨g', c', w', ρ', hrun, m', fun g hg => e' g (Nat.lt_of_lt_of_le hg bx.size), (But.of_below bx).trans b'⟩
theorem Mem.addL {la : Option Addr} {n lc : Nat} (a : Mem P ρ w ck L D T F m vp vb (.slice la n lc) BS PT LF) (hn : LF.length = n) (hn6 : n ≤ 60000) (x : Int) :
    ∃ g' c' w' ρ', (Builtin.append_ #[31, 31] 31 #[.slice la n lc, .slice (some ⟨w.heap.size, 0, none⟩) 1 1]).run Try.prog (w.alloc (.cells #[.int .i64 x] 3)) = .ok (.slice (some ⟨g', 0, none⟩) (n + 1) c') w' ∧
      Mem P ρ' w' ck L D T F m vp vb (.slice (some ⟨g', 0, none⟩) (n + 1) c') BS PT (LF ++ [x]) ∧ (∀ g, g < w.heap.size → ρ' g = ρ g) ∧ But (Mine ρ) w w' := by
  subst hn
  obtain ⟨inf, hin, hz0, hz1, hz2⟩ := info_parts info_int
  have bx : Below w.heap.size w (w.alloc (.cells #[.int .i64 x] 3)) := (Below.refl _ _).alloc (Nat.le_refl _) _
  have a1 := a.later bx
  obtain ⟨g', c', w', hrun, hrow, hb, hg, _, _⟩ := run_more 31 3 inf (.int .i64 0) 1 8 Try.underlying31 hin hz0 hz1 hz2 rfl (by omega) a1.r.l ⟨w.heap.size, 0, none⟩ 1 1 [.int .i64 x] rfl (int_news w x) (int_ones x) (by omega) (Nat.zero_le _) (by unfold maxLen; omega) (by omega)
  obtain ⟨ρ', m', e', b'⟩ := a1.pushL (LF' := LF ++ [x]) (by rw [List.length_append, List.map_append]; exact hrow) hb hg
  exact ⟨g', c', w', ρ', hrun, m', fun g hg => e' g (Nat.lt_of_lt_of_le hg bx.size), (But.of_below bx).trans b'⟩
theorem Mem.addB {ba : Option Addr} {n bc : Nat} (a : Mem P ρ w ck L D T F m vp (.slice ba n bc) vl BS PT LF) (hn : BS.length = n) (hn6 : n ≤ 60000) (u : Value) (bs : List Int) (hu : IsF (Mine ρ) w u bs) :
    ∃ g' c' w' ρ', (Builtin.append_ #[32, 32] 32 #[.slice ba n bc, .slice (some ⟨w.heap.size, 0, none⟩) 1 1]).run Try.prog (w.alloc (.cells #[u] 27)) = .ok (.slice (some ⟨g', 0, none⟩) (n + 1) c') w' ∧
      Mem P ρ' w' ck L D T F m vp (.slice (some ⟨g', 0, none⟩) (n + 1) c') vl (BS ++ [bs]) PT LF ∧ (∀ g, g < w.heap.size → ρ' g = ρ g) ∧ But (Mine ρ) w w' := by
  subst hn
  obtain ⟨inf, hin, hz0, hz1, hz2⟩ := info_parts info_sl
  have bx : Below w.heap.size w (w.alloc (.cells #[u] 27)) := (Below.refl _ _).alloc (Nat.le_refl _) _
  have a1 := a.later bx
  obtain ⟨vs, hv, hf⟩ := a1.r.b
  obtain ⟨g', c', w', hrun, hrow, hb, hg, _, _⟩ := run_more 32 27 inf (.slice none 0 0) 1 24 Try.underlying32 hin hz0 hz1 hz2 rfl (by omega) hv ⟨w.heap.size, 0, none⟩ 1 1 [u] rfl (fun j v hj => by
      have hj0 : j = 0 := by have := (List.getElem?_eq_some_iff.1 hj).1; simp at this; omega
      subst hj0
      rw [Addr.add_lit, cell_of_row _ w.heap.size _ _ 27 (0, 0) (heap_alloc_new w _)]; exact hj) (fun v hv => by rw [List.mem_singleton.1 hv]; exact hu.one) (by omega) (Nat.zero_le _) (by unfold maxLen; omega) (by omega)
  obtain ⟨ρ', m', e', b'⟩ := a1.pushB hv hf (hu.later bx) hrow hb hg
  exact ⟨g', c', w', ρ', hrun, m', fun g hg => e' g (Nat.lt_of_lt_of_le hg bx.size), (But.of_below bx).trans b'⟩
end
end Go.Proofs.Ytghojbgjmpjhgaa
