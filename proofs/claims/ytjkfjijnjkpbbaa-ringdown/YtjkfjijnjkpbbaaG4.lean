
/-
  A row of one's own in a variable that a closure turns; list, Sending, Coming, Room.
-/
import Derived.Test.YtjkfjijnjkpbbaaG3
namespace Go.Proofs.Ytjkfjijnjkpbbaa
open Go.RowKit

theorem row_keep {w w' : World} {B : Nat} {e : TypeId} {sz : Nat} {v : Value} {n : Nat} {xs : List Value} (h : w.ownsRow B e sz v n xs) {K : Nat → Prop} (hb : But K w w') (hk : ∀ k, v.ownBlock = some k → ¬ K k) : w'.ownsRow B e sz v n xs := by
  obtain ⟨h1, h2 | ⟨g, cap, cur, rfl, hg, hh, rr⟩⟩ := h
  · exact ⟨h1, .inl h2⟩
  · exact ⟨h1, .inr ⟨g, cap, cur, rfl, hg, by rw [hb.block g (Array.getElem?_eq_some_iff.1 hh).1 (hk g rfl)]; exact hh, rr⟩⟩
theorem row_shape {w : World} {B : Nat} {e : TypeId} {sz : Nat} {v : Value} {n : Nat} {xs : List Value} (h : w.ownsRow B e sz v n xs) : ∃ a c, v = .slice a n c ∧ (0 < n → ∃ g, a = some ⟨g, 0, none⟩ ∧ B ≤ g) ∧ n ≤ maxLen := by
  obtain ⟨_, ⟨rfl, h0⟩ | ⟨g, cap, cur, rfl, hg, _, hc, hm, _⟩⟩ := h
  · exact ⟨none, 0, by rw [h0], (fun h => by omega), by rw [h0]; exact Nat.zero_le _⟩
  · exact ⟨_, _, rfl, (fun _ => ⟨g, rfl, hg⟩), Nat.le_trans hc hm⟩
theorem drewN_belowG (w : World) (n : Nat) : Below w.heap.size w (w.drewN n) := ⟨rfl, rfl, rfl, Nat.le_refl _, fun _ _ => rfl⟩
theorem wpList_app {w : World} {ops : Array Oper} {rest : List Oper} {o : Oper} {a : Act} {Q : Exit → Act → World → Prop} (hgd : o.guard = none) (d s : Operand) (t t' : TypeId)
    (ho : o.op = .call { callee := .builtin .append, args := #[d, s], argTypes := #[t, t'] }) (v u : Value) (hd : a.eval d = v) (hs : a.eval s = u) {v' : Value} {w' : World}
    (hr : (Builtin.append_ #[t, t'] o.type #[v, u]).run Try.prog w = .ok v' w') (h : wpList Try.prog ops Q rest (a.put o.dst v') w') : wpList Try.prog ops Q (o :: rest) a w :=
  wpList_plain hgd fun _ hK => by
    unfold Oper.wp execOp
    simp only [ho, resolve, invoke, builtin, Sem.run_bind, Sem.run_pure, Result.andThen_ok, List.map_toArray, List.map_cons, List.map_nil, hd, hs, hr]
    exact hK _ _ h

theorem info_int : (Try.prog.info? 3).map (fun i => (i.zero, i.size, i.bytes)) = some (some (.int .i64 0), 1, 8) := by kernel_rfl
theorem info_come : (Try.prog.info? 67).map (fun i => (i.zero, i.size, i.bytes)) = some (some (.agg #[.int .i64 0, .bool false]), 2, 16) := by kernel_rfl

/-- what came: buffer, bad -/
def flc (l : List (Int × Bool)) : List Value := l.flatMap (fun p => [.int .i64 p.1, .bool p.2])
theorem flc_append (a b : List (Int × Bool)) : flc (a ++ b) = flc a ++ flc b := by simp [flc]
theorem flc_len (l : List (Int × Bool)) : (flc l).length = l.length * 2 := by
  induction l with
  | nil => rfl
  | cons p l ih => simp [flc] at ih ⊢; omega
def ints (l : List Int) : List Value := l.map (Value.int .i64)
theorem ints_append (a b : List Int) : ints (a ++ b) = ints a ++ ints b := by simp [ints]

/-- one more number -/
theorem more_int {B : Nat} {W : World} {v : Value} {l : List Int} (hx : W.ownsRow B 3 1 v l.length (ints l)) (x : Int) (hB : B ≤ W.heap.size) (hl : l.length ≤ 4611686018427) :
    ∃ g' c' w', (Builtin.append_ #[31, 31] 31 #[v, .slice (some ⟨W.heap.size, 0, none⟩) 1 1]).run Try.prog (W.alloc (.cells #[.int .i64 x] 3)) = .ok (.slice (some ⟨g', 0, none⟩) (l.length + 1) c') w' ∧
      w'.ownsRow B 3 1 (.slice (some ⟨g', 0, none⟩) (l.length + 1) c') (l ++ [x]).length (ints (l ++ [x])) ∧ But (fun k => v.ownBlock = some k) W w' ∧ (v.ownBlock = some g' ∨ W.heap.size ≤ g') ∧ B ≤ g' ∧ g' < w'.heap.size := by
  obtain ⟨inf, hi, hz0, hz1, hz2⟩ := info_parts info_int
  have hb0 : But (fun _ => False) W (W.alloc (.cells #[.int .i64 x] 3)) := (But.refl _ _).alloc _
  have hx' := row_keep hx hb0 (fun _ _ => id)
  obtain ⟨g', c', w', hrun, ho, hbut, hg, _, hlt⟩ := run_more (W := W.alloc (.cells #[.int .i64 x] 3)) 31 3 inf _ 1 8 Try.underlying31 hi hz0 hz1 hz2 rfl (by omega) hx' ⟨W.heap.size, 0, none⟩ 1 1 [.int .i64 x] rfl (fun j u hv => by
    rw [Addr.add_lit, cell_of_row _ W.heap.size (0 + j) _ 3 (0, 0) (heap_alloc_new W _), Nat.zero_add]
    simpa using hv) (by intro u hu; simp only [List.mem_cons, List.not_mem_nil, or_false] at hu; subst hu; rfl) (by omega) (by simp; omega) (by unfold maxLen; omega) (by omega)
  rw [World.size_alloc] at hg
  refine ⟨g', c', w', hrun, ?_, ((But.refl _ W).alloc _).trans hbut, hg.elim .inl (fun h => .inr (by omega)), ?_, hlt⟩
  · rw [List.length_append, ints_append]
    exact ho
  · rcases hg with h | h
    · exact (World.ownsRow.lt hx g' h).1
    · omega
/-- one more that came -/
theorem more_come {B : Nat} {W : World} {v : Value} {l : List (Int × Bool)} (hx : W.ownsRow B 67 2 v l.length (flc l)) (p : Int × Bool) (hB : B ≤ W.heap.size) (hl : l.length ≤ 4611686018427) :
    ∃ g' c' w', (Builtin.append_ #[61, 61] 61 #[v, .slice (some ⟨W.heap.size, 0, none⟩) 1 1]).run Try.prog (W.alloc (.cells #[.int .i64 p.1, .bool p.2] 67)) = .ok (.slice (some ⟨g', 0, none⟩) (l.length + 1) c') w' ∧
      w'.ownsRow B 67 2 (.slice (some ⟨g', 0, none⟩) (l.length + 1) c') (l ++ [p]).length (flc (l ++ [p])) ∧ But (fun k => v.ownBlock = some k) W w' ∧ (v.ownBlock = some g' ∨ W.heap.size ≤ g') ∧ B ≤ g' ∧ g' < w'.heap.size := by
  obtain ⟨inf, hi, hz0, hz1, hz2⟩ := info_parts info_come
  have hb0 : But (fun _ => False) W (W.alloc (.cells #[.int .i64 p.1, .bool p.2] 67)) := (But.refl _ _).alloc _
  have hx' := row_keep hx hb0 (fun _ _ => id)
  obtain ⟨g', c', w', hrun, ho, hbut, hg, _, hlt⟩ := run_more (W := W.alloc (.cells #[.int .i64 p.1, .bool p.2] 67)) 61 67 inf _ 2 16 Try.underlying61 hi hz0 hz1 hz2 rfl (by omega) hx' ⟨W.heap.size, 0, none⟩ 1 1 [.int .i64 p.1, .bool p.2] rfl (fun j u hv => by
    rw [Addr.add_lit, cell_of_row _ W.heap.size (0 + j) _ 67 (0, 0) (heap_alloc_new W _), Nat.zero_add]
    simpa using hv) (by intro u hu; simp only [List.mem_cons, List.not_mem_nil, or_false] at hu; rcases hu with rfl | rfl <;> rfl) (by omega) (by simp; omega) (by unfold maxLen; omega) (by omega)
  rw [World.size_alloc] at hg
  refine ⟨g', c', w', hrun, ?_, ((But.refl _ W).alloc _).trans hbut, hg.elim .inl (fun h => .inr (by omega)), ?_, hlt⟩
  · rw [List.length_append, flc_append]
    exact ho
  · rcases hg with h | h
    · exact (World.ownsRow.lt hx g' h).1
    · omega

/-- the variable in block bl holds a row of one's own -/
structure VarR (e : TypeId) (sz B : Nat) (W : World) (bl : Nat) (n : Nat) (xs : List Value) : Prop where
  lt : bl < W.heap.size
  le : B ≤ bl
  fz : W.frozen? ⟨bl, 0, none⟩ = false
  row : ∃ v, W.cell? ⟨bl, 0, none⟩ = some v ∧ W.ownsRow B e sz v n xs ∧ v.ownBlock ≠ some bl
theorem VarR.but {e : TypeId} {sz B : Nat} {W W' : World} {bl n : Nat} {xs : List Value} (h : VarR e sz B W bl n xs) {K : Nat → Prop} (hb : But K W W') (hk : ∀ g, B ≤ g → ¬ K g) : VarR e sz B W' bl n xs := by
  obtain ⟨v, h1, h2, h3⟩ := h.row
  exact ⟨Nat.lt_of_lt_of_le h.lt hb.size, h.le, (hb.frozen (p := ⟨bl, 0, none⟩) h.lt (hk bl h.le)).trans h.fz, v, (hb.cell (p := ⟨bl, 0, none⟩) h.lt (hk bl h.le)).trans h1, row_keep h2 hb (fun k hv => hk k (World.ownsRow.lt h2 k hv).1), h3⟩

set_option maxRecDepth 100000 in
theorem list1_any {B bl : Nat} {W : World} {l : List Int} (h : VarR 3 1 B W bl l.length (ints l)) (hl : l.length ≤ 4611686018427) (x : Value) (id : Int) :
    Calls Try.prog 90 #[x, .int .i64 id, .pointer (some ⟨bl, 0, none⟩)] W fun e W' => e = .returned (.tuple #[]) ∧ VarR 3 1 B W' bl (l ++ [id]).length (ints (l ++ [id])) ∧ But (fun g => B ≤ g) W W' := by
  obtain ⟨v, c0, hr, hne⟩ := h.row
  obtain ⟨g', c', w', hrun, ho, hb, hg, hBg, hlt⟩ := more_int hr id (Nat.le_trans h.le (Nat.le_of_lt h.lt)) hl
  obtain ⟨a, c, rfl, _⟩ := row_shape hr
  have cell' : w'.cell? ⟨bl, 0, none⟩ = some (.slice a l.length c) := (hb.cell (p := ⟨bl, 0, none⟩) h.lt hne).trans c0
  have fz' : w'.frozen? ⟨bl, 0, none⟩ = false := (hb.frozen (p := ⟨bl, 0, none⟩) h.lt hne).trans h.fz
  have FIN : Hid (VarR 3 1 B (w'.setCell ⟨bl, 0, none⟩ (.slice (some ⟨g', 0, none⟩) (l.length + 1) c')) bl (l ++ [id]).length (ints (l ++ [id])) ∧ But (fun g => B ≤ g) W (w'.setCell ⟨bl, 0, none⟩ (.slice (some ⟨g', 0, none⟩) (l.length + 1) c'))) := by
    have hgb : g' ≠ bl := by
      rintro rfl
      rcases hg with h1 | h1
      · exact hne h1
      · have := h.lt; omega
    have b1 : But (Only bl) w' (w'.setCell ⟨bl, 0, none⟩ (.slice (some ⟨g', 0, none⟩) (l.length + 1) c')) := (But.refl _ _).cellb _ _
    refine ⟨⟨Nat.lt_of_lt_of_le h.lt (Nat.le_trans hb.size b1.size), h.le, (World.frozen?_setCell ..).trans fz', _, World.cell?_setCell_same' _ _ _ (by rw [cell']; rfl), row_keep ho b1 (fun k hk e => ?_), ?_⟩, (hb.mono (fun g e => (World.ownsRow.lt hr g e).1)).trans (b1.mono (fun g e => ?_))⟩
    · have hk : some g' = some k := hk
      cases hk
      exact hgb e
    · show some g' ≠ some bl
      intro e; cases e; exact hgb rfl
    · have e : g = bl := e
      rw [e]; exact h.le
  have HR := hide hrun
  clear h hr hne ho hb hg hrun hl
  generalize (l ++ [id]).length = nn at *
  generalize ints (l ++ [id]) = ll at *
  generalize l.length = m at *
  go_enter Try.func90, Try.ntmps90
  go_wp2_with (at_builtin; refine wpList_app rfl _ _ 31 31 rfl _ _ rfl rfl HR.out ?_)
  go_wp2
  go_end0
  exact ⟨rfl, FIN.out.1, FIN.out.2⟩

set_option maxRecDepth 100000 in
set_option maxHeartbeats 4000000 in
theorem list_any {w : World} {r o : Nat} {s : Sd} (h : SdAt w r o s) : Calls Try.prog 65 #[.pointer (some ⟨r, o, none⟩)] w fun x w' => ∃ v, x = .returned v ∧ w'.ownsRow w.heap.size 3 1 v s.ids.length (ints s.ids) ∧ Below w.heap.size w w' := by
  obtain ⟨i0, hi, hz0, hz1, hz2⟩ := info_parts info_int
  have cm := h.many
  have H := hide h
  have m15 := h.m15
  have f16 := h.f16
  have hr := h.lt
  have zm : (s.ids.length : Int) ≤ 15 := by omega
  have hmf : ∀ (fn : Fn) (first cap : Array Value) (w : World), (Instr.makeFunc fn first cap).run Try.prog w = .ok (.func fn first cap) w := fun _ _ _ _ => rfl
  obtain ⟨m, em⟩ : ∃ m, m = s.ids.length := ⟨_, rfl⟩
  have HM := hide em
  rw [← em] at cm zm m15
  clear h em
  go_enter Try.func65, Try.ntmps65
  go_wp2_with (at_make; refine wpList_make_own _ rfl _ _ 31 rfl w.heap.size 3 i0 (.int .i64 0) 1 Try.underlying31 hi hz0 hz1 .i64 .i64 _ m rfl rfl rfl (by rw [hz2]; omega) (by unfold maxLen; omega) (Nat.le_refl _) ?_)
  intro w1 ho hg
  have hB1 : Below w.heap.size w w1 := (Below.refl _ w).grown hg (Nat.le_refl _) (fun k e => by cases e)
  have B1 := hide hB1
  have HO := hide ho
  clear ho hg hi hz0 hz1 hz2 hB1 cm
  go_upto_region 2 with fail
  have s1 := B1.out.size
  have lt1 : w.heap.size < w1.heap.size := (World.ownsRow.lt HO.out w.heap.size rfl).2
  have b2 : But (fun _ => False) w1 (w1.alloc (.cells #[.slice (some ⟨w.heap.size, 0, none⟩) 0 m] 31)) := (But.refl _ _).alloc _
  have V0 : Hid (VarR 3 1 w.heap.size (w1.alloc (.cells #[.slice (some ⟨w.heap.size, 0, none⟩) 0 m] 31)) w1.heap.size ([] : List Int).length (ints [])) :=
    ⟨by simp, s1, frozen_new _ _ _ _, _, cell_new _ _ _, row_keep HO.out b2 (fun _ _ => id), by show some w.heap.size ≠ some w1.heap.size; intro e; have e := Option.some.inj e; omega⟩
  have B2 : Hid (Below w.heap.size w (w1.alloc (.cells #[.slice (some ⟨w.heap.size, 0, none⟩) 0 m] 31))) := B1.out.alloc s1 _
  generalize w1.alloc (.cells #[.slice (some ⟨w.heap.size, 0, none⟩) 0 m] 31) = w2 at *
  generalize w1.heap.size = bl at *
  have S2 := hide (H.out.but (But.of_below (K := fun _ => False) (B2.out.mono (Nat.le_refl _))) id)
  have X := hide (next_any S2.out)
  have nx16 : s.nx < 16 := Nat.mod_lt _ (by omega)
  have XE := hide (fun (W : World) (hb : Below w.heap.size w W) (hv : VarR 3 1 w.heap.size W bl ([] : List Int).length (ints [])) => each_list (w := W) (r := r) (o := o) (s := s) s.nx nx16 (.pointer (some ⟨bl, 0, none⟩)) (fun k W => SdAt W r o s ∧ VarR 3 1 w.heap.size W bl (s.ids.take k).length (ints (s.ids.take k)) ∧ Below w.heap.size w W) (fun _ _ hj => hj.1) ⟨H.out.but (But.of_below (K := fun _ => False) hb) id, by rw [List.take_zero]; exact hv, hb⟩ (fun k W hk hj => by
    have hk' : k < s.ids.length := Nat.lt_of_lt_of_le hk (s.upto_le _)
    refine (list1_any hj.2.1 (by rw [List.length_take]; have := HM.out; omega) _ _).mono ?_
    rintro _ W' ⟨rfl, hv', hb'⟩
    refine ⟨rfl, hj.1.but hb' (by omega), by rw [take_snoc hk']; exact hv', hj.2.2.trans (hb'.below hj.2.2.size (fun g hg => by omega))⟩))
  clear H HO B1 b2 lt1
  have UN : Hid (s.upto s.nx = s.ids.length) := s.upto_nx f16 (by have := HM.out; omega)
  go_wp2_with fail
  refine X.out.mono ?_
  rintro _ _ ⟨rfl, k, rfl⟩
  have bk : Below w.heap.size w (w2.drewN k) := B2.out.trans (drewN_belowG w2 k |>.mono B2.out.size)
  have XE2 := hide (XE.out (w2.drewN k) bk (V0.out.but (K := fun _ => False) ((But.refl _ _).drewN k) (fun _ _ => id)))
  clear XE X bk
  go_wp2_with fail
  refine XE2.out.mono ?_
  rintro _ w3 ⟨rfl, hj⟩
  rw [UN.out, List.take_length] at hj
  obtain ⟨_, hv, hb3⟩ := hj
  obtain ⟨v, cv, ho, _⟩ := hv.row
  have HO := hide ho
  have HB3 := hide hb3
  obtain ⟨a, c, rfl, _⟩ := row_shape ho
  clear hv ho hb3 XE2
  go_wp2
  go_ret
  exact ⟨_, rfl, HO.out, HB3.out⟩
end Go.Proofs.Ytjkfjijnjkpbbaa
