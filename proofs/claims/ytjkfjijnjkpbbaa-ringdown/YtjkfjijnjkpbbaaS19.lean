
/-
  frees: what was taken, or came, is let go.
-/
import Derived.Test.YtjkfjijnjkpbbaaS14
import Derived.Deep.RegionHeld3
namespace Go.Proofs.Ytjkfjijnjkpbbaa
open Go.RowKit

/-- numbers more, behind a row of the call's own -/
theorem own_more {Bs : Nat} {W : World} {v : Value} {L : List Int} (hx : W.ownsRow Bs 3 1 v L.length (ints L)) (ad : Addr) (c : Nat) (M : List Int) (hc : ∀ k x, M[k]? = some x → W.cell? (ad.add k) = some (.int .i64 x)) (hB : Bs ≤ W.heap.size) (hl : L.length + M.length ≤ 8796093022208) :
    ∃ a' c' w', (Builtin.append_ #[31, 31] 31 #[v, .slice (some ad) M.length c]).run Try.prog W = .ok (.slice a' (L ++ M).length c') w' ∧ w'.ownsRow Bs 3 1 (.slice a' (L ++ M).length c') (L ++ M).length (ints (L ++ M)) ∧ But (fun k => v.ownBlock = some k) W w' := by
  obtain ⟨i, hi, hz0, hz1, hz2⟩ := info_parts info_int
  obtain ⟨v', w', hrun, ho, hg, _⟩ := run_append_own (P := Try.prog) W Bs 31 31 3 i _ 1 8 Try.underlying31 hi hz0 hz1 hz2 rfl (by omega) v L.length (ints L) hx ad M.length c (ints M) (by rw [ints_len, Nat.mul_one]) (fun j u hu => by
    rw [ints_get] at hu
    cases hm : M[j]? with
    | none => rw [hm] at hu; cases hu
    | some x => rw [hm] at hu; cases hu; exact hc j x hm) (ints_one' M) (by unfold maxLen; omega) (by omega) hB
  rw [← ints_append, ← List.length_append] at ho
  obtain ⟨a', c', e, _⟩ := row_shape ho
  subst e
  exact ⟨a', c', w', hrun, ho, ⟨hg.os, hg.tape, hg.output, hg.size, fun k hk hne => hg.block k hk (fun e => hne e.symm)⟩⟩

theorem RowN.ofOwn {Bs : Nat} {W : World} {v : Value} {L : List Int} (h : W.ownsRow Bs 3 1 v L.length (ints L)) : RowN (fun g => Bs ≤ g ∧ g < W.heap.size) W v L := by
  have h' := h
  obtain ⟨hl, ⟨rfl, h0⟩ | ⟨g, cap, cur, rfl, hg, hh, hnc, hcm, hcs, htk⟩⟩ := h
  · have e : L = [] := List.eq_nil_of_length_eq_zero h0
    subst e
    exact RowN.nil _ _
  · have lg : g < W.heap.size := (Array.getElem?_eq_some_iff.1 hh).1
    refine ⟨_, cap, rfl, hnc, hcm, (fun e => by cases e), fun ad e => ?_⟩
    cases e
    refine ⟨g, 0, ⟨hg, lg⟩, lg, fun _ => rfl, fun j hj => ?_, fun k => ?_, fun k y hy => ?_⟩
    · rw [cell_of_row _ g (0 + j) cur 3 _ hh, Nat.zero_add, Array.getElem?_eq_getElem (by omega)]; rfl
    · exact own_fz h' k
    · have hk : k < L.length := (List.getElem?_eq_some_iff.1 hy).1
      rw [Nat.zero_add, World.ownsRow.cellAt h' k (by omega), ints_get, hy]; rfl

/-- what frees leaves -/
def FreesP (ρ : Nat → Nat) (w : World) (x : Nat) (q k : Bl) (n : Nat) (X Y : Rg) (tv cv : Value) (Cm Mn : List Int) (e : Ending) (w' : World) : Prop :=
  ∃ b ρ' ov' mv' X' Y' Cm' Mn', e = .returned (.bool b) ∧ Two ρ' w' x q k n X' Y' tv cv ov' mv' Cm' Mn' ∧ Mv ρ w ρ' w' ∧ ((X' = X ∧ Y' = Y ∧ Cm' = Cm ∧ Mn' = Mn) ∨ ∃ (id : Int) (j : Nat), X' = ⟨X.D, frB n X.B id, X.s, X.c⟩ ∧ Y' = ⟨Y.D, frB n Y.B id, Y.s, Y.c⟩ ∧ ((Mn[j]? = some id ∧ Mn' = Mn.eraseIdx j ∧ Cm' = Cm) ∨ (Cm[j]? = some id ∧ Cm' = Cm.eraseIdx j ∧ Mn' = Mn))) ∧ (X = Y → b = true)

theorem Two.cells' {ρ : Nat → Nat} {w w' : World} {x : Nat} {q k : Bl} {n : Nat} {X Y : Rg} {tv cv ov mv : Value} {Cm Mn : List Int} (h : Two ρ w x q k n X Y tv cv ov mv Cm Mn) (hb : But (fun g => g = q.g ∨ g = k.g) w w') : ∀ j v, w.cell? ⟨x, j, none⟩ = some v → w'.cell? ⟨x, j, none⟩ = some v := fun j v hv =>
  (hb.cell (p := ⟨x, j, none⟩) h.p.xlt (fun e => by
    have e : x = q.g ∨ x = k.g := e
    have h1 := h.xx
    rcases e with e | e
    · rw [e, h.q3] at h1; omega
    · rw [e, RQ.g7 h.r] at h1; omega)).trans hv

set_option maxRecDepth 100000 in
set_option maxHeartbeats 4000000 in
theorem frees_mine {ρ : Nat → Nat} {w : World} {x : Nat} {q k : Bl} {n : Nat} {X Y : Rg} {tv cv ov mv : Value} {Cm Mn : List Int} (h : Two ρ w x q k n X Y tv cv ov mv Cm Mn) (hL : Mn.length ≤ 4398046511104) {m : Nat} (hX : Bdd m X.B) (hY : Bdd m Y.B) (hm2 : m < 4611686018427387904) (kd kk : Int) (hkd : kd ≠ 9) (bv : Value) (hbv : ∃ a m c, bv = .slice a m c) (ys : Bool) :
    Calls Try.prog 43 #[.pointer (some ⟨x, 0, none⟩), .agg #[.int .i64 kd, .int .i64 kk, bv, .bool ys]] w (FreesP ρ w x q k n X Y tv cv Cm Mn) := by
  obtain ⟨ba, bm, bc, rfl⟩ := hbv
  have e9 : (kd == 9) = false := by simp [hkd]
  have bA : Below w.heap.size w (w.alloc (.cells #[.int .i64 kd, .int .i64 kk, .slice ba bm bc, .bool ys] 29)) := (Below.refl _ _).alloc (Nat.le_refl _) _
  have cz : ∀ j v, (#[.int .i64 kd, .int .i64 kk, .slice ba bm bc, .bool ys] : Array Value)[j]? = some v → (w.alloc (.cells #[.int .i64 kd, .int .i64 kk, .slice ba bm bc, .bool ys] 29)).cell? ⟨w.heap.size, j, none⟩ = some v := fun j v hv => by
    rw [cell_of_row _ w.heap.size j _ 29 (0, 0) (heap_alloc_new w _)]; exact hv
  have o0 : (w.alloc (.cells #[.int .i64 kd, .int .i64 kk, .slice ba bm bc, .bool ys] 29)).cell? ⟨w.heap.size, 0, none⟩ = some (.int .i64 kd) := cz 0 _ rfl
  have o1 : (w.alloc (.cells #[.int .i64 kd, .int .i64 kk, .slice ba bm bc, .bool ys] 29)).cell? ⟨w.heap.size, 1, none⟩ = some (.int .i64 kk) := cz 1 _ rfl
  have h0 := h.later bA
  have m0 := Mv.below h.lt bA
  have sol : w.heap.size < (w.alloc (.cells #[.int .i64 kd, .int .i64 kk, .slice ba bm bc, .bool ys] 29)).heap.size := by simp
  have nxs : x ≠ w.heap.size := by have := h.p.xlt; omega
  have SOR : Hid (ρ w.heap.size = 0) := by
    rcases Nat.eq_zero_or_pos (ρ w.heap.size) with e | e
    · exact e
    · have := h.lt _ (by omega : ρ w.heap.size ≠ 0); omega
  obtain ⟨la, lc, el⟩ := h.rm.shape
  obtain ⟨ll, hll⟩ : ∃ ll, ll = Mn.length := ⟨_, rfl⟩
  rw [← hll] at el hL
  subst el
  have T0 := hide h0
  have M0 := hide m0
  have c6 := h0.c6
  have c7 := h0.c7
  have zl : (ll : Int) ≤ 4398046511104 := by omega
  have HLL := hide hll
  clear bA cz h h0 m0 hll
  go_enter Try.func43, Try.ntmps43
  go_upto_region 1 with fail
  obtain ⟨so, hso⟩ : ∃ so, so = w.heap.size := ⟨_, rfl⟩
  rw [← hso] at o0 o1 sol nxs SOR ⊢
  generalize w.alloc (.cells #[.int .i64 kd, .int .i64 kk, .slice ba bm bc, .bool ys] 29) = w0 at *
  clear hso
  have SOL := hide (And.intro sol nxs)
  by_cases hno : ll = 0 ∨ kk < 0
  · have F : Hid (FreesP ρ w x q k n X Y tv cv Cm Mn (.returned (.bool true)) w0) := ⟨true, ρ, _, _, X, Y, Cm, Mn, rfl, T0.out, M0.out, .inl ⟨rfl, rfl, rfl, rfl⟩, fun _ => rfl⟩
    rcases hno with hno | hno
    · subst hno
      go_wp2
      go_ret
      exact F.out
    · by_cases h2 : ll = 0
      · subst h2
        go_wp2
        go_ret
        exact F.out
      · have e2 : ((ll : Int) == 0) = false := by rw [beq_eq_false_iff_ne]; omega
        go_wp2
        go_ret
        exact F.out
  · obtain ⟨kn, rfl⟩ : ∃ kn : Nat, kk = kn := ⟨kk.toNat, by omega⟩
    have l0 : 0 < ll := by omega
    have hll := HLL.out
    have e2 : ((ll : Int) == 0) = false := by rw [beq_eq_false_iff_ne]; omega
    have zk0 : ¬ (kn : Int) < 0 := by omega
    have zl0 : ¬ (ll : Int) = 0 := by omega
    obtain ⟨j, hj⟩ : ∃ j, j = kn % ll := ⟨_, rfl⟩
    have jl : j < ll := by rw [hj]; exact Nat.mod_lt _ l0
    have zj : (kn : Int) % (ll : Int) = (j : Int) := by rw [hj]; omega
    have zj2 : Int.tmod (kn : Int) (ll : Int) = (j : Int) := by rw [hj]; rfl
    have zjl : (j : Int) < (ll : Int) := by omega
    obtain ⟨lg, off, rfl, hlg, lgr, hcs⟩ := T0.out.rm.at (by omega)
    obtain ⟨id, hid⟩ : ∃ id, Mn[j]? = some id := ⟨_, List.getElem?_eq_getElem (by omega)⟩
    have cid := hcs j id hid
    have cap1 : ll ≤ lc ∧ lc ≤ maxLen := by
      obtain ⟨a', c', e, h1, h2, _⟩ := T0.out.rm
      simp only [Value.slice.injEq] at e
      omega
    have zc1 : (ll : Int) ≤ (lc : Int) := by omega
    have zc2 : (lc : Int) ≤ 9223372036854775807 := by have := cap1.2; unfold maxLen at this; omega
    have ljt : (Mn.take j).length = j := by rw [List.length_take]; omega
    have ljd : (Mn.drop (j + 1)).length = ll - (j + 1) := by rw [List.length_drop, ← hll]
    obtain ⟨a1, k1, w1, hr1, ho1, hb1⟩ := own_more (L := []) (World.ownsRow_nil w0 w0.heap.size 3 1) ⟨lg, off, none⟩ lc (Mn.take j) (fun t y hy => by
      rw [Addr.add_mid]
      rw [List.getElem?_take] at hy
      split at hy
      · exact hcs t y hy
      · cases hy) (Nat.le_refl _) (by rw [ljt]; simp; omega)
    rw [List.nil_append, ljt] at hr1 ho1
    have b01 : But (fun _ => False) w0 w1 := hb1.mono (fun g e => by cases e)
    obtain ⟨a2, k2, w2, hr2, ho2, hb2⟩ := own_more (L := Mn.take j) (by rw [ljt]; exact ho1) (if lc = j + 1 then ⟨lg, off, none⟩ else ⟨lg, off + (j + 1), none⟩) (lc - (j + 1)) (Mn.drop (j + 1)) (fun t y hy => by
      have ht : t < ll - (j + 1) := by have := (List.getElem?_eq_some_iff.1 hy).1; omega
      rw [if_neg (by omega), Addr.add_mid]
      rw [List.getElem?_drop] at hy
      rw [b01.cell (p := ⟨lg, off + (j + 1) + t, none⟩) hlg (fun e => e), Nat.add_assoc]
      exact hcs _ y hy) b01.size (by rw [ljt, ljd]; omega)
    rw [ljd] at hr2
    have eer : Mn.take j ++ Mn.drop (j + 1) = Mn.eraseIdx j := (List.eraseIdx_eq_take_drop_succ _ _).symm
    have b02 : But (fun _ => False) w0 w2 := b01.trans' hb2 (fun g hg e => by have := (World.ownsRow.lt ho1 g e).1; omega)
    obtain ⟨l2, hl2⟩ : ∃ l2, l2 = (Mn.take j ++ Mn.drop (j + 1)).length := ⟨_, rfl⟩
    rw [← hl2] at hr2
    have rw2 : RowN (fun g => ρ g = 12 ∨ w0.heap.size ≤ g ∧ g < w2.heap.size) w2 (.slice a2 l2 k2) (Mn.eraseIdx j) := by
      have := RowN.ofOwn ho2
      rw [← hl2, eer] at this
      exact this.own (fun g _ e => .inr e)
    obtain ⟨cj2, fj2, ρ3, t3, m3⟩ := T0.out.setMine (b02.mono (fun _ e => e.elim)) rw2
    have o02 := (b02.cell (p := ⟨so, 0, none⟩) sol (fun e => e)).trans o0
    have HR1 := hide hr1
    have HR2 := hide hr2
    have T3 := hide t3
    have M3 := hide (M0.out.trans m3)
    have HID := hide hid
    have XF1 : Hid (∀ W, Below (w2.setCell ⟨x, 7, none⟩ (.slice a2 l2 k2)).heap.size (w2.setCell ⟨x, 7, none⟩ (.slice a2 l2 k2)) W → Calls Try.prog 28 #[.pointer (some ⟨q.p, 0, none⟩), .int .i64 id] W fun e w' => e = .returned (.int .i64 (hoE n X.B id)) ∧ Two ρ3 w' x q k n ⟨X.D, frB n X.B id, X.s, X.c⟩ Y tv cv ov (.slice a2 l2 k2) Cm (Mn.eraseIdx j) ∧ But (fun g => g = q.g ∨ g = k.g) (w2.setCell ⟨x, 7, none⟩ (.slice a2 l2 k2)) w') := fun W hb => by
      have t := T3.out.later hb
      refine (Free_any t.p.p.pool id (by have := hX id.toNat; omega)).mono ?_
      rintro _ w' ⟨rfl, hp, hbb⟩
      obtain ⟨z1, z2⟩ := t.pool hbb hp
      exact ⟨rfl, z1, (But.of_below hb).trans (hbb.mono (fun g e => .inl e))⟩
    have XF2 : Hid (∀ W, Two ρ3 W x q k n ⟨X.D, frB n X.B id, X.s, X.c⟩ Y tv cv ov (.slice a2 l2 k2) Cm (Mn.eraseIdx j) → But (fun g => g = q.g ∨ g = k.g) (w2.setCell ⟨x, 7, none⟩ (.slice a2 l2 k2)) W → Calls Try.prog 76 #[.pointer (some ⟨k.p, 0, none⟩), .int .i64 id] W fun e w' => e = .returned (.int .i64 (hoE n Y.B id)) ∧ Two ρ3 w' x q k n ⟨X.D, frB n X.B id, X.s, X.c⟩ ⟨Y.D, frB n Y.B id, Y.s, Y.c⟩ tv cv ov (.slice a2 l2 k2) Cm (Mn.eraseIdx j) ∧ But (fun g => g = q.g ∨ g = k.g) (w2.setCell ⟨x, 7, none⟩ (.slice a2 l2 k2)) w') := fun W t hb => by
      refine (rFree_any (RQ.rf t.r).pool id (by have := hY id.toNat; omega)).mono ?_
      rintro _ w' ⟨rfl, hp, hbb⟩
      obtain ⟨z1, z2⟩ := t.rpool hbb hp
      exact ⟨rfl, z1, hb.trans (hbb.mono (fun g e => .inr e))⟩
    have FIN : Hid (∀ w', Two ρ3 w' x q k n ⟨X.D, frB n X.B id, X.s, X.c⟩ ⟨Y.D, frB n Y.B id, Y.s, Y.c⟩ tv cv ov (.slice a2 l2 k2) Cm (Mn.eraseIdx j) → But (fun g => g = q.g ∨ g = k.g) (w2.setCell ⟨x, 7, none⟩ (.slice a2 l2 k2)) w' → FreesP ρ w x q k n X Y tv cv Cm Mn (.returned (.bool (hoE n X.B id == hoE n Y.B id))) w') := fun w' t hb =>
      ⟨_, ρ3, _, _, _, _, _, _, rfl, t, M3.out.trans (Mv.of T3.out.lt hb (fun g e => by
        rcases e with e | e
        · rw [e, T3.out.q3]; omega
        · rw [e, RQ.g7 T3.out.r]; omega)), .inr ⟨id, j, rfl, rfl, .inl ⟨HID.out, rfl, rfl⟩⟩, fun e => by subst e; simp⟩
    have KP : Hid (∀ W, But (fun g => g = q.g ∨ g = k.g) (w2.setCell ⟨x, 7, none⟩ (.slice a2 l2 k2)) W → W.cell? ⟨x, 1, none⟩ = some (.pointer (some ⟨q.p, 0, none⟩)) ∧ W.cell? ⟨x, 4, none⟩ = some (.pointer (some ⟨k.p, 0, none⟩))) := fun W hb => ⟨T3.out.cells' hb 1 _ T3.out.p.c1, T3.out.cells' hb 4 _ T3.out.c4⟩
    have wj : IntKind.i64.wrap ((j : Int) + 1) = (j : Int) + 1 := by rw [IntKind.wrap_i64]; omega
    generalize hoE n X.B id = eX at *
    generalize hoE n Y.B id = eY at *
    clear hcs hr1 ho1 hb1 hr2 ho2 hb2 eer hl2 rw2 t3 m3 hid b01 b02 T0 M0 cap1 ljt ljd hj hlg lgr hX hY sol nxs SOR hL hll
    by_cases ecap : lc = j + 1
    · have zcap : (lc : Int) = (j : Int) + 1 := by omega
      rw [if_pos ecap] at HR2
      subst ecap
      go_upto_region 8 with fail
      go_upto_region 9 with (at_builtin; refine wpList_app rfl _ _ 31 31 rfl _ _ rfl rfl HR1.out ?_)
      go_upto_region 10 with (at_builtin; refine wpList_app rfl _ _ 31 31 rfl _ _ rfl rfl HR2.out ?_)
      go_upto_region 13 with fail
      obtain ⟨w4, hw4⟩ : ∃ w4, w4 = w2.setCell ⟨x, 7, none⟩ (.slice a2 l2 k2) := ⟨_, rfl⟩
      rw [← hw4] at XF1 XF2 FIN KP T3 ⊢
      clear hw4 HR1 HR2 c6 c7 cj2 fj2 o0 o1 o02 cid
      obtain ⟨c14, c44⟩ := KP.out w4 (But.refl _ _)
      have q0 : But (fun g => g = q.g ∨ g = k.g) w4 w4.drew := (But.refl _ _).drew
      have qd : Below w4.heap.size w4 w4.drew := undrew0 (Below.refl _ _)
      go_region_held3 (fun W => W.cell? ⟨x, 1, none⟩ = some (.pointer (some ⟨q.p, 0, none⟩)) ∧ W.cell? ⟨x, 4, none⟩ = some (.pointer (some ⟨k.p, 0, none⟩))) (first | exact KP.out _ (by assumption) | assumption) (first
        | (go_at_call 28; refine (XF1.out w4.drew qd).mono ?_; rintro _ w7 ⟨rfl, t7, q7⟩; have T7 := hide t7; clear t7)
        | (go_at_call 76; refine (XF2.out w7 T7.out q7).mono ?_; rintro _ w8 ⟨rfl, t8, q8⟩; have F8 := hide (FIN.out w8 t8 q8); clear t8))
      all_goals go_wp2
      all_goals go_ret
      all_goals exact F8.out
    · have zcap : ¬ (lc : Int) = (j : Int) + 1 := by omega
      rw [if_neg ecap] at HR2
      go_upto_region 8 with fail
      go_upto_region 9 with (at_builtin; refine wpList_app rfl _ _ 31 31 rfl _ _ rfl rfl HR1.out ?_)
      go_upto_region 10 with (at_builtin; refine wpList_app rfl _ _ 31 31 rfl _ _ rfl rfl HR2.out ?_)
      go_upto_region 13 with fail
      obtain ⟨w4, hw4⟩ : ∃ w4, w4 = w2.setCell ⟨x, 7, none⟩ (.slice a2 l2 k2) := ⟨_, rfl⟩
      rw [← hw4] at XF1 XF2 FIN KP T3 ⊢
      clear hw4 HR1 HR2 c6 c7 cj2 fj2 o0 o1 o02 cid
      obtain ⟨c14, c44⟩ := KP.out w4 (But.refl _ _)
      have q0 : But (fun g => g = q.g ∨ g = k.g) w4 w4.drew := (But.refl _ _).drew
      have qd : Below w4.heap.size w4 w4.drew := undrew0 (Below.refl _ _)
      go_region_held3 (fun W => W.cell? ⟨x, 1, none⟩ = some (.pointer (some ⟨q.p, 0, none⟩)) ∧ W.cell? ⟨x, 4, none⟩ = some (.pointer (some ⟨k.p, 0, none⟩))) (first | exact KP.out _ (by assumption) | assumption) (first
        | (go_at_call 28; refine (XF1.out w4.drew qd).mono ?_; rintro _ w7 ⟨rfl, t7, q7⟩; have T7 := hide t7; clear t7)
        | (go_at_call 76; refine (XF2.out w7 T7.out q7).mono ?_; rintro _ w8 ⟨rfl, t8, q8⟩; have F8 := hide (FIN.out w8 t8 q8); clear t8))
      all_goals go_wp2
      all_goals go_ret
      all_goals exact F8.out

set_option maxRecDepth 100000 in
set_option maxHeartbeats 4000000 in
theorem frees_come {ρ : Nat → Nat} {w : World} {x : Nat} {q k : Bl} {n : Nat} {X Y : Rg} {tv cv ov mv : Value} {Cm Mn : List Int} (h : Two ρ w x q k n X Y tv cv ov mv Cm Mn) (hL : Cm.length ≤ 4398046511104) {m : Nat} (hX : Bdd m X.B) (hY : Bdd m Y.B) (hm2 : m < 4611686018427387904) (kd kk : Int) (hkd : kd = 9) (bv : Value) (hbv : ∃ a m c, bv = .slice a m c) (ys : Bool) :
    Calls Try.prog 43 #[.pointer (some ⟨x, 0, none⟩), .agg #[.int .i64 kd, .int .i64 kk, bv, .bool ys]] w (FreesP ρ w x q k n X Y tv cv Cm Mn) := by
  obtain ⟨ba, bm, bc, rfl⟩ := hbv
  have e9 : (kd == 9) = true := by simp [hkd]
  obtain ⟨ma, mc, em⟩ := h.rm.shape
  obtain ⟨ml, hml⟩ : ∃ ml, ml = Mn.length := ⟨_, rfl⟩
  rw [← hml] at em
  subst em
  clear hml hkd
  have bA : Below w.heap.size w (w.alloc (.cells #[.int .i64 kd, .int .i64 kk, .slice ba bm bc, .bool ys] 29)) := (Below.refl _ _).alloc (Nat.le_refl _) _
  have cz : ∀ j v, (#[.int .i64 kd, .int .i64 kk, .slice ba bm bc, .bool ys] : Array Value)[j]? = some v → (w.alloc (.cells #[.int .i64 kd, .int .i64 kk, .slice ba bm bc, .bool ys] 29)).cell? ⟨w.heap.size, j, none⟩ = some v := fun j v hv => by
    rw [cell_of_row _ w.heap.size j _ 29 (0, 0) (heap_alloc_new w _)]; exact hv
  have o0 : (w.alloc (.cells #[.int .i64 kd, .int .i64 kk, .slice ba bm bc, .bool ys] 29)).cell? ⟨w.heap.size, 0, none⟩ = some (.int .i64 kd) := cz 0 _ rfl
  have o1 : (w.alloc (.cells #[.int .i64 kd, .int .i64 kk, .slice ba bm bc, .bool ys] 29)).cell? ⟨w.heap.size, 1, none⟩ = some (.int .i64 kk) := cz 1 _ rfl
  have h0 := h.later bA
  have m0 := Mv.below h.lt bA
  have sol : w.heap.size < (w.alloc (.cells #[.int .i64 kd, .int .i64 kk, .slice ba bm bc, .bool ys] 29)).heap.size := by simp
  have nxs : x ≠ w.heap.size := by have := h.p.xlt; omega
  have SOR : Hid (ρ w.heap.size = 0) := by
    rcases Nat.eq_zero_or_pos (ρ w.heap.size) with e | e
    · exact e
    · have := h.lt _ (by omega : ρ w.heap.size ≠ 0); omega
  obtain ⟨la, lc, el⟩ := h.rc.shape
  obtain ⟨ll, hll⟩ : ∃ ll, ll = Cm.length := ⟨_, rfl⟩
  rw [← hll] at el hL
  subst el
  have T0 := hide h0
  have M0 := hide m0
  have c6 := h0.c6
  have c7 := h0.c7
  have zl : (ll : Int) ≤ 4398046511104 := by omega
  have HLL := hide hll
  clear bA cz h h0 m0 hll
  go_enter Try.func43, Try.ntmps43
  go_upto_region 1 with fail
  obtain ⟨so, hso⟩ : ∃ so, so = w.heap.size := ⟨_, rfl⟩
  rw [← hso] at o0 o1 sol nxs SOR ⊢
  generalize w.alloc (.cells #[.int .i64 kd, .int .i64 kk, .slice ba bm bc, .bool ys] 29) = w0 at *
  clear hso
  have SOL := hide (And.intro sol nxs)
  by_cases hno : ll = 0 ∨ kk < 0
  · have F : Hid (FreesP ρ w x q k n X Y tv cv Cm Mn (.returned (.bool true)) w0) := ⟨true, ρ, _, _, X, Y, Cm, Mn, rfl, T0.out, M0.out, .inl ⟨rfl, rfl, rfl, rfl⟩, fun _ => rfl⟩
    rcases hno with hno | hno
    · subst hno
      go_wp2
      go_ret
      exact F.out
    · by_cases h2 : ll = 0
      · subst h2
        go_wp2
        go_ret
        exact F.out
      · have e2 : ((ll : Int) == 0) = false := by rw [beq_eq_false_iff_ne]; omega
        go_wp2
        go_ret
        exact F.out
  · obtain ⟨kn, rfl⟩ : ∃ kn : Nat, kk = kn := ⟨kk.toNat, by omega⟩
    have l0 : 0 < ll := by omega
    have hll := HLL.out
    have e2 : ((ll : Int) == 0) = false := by rw [beq_eq_false_iff_ne]; omega
    have zk0 : ¬ (kn : Int) < 0 := by omega
    have zl0 : ¬ (ll : Int) = 0 := by omega
    obtain ⟨j, hj⟩ : ∃ j, j = kn % ll := ⟨_, rfl⟩
    have jl : j < ll := by rw [hj]; exact Nat.mod_lt _ l0
    have zj : (kn : Int) % (ll : Int) = (j : Int) := by rw [hj]; omega
    have zj2 : Int.tmod (kn : Int) (ll : Int) = (j : Int) := by rw [hj]; rfl
    have zjl : (j : Int) < (ll : Int) := by omega
    obtain ⟨lg, off, rfl, hlg, lgr, hcs⟩ := T0.out.rc.at (by omega)
    obtain ⟨id, hid⟩ : ∃ id, Cm[j]? = some id := ⟨_, List.getElem?_eq_getElem (by omega)⟩
    have cid := hcs j id hid
    have cap1 : ll ≤ lc ∧ lc ≤ maxLen := by
      obtain ⟨a', c', e, h1, h2, _⟩ := T0.out.rc
      simp only [Value.slice.injEq] at e
      omega
    have zc1 : (ll : Int) ≤ (lc : Int) := by omega
    have zc2 : (lc : Int) ≤ 9223372036854775807 := by have := cap1.2; unfold maxLen at this; omega
    have ljt : (Cm.take j).length = j := by rw [List.length_take]; omega
    have ljd : (Cm.drop (j + 1)).length = ll - (j + 1) := by rw [List.length_drop, ← hll]
    obtain ⟨a1, k1, w1, hr1, ho1, hb1⟩ := own_more (L := []) (World.ownsRow_nil w0 w0.heap.size 3 1) ⟨lg, off, none⟩ lc (Cm.take j) (fun t y hy => by
      rw [Addr.add_mid]
      rw [List.getElem?_take] at hy
      split at hy
      · exact hcs t y hy
      · cases hy) (Nat.le_refl _) (by rw [ljt]; simp; omega)
    rw [List.nil_append, ljt] at hr1 ho1
    have b01 : But (fun _ => False) w0 w1 := hb1.mono (fun g e => by cases e)
    obtain ⟨a2, k2, w2, hr2, ho2, hb2⟩ := own_more (L := Cm.take j) (by rw [ljt]; exact ho1) (if lc = j + 1 then ⟨lg, off, none⟩ else ⟨lg, off + (j + 1), none⟩) (lc - (j + 1)) (Cm.drop (j + 1)) (fun t y hy => by
      have ht : t < ll - (j + 1) := by have := (List.getElem?_eq_some_iff.1 hy).1; omega
      rw [if_neg (by omega), Addr.add_mid]
      rw [List.getElem?_drop] at hy
      rw [b01.cell (p := ⟨lg, off + (j + 1) + t, none⟩) hlg (fun e => e), Nat.add_assoc]
      exact hcs _ y hy) b01.size (by rw [ljt, ljd]; omega)
    rw [ljd] at hr2
    have eer : Cm.take j ++ Cm.drop (j + 1) = Cm.eraseIdx j := (List.eraseIdx_eq_take_drop_succ _ _).symm
    have b02 : But (fun _ => False) w0 w2 := b01.trans' hb2 (fun g hg e => by have := (World.ownsRow.lt ho1 g e).1; omega)
    obtain ⟨l2, hl2⟩ : ∃ l2, l2 = (Cm.take j ++ Cm.drop (j + 1)).length := ⟨_, rfl⟩
    rw [← hl2] at hr2
    have rw2 : RowN (fun g => ρ g = 11 ∨ w0.heap.size ≤ g ∧ g < w2.heap.size) w2 (.slice a2 l2 k2) (Cm.eraseIdx j) := by
      have := RowN.ofOwn ho2
      rw [← hl2, eer] at this
      exact this.own (fun g _ e => .inr e)
    obtain ⟨cj2, fj2, ρ3, t3, m3⟩ := T0.out.setCome (b02.mono (fun _ e => e.elim)) rw2
    have o02 := (b02.cell (p := ⟨so, 0, none⟩) sol (fun e => e)).trans o0
    have HR1 := hide hr1
    have HR2 := hide hr2
    have T3 := hide t3
    have M3 := hide (M0.out.trans m3)
    have HID := hide hid
    have XF1 : Hid (∀ W, Below (w2.setCell ⟨x, 6, none⟩ (.slice a2 l2 k2)).heap.size (w2.setCell ⟨x, 6, none⟩ (.slice a2 l2 k2)) W → Calls Try.prog 28 #[.pointer (some ⟨q.p, 0, none⟩), .int .i64 id] W fun e w' => e = .returned (.int .i64 (hoE n X.B id)) ∧ Two ρ3 w' x q k n ⟨X.D, frB n X.B id, X.s, X.c⟩ Y tv cv (.slice a2 l2 k2) (.slice ma ml mc) (Cm.eraseIdx j) Mn ∧ But (fun g => g = q.g ∨ g = k.g) (w2.setCell ⟨x, 6, none⟩ (.slice a2 l2 k2)) w') := fun W hb => by
      have t := T3.out.later hb
      refine (Free_any t.p.p.pool id (by have := hX id.toNat; omega)).mono ?_
      rintro _ w' ⟨rfl, hp, hbb⟩
      obtain ⟨z1, z2⟩ := t.pool hbb hp
      exact ⟨rfl, z1, (But.of_below hb).trans (hbb.mono (fun g e => .inl e))⟩
    have XF2 : Hid (∀ W, Two ρ3 W x q k n ⟨X.D, frB n X.B id, X.s, X.c⟩ Y tv cv (.slice a2 l2 k2) (.slice ma ml mc) (Cm.eraseIdx j) Mn → But (fun g => g = q.g ∨ g = k.g) (w2.setCell ⟨x, 6, none⟩ (.slice a2 l2 k2)) W → Calls Try.prog 76 #[.pointer (some ⟨k.p, 0, none⟩), .int .i64 id] W fun e w' => e = .returned (.int .i64 (hoE n Y.B id)) ∧ Two ρ3 w' x q k n ⟨X.D, frB n X.B id, X.s, X.c⟩ ⟨Y.D, frB n Y.B id, Y.s, Y.c⟩ tv cv (.slice a2 l2 k2) (.slice ma ml mc) (Cm.eraseIdx j) Mn ∧ But (fun g => g = q.g ∨ g = k.g) (w2.setCell ⟨x, 6, none⟩ (.slice a2 l2 k2)) w') := fun W t hb => by
      refine (rFree_any (RQ.rf t.r).pool id (by have := hY id.toNat; omega)).mono ?_
      rintro _ w' ⟨rfl, hp, hbb⟩
      obtain ⟨z1, z2⟩ := t.rpool hbb hp
      exact ⟨rfl, z1, hb.trans (hbb.mono (fun g e => .inr e))⟩
    have FIN : Hid (∀ w', Two ρ3 w' x q k n ⟨X.D, frB n X.B id, X.s, X.c⟩ ⟨Y.D, frB n Y.B id, Y.s, Y.c⟩ tv cv (.slice a2 l2 k2) (.slice ma ml mc) (Cm.eraseIdx j) Mn → But (fun g => g = q.g ∨ g = k.g) (w2.setCell ⟨x, 6, none⟩ (.slice a2 l2 k2)) w' → FreesP ρ w x q k n X Y tv cv Cm Mn (.returned (.bool (hoE n X.B id == hoE n Y.B id))) w') := fun w' t hb =>
      ⟨_, ρ3, _, _, _, _, _, _, rfl, t, M3.out.trans (Mv.of T3.out.lt hb (fun g e => by
        rcases e with e | e
        · rw [e, T3.out.q3]; omega
        · rw [e, RQ.g7 T3.out.r]; omega)), .inr ⟨id, j, rfl, rfl, .inr ⟨HID.out, rfl, rfl⟩⟩, fun e => by subst e; simp⟩
    have KP : Hid (∀ W, But (fun g => g = q.g ∨ g = k.g) (w2.setCell ⟨x, 6, none⟩ (.slice a2 l2 k2)) W → W.cell? ⟨x, 1, none⟩ = some (.pointer (some ⟨q.p, 0, none⟩)) ∧ W.cell? ⟨x, 4, none⟩ = some (.pointer (some ⟨k.p, 0, none⟩))) := fun W hb => ⟨T3.out.cells' hb 1 _ T3.out.p.c1, T3.out.cells' hb 4 _ T3.out.c4⟩
    have wj : IntKind.i64.wrap ((j : Int) + 1) = (j : Int) + 1 := by rw [IntKind.wrap_i64]; omega
    generalize hoE n X.B id = eX at *
    generalize hoE n Y.B id = eY at *
    clear hcs hr1 ho1 hb1 hr2 ho2 hb2 eer hl2 rw2 t3 m3 hid b01 b02 T0 M0 cap1 ljt ljd hj hlg lgr hX hY sol nxs SOR hL hll
    by_cases ecap : lc = j + 1
    · have zcap : (lc : Int) = (j : Int) + 1 := by omega
      rw [if_pos ecap] at HR2
      subst ecap
      go_upto_region 8 with fail
      go_upto_region 9 with (at_builtin; refine wpList_app rfl _ _ 31 31 rfl _ _ rfl rfl HR1.out ?_)
      go_upto_region 10 with (at_builtin; refine wpList_app rfl _ _ 31 31 rfl _ _ rfl rfl HR2.out ?_)
      go_upto_region 13 with fail
      obtain ⟨w4, hw4⟩ : ∃ w4, w4 = w2.setCell ⟨x, 6, none⟩ (.slice a2 l2 k2) := ⟨_, rfl⟩
      rw [← hw4] at XF1 XF2 FIN KP T3 ⊢
      clear hw4 HR1 HR2 c6 c7 cj2 fj2 o0 o1 o02 cid
      obtain ⟨c14, c44⟩ := KP.out w4 (But.refl _ _)
      have q0 : But (fun g => g = q.g ∨ g = k.g) w4 w4.drew := (But.refl _ _).drew
      have qd : Below w4.heap.size w4 w4.drew := undrew0 (Below.refl _ _)
      go_region_held3 (fun W => W.cell? ⟨x, 1, none⟩ = some (.pointer (some ⟨q.p, 0, none⟩)) ∧ W.cell? ⟨x, 4, none⟩ = some (.pointer (some ⟨k.p, 0, none⟩))) (first | exact KP.out _ (by assumption) | assumption) (first
        | (go_at_call 28; refine (XF1.out w4.drew qd).mono ?_; rintro _ w7 ⟨rfl, t7, q7⟩; have T7 := hide t7; clear t7)
        | (go_at_call 76; refine (XF2.out w7 T7.out q7).mono ?_; rintro _ w8 ⟨rfl, t8, q8⟩; have F8 := hide (FIN.out w8 t8 q8); clear t8))
      all_goals go_wp2
      all_goals go_ret
      all_goals exact F8.out
    · have zcap : ¬ (lc : Int) = (j : Int) + 1 := by omega
      rw [if_neg ecap] at HR2
      go_upto_region 8 with fail
      go_upto_region 9 with (at_builtin; refine wpList_app rfl _ _ 31 31 rfl _ _ rfl rfl HR1.out ?_)
      go_upto_region 10 with (at_builtin; refine wpList_app rfl _ _ 31 31 rfl _ _ rfl rfl HR2.out ?_)
      go_upto_region 13 with fail
      obtain ⟨w4, hw4⟩ : ∃ w4, w4 = w2.setCell ⟨x, 6, none⟩ (.slice a2 l2 k2) := ⟨_, rfl⟩
      rw [← hw4] at XF1 XF2 FIN KP T3 ⊢
      clear hw4 HR1 HR2 c6 c7 cj2 fj2 o0 o1 o02 cid
      obtain ⟨c14, c44⟩ := KP.out w4 (But.refl _ _)
      have q0 : But (fun g => g = q.g ∨ g = k.g) w4 w4.drew := (But.refl _ _).drew
      have qd : Below w4.heap.size w4 w4.drew := undrew0 (Below.refl _ _)
      go_region_held3 (fun W => W.cell? ⟨x, 1, none⟩ = some (.pointer (some ⟨q.p, 0, none⟩)) ∧ W.cell? ⟨x, 4, none⟩ = some (.pointer (some ⟨k.p, 0, none⟩))) (first | exact KP.out _ (by assumption) | assumption) (first
        | (go_at_call 28; refine (XF1.out w4.drew qd).mono ?_; rintro _ w7 ⟨rfl, t7, q7⟩; have T7 := hide t7; clear t7)
        | (go_at_call 76; refine (XF2.out w7 T7.out q7).mono ?_; rintro _ w8 ⟨rfl, t8, q8⟩; have F8 := hide (FIN.out w8 t8 q8); clear t8))
      all_goals go_wp2
      all_goals go_ret
      all_goals exact F8.out

end Go.Proofs.Ytjkfjijnjkpbbaa
