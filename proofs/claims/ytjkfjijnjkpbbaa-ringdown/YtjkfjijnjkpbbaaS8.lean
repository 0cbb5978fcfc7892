
/-
  The document's ring: begin, New and Reset. The document's ring: Send. The document's ring: Poll.
-/
import Derived.Test.YtjkfjijnjkpbbaaS5
import Derived.Test.YtjkfjijnjkpbbaaS2
namespace Go.Proofs.Ytjkfjijnjkpbbaa
open Go.RowKit

set_option maxRecDepth 100000 in
set_option maxHeartbeats 1000000 in
theorem rbegin_any {ρ : Nat → Nat} {w : World} {k : Bl} {n : Nat} {D : Dev} {B : Nat → Buf} {tv cv : Value} {nx fl : Nat} {T C : List Int} (h : RQ ρ w k n D B tv cv nx fl T C) :
    Calls Try.prog 67 #[.pointer (some ⟨k.r, 0, none⟩)] w fun e w' => e = .returned (.tuple #[]) ∧ ∃ ρ' tv' cv', RQ ρ' w' k n (bgF n D B).D (bgF n D B).B tv' cv' 0 (bgF n D B).c.nx [] (bgF n D B).c.ids ∧ Nx ρ w ρ' w' := by
  have X1 := hide (rWrite_any h.rf.dev h.rf.ok 0 2)
  have c0 := h.rf.c0
  have H := hide h
  clear h
  go_enter Try.func67, Try.ntmps67
  go_wp2_with fail
  refine X1.out.mono ?_
  rintro _ w1 ⟨rfl, d1, b1⟩
  obtain ⟨p1, n1⟩ := H.out.onDev b1 d1 (H.out.rf.ok.wr 0 2)
  have P1 := hide p1
  have N1 := hide n1
  have c01 := p1.rf.c0
  have X2 := hide (rWrite_any p1.rf.dev p1.rf.ok 0 1)
  clear d1 b1 X1 c0 p1 n1 H
  go_wp2_with fail
  refine X2.out.mono ?_
  rintro _ w2 ⟨rfl, d2, b2⟩
  obtain ⟨p2, n2⟩ := P1.out.onDev b2 d2 (P1.out.rf.ok.wr 0 1)
  have N2 := hide (N1.out.trans n2)
  have c2 := p2.rf.c2
  have f2 := p2.rf.fz 2
  obtain ⟨p3, n3⟩ := p2.store (tv' := .slice none 0 0) (cv' := cv) (nx' := nx) (fl' := fl) (T' := []) (C' := C) 2 (.slice none 0 0) (by omega) (if_pos rfl) (if_neg (by omega)) (if_neg (by omega)) (if_neg (by omega)) (RowN.nil _ _) p2.c
  have P3 := hide p3
  have N3 := hide (N2.out.trans n3)
  clear d2 b2 X2 P1 c01 p2 n2 N1 p3 n3 N2
  go_upto_region 3 with fail
  clear c2 f2
  generalize w2.setCell ⟨k.r, 2, none⟩ (.slice none 0 0) = w3 at *
  have c3 := P3.out.rf.c3
  have f3 := P3.out.rf.fz 3
  obtain ⟨p4, n4⟩ := P3.out.store (tv' := .slice none 0 0) (cv' := .slice none 0 0) (nx' := nx) (fl' := fl) (T' := []) (C' := []) 3 (.slice none 0 0) (by omega) (if_neg (by omega)) (if_pos rfl) (if_neg (by omega)) (if_neg (by omega)) (RowN.nil _ _) (RowN.nil _ _)
  have P4 := hide p4
  have N4 := hide (N3.out.trans n4)
  clear p4 n4 N3 P3
  go_upto_region 4 with fail
  clear c3 f3
  generalize w3.setCell ⟨k.r, 3, none⟩ (.slice none 0 0) = w4 at *
  have c4 := P4.out.rf.c4
  have f4 := P4.out.rf.fz 4
  obtain ⟨p5, n5⟩ := P4.out.store (tv' := .slice none 0 0) (cv' := .slice none 0 0) (nx' := 0) (fl' := fl) (T' := []) (C' := []) 4 (.int .i64 0) (by omega) (if_neg (by omega)) (if_neg (by omega)) (if_pos rfl) (if_neg (by omega)) (RowN.nil _ _) (RowN.nil _ _)
  have P5 := hide p5
  have N5 := hide (N4.out.trans n5)
  clear p5 n5 N4 P4
  go_upto_region 5 with fail
  clear c4 f4
  generalize w4.setCell ⟨k.r, 4, none⟩ (.int .i64 0) = w5 at *
  have c5 := P5.out.rf.c5
  have f5 := P5.out.rf.fz 5
  obtain ⟨p6, n6⟩ := P5.out.store (tv' := .slice none 0 0) (cv' := .slice none 0 0) (nx' := 0) (fl' := 0) (T' := []) (C' := []) 5 (.int .i64 0) (by omega) (if_neg (by omega)) (if_neg (by omega)) (if_neg (by omega)) (if_pos rfl) (RowN.nil _ _) (RowN.nil _ _)
  have P6 := hide p6
  have N6 := hide (N5.out.trans n6)
  clear p6 n6 N5 P5
  go_upto_region 6 with fail
  clear c5 f5
  generalize w5.setCell ⟨k.r, 5, none⟩ (.int .i64 0) = w6 at *
  have XF := hide (rfill_any (x := ⟨bgD D, B, sd0⟩) P6.out (Nat.zero_le _))
  go_wp2_with fail
  refine XF.out.mono ?_
  rintro _ w7 ⟨rfl, ρ7, cv7, q7, b7⟩
  have Q7 : Hid (RQ ρ7 w7 k n (bgF n D B).D (bgF n D B).B (.slice none 0 0) cv7 0 (bgF n D B).c.nx [] (bgF n D B).c.ids) := q7
  have N7 := hide (N6.out.trans b7)
  clear b7 q7 XF P6 N6
  go_wp2
  go_end0
  first
    | exact ⟨rfl, ρ7, _, cv7, Q7.out, N7.out⟩
    | exact ⟨rfl, ρ7, ⟨_, cv7, Q7.out⟩, N7.out⟩

/-- the document's ring and its answers in the program's words -/
def RS (ρ : Nat → Nat) (W : World) (k : Bl) (n : Nat) (Y : Rg) (tv cv : Value) : Prop := RQ ρ W k n Y.D Y.B tv cv Y.s.nx Y.c.nx Y.s.ids Y.c.ids

set_option maxRecDepth 100000 in
set_option maxHeartbeats 1000000 in
theorem rReset_any {ρ : Nat → Nat} {w : World} {k : Bl} {n : Nat} {Y : Rg} {tv cv : Value} (h : RS ρ w k n Y tv cv) (ht : Y.s.ids.length ≤ 15) (hc : Y.c.ids.length ≤ 15) {m : Nat} (hm : Bdd m Y.B) (hm2 : m < 4611686018427387904) :
    Calls Try.prog 38 #[.pointer (some ⟨k.r, 0, none⟩)] w fun e w' => e = .returned (.tuple #[]) ∧ ∃ ρ' tv' cv', RS ρ' w' k n (Y.reset n) tv' cv' ∧ Nx ρ w ρ' w' := by
  have H := hide h
  have HM := hide hm
  obtain ⟨R, hR⟩ : ∃ R, R = Y.reset n := ⟨_, rfl⟩
  have HR := hide hR
  rw [← hR]
  obtain ⟨T, hT⟩ : ∃ T, T = Y.s.ids := ⟨_, rfl⟩
  obtain ⟨C, hC⟩ : ∃ C, C = Y.c.ids := ⟨_, rfl⟩
  have HT := hide hT
  have HC := hide hC
  rw [← hT] at ht
  rw [← hC] at hc
  have zt : (T.length : Int) ≤ 15 := by omega
  have zc : (C.length : Int) ≤ 15 := by omega
  obtain ⟨ta, tc, et⟩ := (RQ.t h).shape
  obtain ⟨ca, cc, ec⟩ := (RQ.c h).shape
  rw [← hT] at et
  rw [← hC] at ec
  subst et ec
  clear h hm hR hT hC
  go_enter Try.func38, Try.ntmps38
  go_wp2
  go_loopw [2] (fun v1 wr => ∃ i : Nat, v1 = .int .i64 (i : Int) ∧ i ≤ T.length ∧ Hid (RQ ρ wr k n Y.D (frs n Y.B (T.take i)) (.slice ta T.length tc) (.slice ca C.length cc) Y.s.nx Y.c.nx Y.s.ids Y.c.ids ∧ Nx ρ w ρ wr)) (fun v1 _ => T.length - (intOf v1).toNat)
  case atStart => exact ⟨0, rfl, Nat.zero_le _, H.out, Nx.refl (RQ.lt H.out)⟩
  case round =>
    clear H
    obtain ⟨i, rfl, hi, hq⟩ := hrel
    have c2 := hq.out.1.rf.c2
    have c1 := hq.out.1.rf.c1
    by_cases hlt : i < T.length
    · have zi : (i : Int) < (T.length : Int) := by omega
      obtain ⟨x, hx⟩ : ∃ x, T[i]? = some x := ⟨_, List.getElem?_eq_getElem hlt⟩
      obtain ⟨g, off, rfl, hg, _, hcs⟩ := hq.out.1.t.at (by rw [← HT.out]; omega)
      have cx := hcs i x (by rw [← HT.out]; exact hx)
      have e1 : frB n (frs n Y.B (T.take i)) x = frs n Y.B (T.take (i + 1)) := by rw [take_snoc hlt, frs_snoc, hx]; rfl
      have XF : Hid (∀ W, Below wr.heap.size wr W → Calls Try.prog 76 #[.pointer (some ⟨k.p, 0, none⟩), .int .i64 x] W fun e w' => (∃ v, e = .returned (.int .i64 v)) ∧ Hid (RQ ρ w' k n Y.D (frs n Y.B (T.take (i + 1))) (.slice (some ⟨g, off, none⟩) T.length tc) (.slice ca C.length cc) Y.s.nx Y.c.nx Y.s.ids Y.c.ids ∧ Nx ρ w ρ w')) := fun W hb => by
        have q := hq.out.1.later hb
        refine (rFree_any q.rf.pool x (by have := (HM.out.frs (n := n) (T.take i)) x.toNat; omega)).mono ?_
        rintro _ w1 ⟨rfl, hp1, hb1⟩
        obtain ⟨q1, n1⟩ := q.onPool hb1 hp1
        rw [e1] at q1
        exact ⟨⟨_, rfl⟩, q1, hq.out.2.trans ((Nx.of hq.out.1.lt (K := fun _ => False) (But.of_below hb) (fun _ e => e.elim)).trans n1)⟩
      clear hx hcs e1
      go_upto_region 3 with fail
      have q7 : Below wr.heap.size wr wr.drew := undrew0 (Below.refl _ _)
      go_region_with (go_at_call 76; refine (XF.out wr.drew q7).mono ?_; rintro _ w1 ⟨⟨v1, rfl⟩, Q1⟩)
      all_goals clear XF c1 c2 cx hq q7
      all_goals go_wp2
      all_goals go_roundw
      all_goals first
        | exact ⟨i + 1, by go_num, hlt, Q1.out⟩
        | (simp [intOf]; omega)
    · obtain rfl : i = T.length := by omega
      have zi : ¬ (T.length : Int) < (T.length : Int) := by omega
      rw [List.take_length] at hq
      go_wp2
      clear c1 c2
      go_loopw [3] (fun v2 wr2 => ∃ i : Nat, v2 = .int .i64 (i : Int) ∧ i ≤ C.length ∧ Hid (RQ ρ wr2 k n Y.D (frs n (frs n Y.B T) (C.take i)) (.slice ta T.length tc) (.slice ca C.length cc) Y.s.nx Y.c.nx Y.s.ids Y.c.ids ∧ Nx ρ w ρ wr2)) (fun v2 _ => C.length - (intOf v2).toNat)
      case atStart => exact ⟨0, rfl, Nat.zero_le _, hq.out⟩
      case round =>
        clear hq
        obtain ⟨i, rfl, hi, hq⟩ := hrel
        have c3 := hq.out.1.rf.c3
        have c1 := hq.out.1.rf.c1
        by_cases hlt : i < C.length
        · have zi : (i : Int) < (C.length : Int) := by omega
          obtain ⟨x, hx⟩ : ∃ x, C[i]? = some x := ⟨_, List.getElem?_eq_getElem hlt⟩
          obtain ⟨g, off, rfl, hg, _, hcs⟩ := hq.out.1.c.at (by rw [← HC.out]; omega)
          have cx := hcs i x (by rw [← HC.out]; exact hx)
          have e1 : frB n (frs n (frs n Y.B T) (C.take i)) x = frs n (frs n Y.B T) (C.take (i + 1)) := by rw [take_snoc hlt, frs_snoc, hx]; rfl
          have XF : Hid (∀ W, Below wr.heap.size wr W → Calls Try.prog 76 #[.pointer (some ⟨k.p, 0, none⟩), .int .i64 x] W fun e w' => (∃ v, e = .returned (.int .i64 v)) ∧ Hid (RQ ρ w' k n Y.D (frs n (frs n Y.B T) (C.take (i + 1))) (.slice ta T.length tc) (.slice (some ⟨g, off, none⟩) C.length cc) Y.s.nx Y.c.nx Y.s.ids Y.c.ids ∧ Nx ρ w ρ w')) := fun W hb => by
            have q := hq.out.1.later hb
            refine (rFree_any q.rf.pool x (by have := ((HM.out.frs (n := n) T).frs (n := n) (C.take i)) x.toNat; omega)).mono ?_
            rintro _ w1 ⟨rfl, hp1, hb1⟩
            obtain ⟨q1, n1⟩ := q.onPool hb1 hp1
            rw [e1] at q1
            exact ⟨⟨_, rfl⟩, q1, hq.out.2.trans ((Nx.of hq.out.1.lt (K := fun _ => False) (But.of_below hb) (fun _ e => e.elim)).trans n1)⟩
          clear hx hcs e1
          go_upto_region 7 with fail
          have q7 : Below wr.heap.size wr wr.drew := undrew0 (Below.refl _ _)
          go_region_with (go_at_call 76; refine (XF.out wr.drew q7).mono ?_; rintro _ w1 ⟨⟨v1, rfl⟩, Q1⟩)
          all_goals clear XF c1 c3 cx hq q7
          all_goals go_wp2
          all_goals go_roundw
          all_goals first
            | exact ⟨i + 1, by go_num, hlt, Q1.out⟩
            | (simp [intOf]; omega)
        · obtain rfl : i = C.length := by omega
          have zi : ¬ (C.length : Int) < (C.length : Int) := by omega
          rw [List.take_length] at hq
          have XB := hide (rbegin_any hq.out.1)
          go_wp2_with fail
          refine XB.out.mono ?_
          rintro _ w5 ⟨rfl, ρ5, tv5, cv5, q5, n5⟩
          have Q5 : Hid (RS ρ5 w5 k n R tv5 cv5) := by
            rw [HR.out]
            unfold Hid RS Rg.reset
            rw [← HT.out, ← HC.out]
            exact q5
          have N5 := hide (hq.out.2.trans n5)
          clear q5 n5 XB hq
          go_wp2
          go_end0
          first
            | exact ⟨rfl, ρ5, tv5, cv5, Q5.out, N5.out⟩
            | exact ⟨rfl, ρ5, ⟨tv5, cv5, Q5.out⟩, N5.out⟩

/-- what See leaves in a variable of its own -/
theorem see_var {w6 : World} (r : Int) (hv dv : Value) : (w6.alloc (.cells #[.int .i64 r, hv, dv] 35)).cell? ⟨w6.heap.size, 1, none⟩ = some hv ∧ (w6.alloc (.cells #[.int .i64 r, hv, dv] 35)).cell? ⟨w6.heap.size, 2, none⟩ = some dv := by
  have cz : ∀ j v, (#[.int .i64 r, hv, dv] : Array Value)[j]? = some v → (w6.alloc (.cells #[.int .i64 r, hv, dv] 35)).cell? ⟨w6.heap.size, j, none⟩ = some v := fun j v hv => by
    rw [cell_of_row _ w6.heap.size j _ 35 (0, 0) (heap_alloc_new w6 _)]; exact hv
  exact ⟨cz 1 _ rfl, cz 2 _ rfl⟩

section
variable {ρ : Nat → Nat} {w : World} {k : Bl} {n : Nat} {Y : Rg} {tv cv : Value}

theorem RS.later {W' : World} (h : RS ρ w k n Y tv cv) (hb : Below w.heap.size w W') : RS ρ W' k n Y tv cv ∧ Nx ρ w ρ W' := ⟨RQ.later h hb, Nx.of (RQ.lt h) (K := fun _ => False) (But.of_below hb) (fun _ e => e.elim)⟩

set_option maxRecDepth 100000 in
set_option maxHeartbeats 1000000 in
theorem rSend_none (h : RS ρ w k n Y tv cv) (id : Int) (hu : usd n Y.B id = false) :
    Calls Try.prog 35 #[.pointer (some ⟨k.r, 0, none⟩), .int .i64 id] w fun e w' => e = .returned (.int .i64 7) ∧ Below w.heap.size w w' := by
  have XS := hide (rSee_no (RQ.rf h).pool id hu)
  have c1 := (RQ.rf h).c1
  clear h
  go_enter Try.func35, Try.ntmps35
  go_wp2_with fail
  refine XS.out.mono ?_
  rintro _ w6 ⟨rfl, b6⟩
  have B6 : Hid (Below w.heap.size w (w6.alloc (.cells #[.int .i64 0, .slice none 0 0, .slice none 0 0] 35))) := b6.alloc b6.size _
  clear b6 XS c1
  go_wp2
  go_ret
  exact ⟨rfl, B6.out⟩

set_option maxRecDepth 100000 in
set_option maxHeartbeats 1000000 in
theorem rSend_off (h : RS ρ w k n Y tv cv) (i : Nat) (hi : i < n) (hr : 0 < (Y.B i).refs) (hd : Y.D.r 1 = 0) :
    Calls Try.prog 35 #[.pointer (some ⟨k.r, 0, none⟩), .int .i64 (i : Int)] w fun e w' => e = .returned (.int .i64 20) ∧ Below w.heap.size w w' := by
  have XS := hide (rSee_yes (RQ.rf h).pool i hi hr)
  have c1 := (RQ.rf h).c1
  have H := hide h
  clear h
  go_enter Try.func35, Try.ntmps35
  go_wp2_with fail
  refine XS.out.mono ?_
  rintro _ w6 ⟨hv, dv, rfl, i1, i2, b6⟩
  generalize ((Y.B i).refs : Int) = rf at *
  obtain ⟨ha, hc, rfl, _⟩ := i1.shape
  obtain ⟨da, dc, rfl, _⟩ := i2.shape
  generalize (Y.B i).head.length = hl at *
  generalize (Y.B i).data.length = dl at *
  have b7 := b6.alloc b6.size (.cells #[.int .i64 rf, .slice ha hl hc, .slice da dl dc] 35)
  have B7 := hide b7
  have q7 := (RS.later H.out b7).1
  have c0 := (RQ.rf q7).c0
  have d1 := (RQ.rf q7).dev.creg 1 (by omega)
  rw [hd] at d1
  clear b6 b7 q7 i1 i2 H XS
  go_wp2
  go_ret
  exact ⟨rfl, B7.out⟩

set_option maxRecDepth 100000 in
set_option maxHeartbeats 1000000 in
theorem rSend_full (h : RS ρ w k n Y tv cv) (i : Nat) (hi : i < n) (hr : 0 < (Y.B i).refs) (hd : Y.D.r 1 = 1) (hs : Y.s.ids.length = 15) :
    Calls Try.prog 35 #[.pointer (some ⟨k.r, 0, none⟩), .int .i64 (i : Int)] w fun e w' => e = .returned (.int .i64 21) ∧ Below w.heap.size w w' := by
  have XS := hide (rSee_yes (RQ.rf h).pool i hi hr)
  have c1 := (RQ.rf h).c1
  have H := hide h
  obtain ⟨ta, tc, et⟩ := (RQ.t h).shape
  rw [hs] at et
  subst et
  clear h
  go_enter Try.func35, Try.ntmps35
  go_wp2_with fail
  refine XS.out.mono ?_
  rintro _ w6 ⟨hv, dv, rfl, i1, i2, b6⟩
  generalize ((Y.B i).refs : Int) = rf at *
  obtain ⟨ha, hc, rfl, _⟩ := i1.shape
  obtain ⟨da, dc, rfl, _⟩ := i2.shape
  generalize (Y.B i).head.length = hl at *
  generalize (Y.B i).data.length = dl at *
  have b7 := b6.alloc b6.size (.cells #[.int .i64 rf, .slice ha hl hc, .slice da dl dc] 35)
  have B7 := hide b7
  have q7 := (RS.later H.out b7).1
  have c0 := (RQ.rf q7).c0
  have c2 := (RQ.rf q7).c2
  have d1 := (RQ.rf q7).dev.creg 1 (by omega)
  rw [hd] at d1
  clear b6 b7 q7 i1 i2 H XS
  go_wp2
  go_ret
  exact ⟨rfl, B7.out⟩

set_option maxRecDepth 100000 in
set_option maxHeartbeats 1000000 in
theorem rSend_try (h : RS ρ w k n Y tv cv) (i : Nat) (hi : i < n) (hr : 0 < (Y.B i).refs) (hd : Y.D.r 1 = 1) (hs : Y.s.ids.length < 15) (hm : (Y.B i).refs < 4611686018427387904) (hhd : ∀ i, (Y.B i).head.length ≤ 104) (E : Int) (hE : Y.D.stE Y.s.nx (fr Y.B (i : Int)) = E) :
    Calls Try.prog 35 #[.pointer (some ⟨k.r, 0, none⟩), .int .i64 (i : Int)] w fun e w' => e = .returned (.int .i64 E) ∧ ∃ ρ' tv' cv', RS ρ' w' k n (if E = 0 then ⟨(Y.D.stD Y.s.nx (fr Y.B (i : Int))).wrD 5 ((Y.s.put (i : Int)).nx : Int), hoB n Y.B (i : Int), Y.s.put (i : Int), Y.c⟩ else Y) tv' cv' ∧ Nx ρ w ρ' w' := by
  have XS := hide (rSee_yes (RQ.rf h).pool i hi hr)
  have c1 := (RQ.rf h).c1
  have H := hide h
  obtain ⟨T, hT⟩ : ∃ T, T = Y.s.ids := ⟨_, rfl⟩
  have HT := hide hT
  obtain ⟨ta, tc, et⟩ := (RQ.t h).shape
  rw [← hT] at et hs
  subst et
  have zt : (T.length : Int) < 15 := by omega
  have zt2 : ((T.length : Int) == 15) = false := by rw [beq_eq_false_iff_ne]; omega
  have hle := ((RQ.rf h).pool.dle i hi)
  have hhe := hhd i
  obtain ⟨nx, hnx⟩ : ∃ nx, nx = Y.s.nx := ⟨_, rfl⟩
  have HNX := hide hnx
  have nx16 : nx < 16 := by rw [hnx]; exact Nat.mod_lt _ (by omega)
  have zn : (nx : Int) < 16 := by omega
  rw [← hnx] at hE
  obtain ⟨hh, ehh⟩ : ∃ y, y = (Y.B i).head := ⟨_, rfl⟩
  obtain ⟨dt, edt⟩ : ∃ y, y = (Y.B i).data := ⟨_, rfl⟩
  obtain ⟨F, eF⟩ : ∃ F, F = hh ++ dt := ⟨_, rfl⟩
  have fF : fr Y.B (i : Int) = F := by rw [eF, ehh, edt]; unfold fr; simp
  rw [fF] at hE
  have FF := hide fF
  have EF := hide eF.symm
  rw [← ehh] at hhe
  rw [← edt] at hle
  have L0 : Hid (([] : List Int).length + hh.length ≤ 140737488355328) := by unfold Hid; simp; omega
  have L1 : Hid (hh.length + dt.length ≤ 140737488355328) := by unfold Hid; omega
  have LF : Hid (F.length ≤ 140737488355328) := by unfold Hid; rw [eF, List.length_append]; omega
  have HE := hide hE
  have HM := hide hm
  have HI : Hid (i < n) := hi
  clear h hT hnx eF fF hE hm hi
  go_enter Try.func35, Try.ntmps35
  go_wp2_with fail
  refine XS.out.mono ?_
  rintro _ w6 ⟨hv, dv, rfl, i1, i2, b6⟩
  generalize ((Y.B i).refs : Int) = rf at *
  rw [← ehh] at i1
  rw [← edt] at i2
  clear ehh edt
  obtain ⟨ha, hc, rfl, _⟩ := i1.shape
  obtain ⟨da, dc, rfl, _⟩ := i2.shape
  have b7 := b6.alloc b6.size (.cells #[.int .i64 rf, .slice ha hh.length hc, .slice da dt.length dc] 35)
  obtain ⟨q7, n7⟩ := RS.later H.out b7
  obtain ⟨y1, y2⟩ := see_var (w6 := w6) rf (.slice ha hh.length hc) (.slice da dt.length dc)
  have ba : But (fun _ => False) w6 (w6.alloc (.cells #[.int .i64 rf, .slice ha hh.length hc, .slice da dt.length dc] 35)) := (But.refl _ _).alloc _
  have I1 := hide (i1.but ba (fun _ e => e.elim))
  have I2 := hide (i2.but ba (fun _ e => e.elim))
  have SB : Hid (w6.heap.size < (w6.alloc (.cells #[.int .i64 rf, .slice ha hh.length hc, .slice da dt.length dc] 35)).heap.size) := by unfold Hid; simp
  have c0 := (RQ.rf q7).c0
  have c2 := (RQ.rf q7).c2
  have d1 := (RQ.rf q7).dev.creg 1 (by omega)
  rw [hd] at d1
  have Q7 := hide q7
  have N7 := hide n7
  clear b6 b7 q7 n7 i1 i2 H XS ba hd
  go_upto_region 4 with fail
  obtain ⟨sb, hsb⟩ : ∃ sb, sb = w6.heap.size := ⟨_, rfl⟩
  rw [← hsb] at y1 y2 SB ⊢
  generalize w6.alloc (.cells #[.int .i64 rf, .slice ha hh.length hc, .slice da dt.length dc] 35) = w7 at *
  clear hsb c1
  go_upto_region 8 with fail
  clear c0 c2 d1
  have Y2 := hide y2
  go_upto_region 9 with (at_builtin; refine wpList_grow rfl _ _ rfl rfl w7.heap.size (fun g => ρ g ≠ 0) _ _ [] hh rfl rfl (Gro.nil _ _) I1.out (Nat.le_refl _) L0.out hh (List.nil_append _) ?_; intro a8 c8 w8 hc8 hG8 hb8)
  have G8 := hide hG8
  have B8 := hide hb8
  have y28 := (hb8.cell (p := ⟨sb, 2, none⟩) SB.out).trans Y2.out
  have I28 := hide (I2.out.but (K := fun _ => False) (But.of_below hb8) (fun _ e => e.elim))
  clear hG8 hb8 y1 y2 hc8
  go_upto_region 10 with (at_builtin; refine wpList_grow rfl _ _ rfl rfl w7.heap.size (fun g => ρ g ≠ 0) _ _ hh dt rfl rfl G8.out I28.out B8.out.size L1.out F EF.out ?_; intro a9 c9 w9 hc9 hG9 hb9)
  have b9 := B8.out.trans hb9
  obtain ⟨q9, n9⟩ := RS.later Q7.out b9
  have IF9 : Hid (IsF (fun g => ρ g ≠ 0) w9 (.slice a9 F.length c9) F) := hG9.isF (fun g hg e => by have := RQ.lt Q7.out g e; omega)
  have Q9 := hide q9
  have N9 := hide (N7.out.trans n9)
  have XT : Hid (∀ W, Below w9.heap.size w9 W → Calls Try.prog 72 #[.pointer (some ⟨k.d, 0, none⟩), .int .i64 (nx : Int), .slice a9 F.length c9] W fun e w' => e = .returned (.int .i64 E) ∧ Hid (RQ ρ w' k n (Y.D.stD nx F) Y.B (.slice ta T.length tc) cv nx Y.c.nx T Y.c.ids ∧ Nx ρ w ρ w')) := fun W hb => by
    obtain ⟨q, nn⟩ := RS.later Q9.out hb
    refine (rSetTx_any (A' := fun g => ρ g ≠ 0) (RQ.rf q).dev (RQ.rf q).ok (RQ.lt q) (nx : Int) _ F (IF9.out.later hb) LF.out).mono ?_
    rintro _ w' ⟨rfl, d', b'⟩
    obtain ⟨z1, z2⟩ := RQ.onDev q b' d' ((RQ.rf q).ok.st _ _)
    rw [HE.out]
    rw [← HNX.out, ← HT.out] at z1
    exact ⟨rfl, z1, N9.out.trans (nn.trans z2)⟩
  have c0 := (RQ.rf q9).c0
  have c4 := (RQ.rf q9).c4
  rw [← HNX.out] at c4
  clear b9 q9 n9 hG9 hb9 hc9 G8 B8 y28 I28 I1 I2 SB Y2 Q7 N7
  go_cut [8] (fun v8 wc => v8 = .int .i64 E ∧ Hid (RQ ρ wc k n (Y.D.stD nx F) Y.B (.slice ta T.length tc) cv nx Y.c.nx T Y.c.ids ∧ Nx ρ w ρ wc))
  case first =>
    have q7 : Below w9.heap.size w9 w9.drew := undrew0 (Below.refl _ _)
    go_region_with (go_at_call 72; refine (XT.out w9.drew q7).mono ?_; rintro _ wx ⟨rfl, F9⟩)
    all_goals go_wp2
    all_goals go_meet
    all_goals exact ⟨rfl, F9.out⟩
  case rest =>
    obtain ⟨rfl, hq⟩ := hcut
    clear XT c0 c4 Q9 N9 IF9
    by_cases e0 : E = 0
    · subst e0
      obtain ⟨q1, n1⟩ := hq.out
      have c4 := q1.rf.c4
      have f4 := q1.rf.fz 4
      have EM : ((nx : Int) + 1) % 16 = (((nx + 1) % 16 : Nat) : Int) := by omega
      obtain ⟨q2, n2⟩ := q1.store (tv' := .slice ta T.length tc) (cv' := cv) (nx' := (nx + 1) % 16) (fl' := Y.c.nx) 4 (.int .i64 (((nx : Int) + 1) % 16)) (by omega) (if_neg (by omega)) (if_neg (by omega)) (by rw [if_pos rfl, EM]) (if_neg (by omega)) q1.t q1.c
      obtain ⟨px, hpx⟩ : ∃ px, px = (nx + 1) % 16 := ⟨_, rfl⟩
      rw [← hpx] at EM q2
      have Q2 := hide q2
      have N2 := hide (n1.trans n2)
      have HPX := hide hpx
      clear q1 n1 q2 n2 hq hpx EM
      go_upto_region 14 with fail
      clear c4 f4
      generalize wc.setCell ⟨k.r, 4, none⟩ (.int .i64 (((nx : Int) + 1) % 16)) = w2 at *
      have c0 := Q2.out.rf.c0
      have c4 := Q2.out.rf.c4
      have XW : Hid (∀ W, Below w2.heap.size w2 W → Calls Try.prog 73 #[.pointer (some ⟨k.d, 0, none⟩), .int .i64 5, .int .i64 (px : Int)] W fun e w' => (∃ v, e = .returned (.int .i64 v)) ∧ Hid (RQ ρ w' k n ((Y.D.stD nx F).wrD 5 (px : Int)) Y.B (.slice ta T.length tc) cv px Y.c.nx T Y.c.ids ∧ Nx ρ w ρ w')) := fun W hb => by
        have q := Q2.out.later hb
        refine (rWrite_any q.rf.dev q.rf.ok 5 _).mono ?_
        rintro _ w' ⟨rfl, d', b'⟩
        obtain ⟨z1, z2⟩ := q.onDev b' d' (q.rf.ok.wr _ _)
        exact ⟨⟨_, rfl⟩, z1, N2.out.trans ((Nx.of Q2.out.lt (K := fun _ => False) (But.of_below hb) (fun _ e => e.elim)).trans z2)⟩
      go_cut [] (fun wd => Hid (RQ ρ wd k n ((Y.D.stD nx F).wrD 5 (px : Int)) Y.B (.slice ta T.length tc) cv px Y.c.nx T Y.c.ids ∧ Nx ρ w ρ wd))
      case first =>
        have q7 : Below w2.heap.size w2 w2.drew := undrew0 (Below.refl _ _)
        go_region_with (go_at_call 73; refine (XW.out w2.drew q7).mono ?_; rintro _ wx ⟨⟨vx, rfl⟩, F9⟩)
        all_goals go_wp2
        all_goals go_meet
        all_goals exact F9.out
      case rest =>
        obtain ⟨q3, n3⟩ := hcut.out
        have c1 := q3.rf.c1
        have XH := hide (rHold_any q3.rf.pool (i : Int) (by simp only [Int.toNat_natCast]; exact HM.out))
        have Q3 := hide q3
        have N3 := hide n3
        clear q3 n3 hcut XW c0 c4 Q2 N2
        go_wp2_with fail
        refine XH.out.mono ?_
        rintro _ w4 ⟨rfl, p4, b4⟩
        generalize hoE n Y.B (i : Int) = eo at *
        obtain ⟨q4, n4⟩ := Q3.out.onPool b4 p4
        have N4 := hide (N3.out.trans n4)
        obtain ⟨a', c', w5, hrun, c25, f25, ρ5, q6, b6⟩ := q4.pushT (i : Int) (by omega)
        have c2 := q4.rf.c2
        have HRN := hide hrun
        have N6 := hide (N4.out.trans b6)
        have Q6 : Hid (RS ρ5 (w5.setCell ⟨k.r, 2, none⟩ (.slice a' (T.length + 1) c')) k n ⟨(Y.D.stD Y.s.nx (fr Y.B (i : Int))).wrD 5 ((Y.s.put (i : Int)).nx : Int), hoB n Y.B (i : Int), Y.s.put (i : Int), Y.c⟩ (.slice a' (T.length + 1) c') cv) := by
          have e1 : px = (Y.s.put (i : Int)).nx := by rw [HPX.out, HNX.out]; exact put_nx _ _
          have e2 : T ++ [(i : Int)] = (Y.s.put (i : Int)).ids := by rw [HT.out]; rfl
          have e3 : (nx : Int) = (Y.s.nx : Int) := by rw [HNX.out]
          rw [e1, e2, e3, ← FF.out] at q6
          exact q6
        clear hrun q4 n4 q6 b6 p4 b4 c1 XH Q3 N3 N4
        go_wp2_with (at_builtin; refine wpList_app rfl _ _ 31 31 rfl _ _ rfl rfl HRN.out ?_)
        go_wp2
        go_ret
        refine ⟨rfl, ?_⟩
        first
          | exact ⟨ρ5, _, _, Q6.out, N6.out⟩
          | exact ⟨ρ5, ⟨_, _, Q6.out⟩, N6.out⟩
    · have e1 : (E == 0) = false := by simp [e0]
      obtain ⟨q1, n1⟩ := hq.out
      have eD : Y.D.stD nx F = Y.D := by unfold Dev.stD; rw [if_neg (by rw [HE.out]; exact e0)]
      rw [eD, HNX.out, HT.out] at q1
      have Q1 : Hid (RS ρ wc k n Y (.slice ta Y.s.ids.length tc) cv) := q1
      have N1 := hide n1
      clear q1 n1 hq eD
      go_wp2
      go_ret
      refine ⟨rfl, ?_⟩
      first
        | exact ⟨ρ, _, _, Q1.out, N1.out⟩
        | exact ⟨ρ, ⟨_, _, Q1.out⟩, N1.out⟩
        | (rw [if_neg e0]; exact ⟨ρ, _, _, Q1.out, N1.out⟩)
        | (rw [if_neg e0]; exact ⟨ρ, ⟨_, _, Q1.out⟩, N1.out⟩)

theorem rSend_any (h : RS ρ w k n Y tv cv) (ht : Y.s.ids.length ≤ 15) (hhd : ∀ i, (Y.B i).head.length ≤ 104) (id : Int) {m : Nat} (hm : Bdd m Y.B) (hm2 : m < 4611686018427387904) :
    Calls Try.prog 35 #[.pointer (some ⟨k.r, 0, none⟩), .int .i64 id] w fun e w' => e = .returned (.int .i64 (sdE n Y.D Y.B Y.s id)) ∧ ∃ ρ' tv' cv', RS ρ' w' k n ⟨sdD n Y.D Y.B Y.s id, sdB n Y.D Y.B Y.s id, sdS n Y.D Y.B Y.s id, Y.c⟩ tv' cv' ∧ Nx ρ w ρ' w' := by
  have same : ∀ E, sdE n Y.D Y.B Y.s id = E → E ≠ 0 → (⟨sdD n Y.D Y.B Y.s id, sdB n Y.D Y.B Y.s id, sdS n Y.D Y.B Y.s id, Y.c⟩ : Rg) = Y := fun E e ne => by
    unfold sdD sdB sdS
    rw [if_neg (by rw [e]; exact ne), if_neg (by rw [e]; exact ne), if_neg (by rw [e]; exact ne)]
  have low : ∀ E, sdE n Y.D Y.B Y.s id = E → E ≠ 0 → ∀ w', Below w.heap.size w w' → ∃ ρ' tv' cv', RS ρ' w' k n ⟨sdD n Y.D Y.B Y.s id, sdB n Y.D Y.B Y.s id, sdS n Y.D Y.B Y.s id, Y.c⟩ tv' cv' ∧ Nx ρ w ρ' w' := fun E e ne w' hb => by
    rw [same E e ne]
    obtain ⟨q, nn⟩ := RS.later h hb
    exact ⟨ρ, tv, cv, q, nn⟩
  cases hu : usd n Y.B id with
  | false =>
    have e : sdE n Y.D Y.B Y.s id = 7 := by unfold sdE; rw [hu]; rfl
    refine (rSend_none h id hu).mono ?_
    rintro _ w' ⟨rfl, hb⟩
    exact ⟨by rw [e], low 7 e (by omega) w' hb⟩
  | true =>
    obtain ⟨i, rfl, hi, hr⟩ := usd_yes hu
    by_cases hd : Y.D.r 1 = 0
    · have e : sdE n Y.D Y.B Y.s (i : Int) = 20 := by unfold sdE; rw [if_pos hu, if_pos hd]
      refine (rSend_off h i hi hr hd).mono ?_
      rintro _ w' ⟨rfl, hb⟩
      exact ⟨by rw [e], low 20 e (by omega) w' hb⟩
    · have hd1 : Y.D.r 1 = 1 := by have := (RQ.rf h).ok.link; omega
      by_cases hs : Y.s.ids.length = 15
      · have e : sdE n Y.D Y.B Y.s (i : Int) = 21 := by unfold sdE; rw [if_pos hu, if_neg hd, if_pos hs]
        refine (rSend_full h i hi hr hd1 hs).mono ?_
        rintro _ w' ⟨rfl, hb⟩
        exact ⟨by rw [e], low 21 e (by omega) w' hb⟩
      · obtain ⟨E, hE⟩ : ∃ E, Y.D.stE Y.s.nx (fr Y.B (i : Int)) = E := ⟨_, rfl⟩
        have e : sdE n Y.D Y.B Y.s (i : Int) = E := by unfold sdE; rw [if_pos hu, if_neg hd, if_neg hs, hE]
        refine (rSend_try h i hi hr hd1 (by omega) (by have := hm i; omega) hhd E hE).mono ?_
        rintro _ w' ⟨rfl, ρ', tv', cv', q, nn⟩
        refine ⟨by rw [e], ρ', tv', cv', ?_, nn⟩
        by_cases e0 : E = 0
        · rw [if_pos e0] at q
          unfold sdD sdB sdS
          rw [e, if_pos e0, if_pos e0, if_pos e0]
          exact q
        · rw [if_neg e0] at q
          rw [same E e e0]
          exact q
end

set_option maxRecDepth 100000 in
theorem many_any (w : World) (a b : Nat) (ha : a < 16) (hb : b < 16) : Calls Try.prog 95 #[.int .i64 (a : Int), .int .i64 (b : Int)] w fun e w' => e = .returned (.int .i64 (((b + 16 - a) % 16 : Nat) : Int)) ∧ w' = w := by
  have h1 : (a : Int) < 16 := by omega
  have h2 : (b : Int) < 16 := by omega
  go_enter Try.func95, Try.ntmps95
  go_wp2
  go_ret
  exact ⟨ret_int (by omega), rfl⟩

section
variable {ρ : Nat → Nat} {W W' : World} {k : Bl} {n : Nat} {D D' : Dev} {B B' : Nat → Buf} {tv cv : Value} {nx fl : Nat} {T C : List Int}
theorem RQ.popT {x : Int} (h : RQ ρ W k n D B tv cv nx fl (x :: T) C) : ∃ g off cap, tv = .slice (some ⟨g, off, none⟩) (T.length + 1) cap ∧ T.length + 1 ≤ cap ∧ cap ≤ maxLen ∧ W.cell? ⟨g, off, none⟩ = some (.int .i64 x) ∧
    ∀ W' B' D', RQ ρ W' k n D' B' tv cv nx fl (x :: T) C → ∀ a', (1 < cap → a' = ⟨g, off + 1, none⟩) → RQ ρ (W'.setCell ⟨k.r, 2, none⟩ (.slice (some a') T.length (cap - 1))) k n D' B' (.slice (some a') T.length (cap - 1)) cv nx fl T C ∧ Nx ρ W' ρ (W'.setCell ⟨k.r, 2, none⟩ (.slice (some a') T.length (cap - 1))) := by
  obtain ⟨g, off, cap, rfl, c2, c3, c4, c5, _⟩ := h.t.rest
  refine ⟨g, off, cap, rfl, c2, c3, c4, fun W' B' D' h' a' ha => ?_⟩
  obtain ⟨g', off', cap', e, _, _, _, _, hr⟩ := h'.t.rest
  simp only [Value.slice.injEq, Option.some.injEq, Addr.mk.injEq, and_true, true_and] at e
  obtain ⟨⟨rfl, rfl⟩, rfl⟩ := e
  exact h'.store (T' := T) (C' := C) 2 _ (by omega) (if_pos rfl) (if_neg (by omega)) (if_neg (by omega)) (if_neg (by omega)) (hr a' ha) h'.c
theorem RQ.popC {x : Int} (h : RQ ρ W k n D B tv cv nx fl T (x :: C)) : ∃ g off cap, cv = .slice (some ⟨g, off, none⟩) (C.length + 1) cap ∧ C.length + 1 ≤ cap ∧ cap ≤ maxLen ∧ (∀ W' B' D', RQ ρ W' k n D' B' tv cv nx fl T (x :: C) → W'.cell? ⟨g, off, none⟩ = some (.int .i64 x)) ∧
    ∀ W' B' D', RQ ρ W' k n D' B' tv cv nx fl T (x :: C) → ∀ a', (1 < cap → a' = ⟨g, off + 1, none⟩) → RQ ρ (W'.setCell ⟨k.r, 3, none⟩ (.slice (some a') C.length (cap - 1))) k n D' B' tv (.slice (some a') C.length (cap - 1)) nx fl T C ∧ Nx ρ W' ρ (W'.setCell ⟨k.r, 3, none⟩ (.slice (some a') C.length (cap - 1))) := by
  obtain ⟨g, off, cap, rfl, c2, c3, c4, c5, _⟩ := h.c.rest
  refine ⟨g, off, cap, rfl, c2, c3, fun W' B' D' h' => ?_, fun W' B' D' h' a' ha => ?_⟩
  · obtain ⟨g', off', cap', e, _, _, c4', _, hr⟩ := h'.c.rest
    simp only [Value.slice.injEq, Option.some.injEq, Addr.mk.injEq, and_true, true_and] at e
    obtain ⟨⟨rfl, rfl⟩, rfl⟩ := e
    exact c4'
  · obtain ⟨g', off', cap', e, _, _, _, _, hr⟩ := h'.c.rest
    simp only [Value.slice.injEq, Option.some.injEq, Addr.mk.injEq, and_true, true_and] at e
    obtain ⟨⟨rfl, rfl⟩, rfl⟩ := e
    exact h'.store (T' := T) (C' := C) 3 _ (by omega) (if_neg (by omega)) (if_pos rfl) (if_neg (by omega)) (if_neg (by omega)) h'.t (hr a' ha)
theorem RQ.nx0 (h : RQ ρ W k n D B tv cv nx fl T C) (hb : Below W.heap.size W W') : Nx ρ W ρ W' := Nx.of h.lt (K := fun _ => False) (But.of_below hb) (fun _ e => e.elim)
end

section
variable {ρ : Nat → Nat} {w : World} {k : Bl} {n : Nat} {Y : Rg} {tv cv : Value}

set_option maxRecDepth 100000 in
set_option maxHeartbeats 1000000 in
theorem rPoll_down (h : RS ρ w k n Y tv cv) (ht : Y.s.ids.length ≤ 15) (hc : Y.c.ids.length ≤ 15) {m : Nat} (hm : Bdd m Y.B) (hm2 : m < 4611686018427387904) (hd : Y.down) :
    Calls Try.prog 75 #[.pointer (some ⟨k.r, 0, none⟩)] w fun e w' => e = .returned (.slice none 0 0) ∧ ∃ ρ' tv' cv', RS ρ' w' k n (Rg.reset n ⟨Y.D.rdD 6, Y.B, Y.s, Y.c⟩) tv' cv' ∧ Nx ρ w ρ' w' := by
  have X6 := hide (rRead_any (RQ.rf h).dev 6)
  rw [show Y.D.rdV 6 = Y.D.r 6 from rdV_of Y.D 6 (by omega)] at X6
  have c0 := (RQ.rf h).c0
  have H := hide h
  have ev := (RQ.rf h).ok.ev
  obtain ⟨R, hR⟩ : ∃ R, R = Rg.reset n ⟨Y.D.rdD 6, Y.B, Y.s, Y.c⟩ := ⟨_, rfl⟩
  rw [← hR]
  have XR : Hid (∀ W, RS ρ W k n ⟨Y.D.rdD 6, Y.B, Y.s, Y.c⟩ tv cv → Calls Try.prog 38 #[.pointer (some ⟨k.r, 0, none⟩)] W fun e w' => e = .returned (.tuple #[]) ∧ ∃ ρ' tv' cv', RS ρ' w' k n R tv' cv' ∧ Nx ρ W ρ' w') := fun W q => by
    rw [hR]; exact rReset_any q ht hc hm hm2
  obtain ⟨d6, d1⟩ := hd
  have hr1 : (Y.D.rdD 6).r 1 = 0 := (rd6_r Y.D 1 (by omega)).trans d1
  clear h hR hm
  have fin : ∀ e6 : Int, e6 = Y.D.r 6 → e6 = 4 ∨ e6 = 5 ∨ e6 = 6 ∨ e6 = 7 := fun e6 he => by rw [he]; omega
  obtain ⟨e6, he6⟩ : ∃ e6, e6 = Y.D.r 6 := ⟨_, rfl⟩
  have f6 := fin e6 he6
  rw [← he6] at X6
  clear fin he6 d6 ev d1
  go_enter Try.func75, Try.ntmps75
  go_wp2_with fail
  refine X6.out.mono ?_
  rintro _ w1 ⟨rfl, p1, b1⟩
  obtain ⟨q1, n1⟩ := RQ.onDev H.out b1 p1 ((RQ.rf H.out).ok.rd 6)
  have Q1 : Hid (RS ρ w1 k n ⟨Y.D.rdD 6, Y.B, Y.s, Y.c⟩ tv cv) := q1
  have N1 := hide n1
  have c01 := q1.rf.c0
  have d11 := q1.rf.dev.creg 1 (by omega)
  rw [hr1] at d11
  have X := hide (XR.out w1 Q1.out)
  clear q1 n1 p1 b1 X6 c0 H XR
  go_upto_region 2 with fail
  go_cut [32] (fun v32 wc => v32 = .bool true ∧ w1 = wc)
  case first =>
    rcases f6 with rfl | rfl | rfl | rfl
    all_goals go_wp2
    all_goals go_meet
    all_goals exact ⟨rfl, rfl⟩
  case rest =>
    obtain ⟨rfl, rfl⟩ := hcut
    go_wp2_with fail
    refine X.out.mono ?_
    rintro _ w2 ⟨rfl, ρ2, tv2, cv2, q2, n2⟩
    have Q2 := hide q2
    have N2 := hide (N1.out.trans n2)
    clear q2 n2 X Q1 N1 c01 d11
    go_wp2
    go_ret
    refine ⟨rfl, ?_⟩
    first
      | exact ⟨ρ2, tv2, cv2, Q2.out, N2.out⟩
      | exact ⟨ρ2, ⟨tv2, cv2, Q2.out⟩, N2.out⟩
end
end Go.Proofs.Ytjkfjijnjkpbbaa
