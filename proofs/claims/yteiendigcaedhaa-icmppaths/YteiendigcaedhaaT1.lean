
/-
  Package icmp: the small functions; which messages may be.
-/
import Derived.Test.YteiendigcaedhaaI12
namespace Go.Proofs.Yteiendigcaedhaa
open Go.RowKit Go.Shelf
attribute [local go_sem] Oper.semAt_some

theorem later_drew (w : World) : Below w.heap.size w w.drew := ⟨rfl, rfl, rfl, Nat.le_refl _, fun _ _ => rfl⟩
section
variable {P : Program} {C : World → Prop} {o : Oper} {a : Act} {K : Act → Prop}
theorem region_quiet_C {id : Nat} {Q : Exit → Act → World → Prop} {w : World} {l : List Oper} (C : World → Prop) (hm : P.follows .mixedOrders = true) (hB : Region.lexB .any l.toArray = true) (hC : C w.drew)
    (h : wpQuiet P l.toArray C (fun a' => ∀ w', C w' → Q .normal a' w') l a) : (Code.region id l.toArray true).wp P Q a w :=
  wp_region_quiet (C := C) hm hB hC (by simpa using h)
theorem quiet_pure (v : Value) (hx : ∀ W, C W → (execOp a.eval o).run P W = .ok (.value v) W) (h : K (a.put o.dst v)) : o.quiet P a C K :=
  ⟨v, fun W hW => by unfold Oper.quietAt; rw [hx W hW]; exact ⟨rfl, rfl⟩, h⟩
theorem quiet_call (F : FuncId) (vals : Array Value) (v : Value) (hx : ∀ W, (execOp a.eval o).run P W = .ok (.enter F vals) W) (hC : ∀ W, C W → Calls P F vals W (fun e w' => e = .returned v ∧ C w')) (h : K (a.put o.dst v)) : o.quiet P a C K :=
  ⟨v, fun W hW => by unfold Oper.quietAt; rw [hx W]; exact ⟨rfl, hC W hW⟩, h⟩
end


/-- from 0 up to m -/
def upB (m n : Int) : Bool := decide (0 ≤ n ∧ n ≤ m)
/-- an echo, or its answer -/
def ech (t : Int) : Bool := decide (t = 0 ∨ t = 8)
theorem icUp_any (m n : Int) (w : World) : Calls Try.prog 48 #[.int .i64 m, .int .i64 n] w fun e w' => e = .returned (.bool (upB m n)) ∧ w' = w := by
  by_cases h0 : 0 ≤ n
  · have z : decide (n ≤ m) = upB m n := by unfold upB; simp [h0]
    go_enter Try.func48, Try.ntmps48
    go_wp2
    go_ret
    exact ⟨by rw [← z]; rfl, rfl⟩
  · have z : upB m n = false := by unfold upB; simp; omega
    rw [z]
    clear z
    go_enter Try.func48, Try.ntmps48
    go_wp2
    go_ret
    exact ⟨rfl, rfl⟩
theorem icEcho_any (t : Int) (w : World) : Calls Try.prog 47 #[.int .i64 t] w fun e w' => e = .returned (.bool (ech t)) ∧ w' = w := by
  by_cases h0 : t = 0
  · subst h0
    have z : ech 0 = true := by decide
    rw [z]
    clear z
    go_enter Try.func47, Try.ntmps47
    go_wp2
    go_ret
    exact ⟨rfl, rfl⟩
  · have z0 : (t == 0) = false := by simpa using h0
    have z : (t == 8) = ech t := by unfold ech; rw [Bool.eq_iff_iff]; simp [h0]
    go_enter Try.func47, Try.ntmps47
    go_wp2
    go_ret
    exact ⟨by rw [← z]; rfl, rfl⟩
/-- may a message's numbers be? -/
def mbI (t c i s u : Int) : Bool :=
  if ech t = true then (upB 0 c && (upB 65535 i && (upB 65535 s && upB 0 u)))
  else if t = 3 then (if c = 4 then (upB 15 c && (upB 0 i && (upB 0 s && upB 65535 u))) else (upB 15 c && (upB 0 i && (upB 0 s && upB 0 u))))
  else if t = 11 then (upB 1 c && (upB 0 i && (upB 0 s && upB 0 u)))
  else false
/-- a message, its data as a value -/
def imL (t c i s u : Int) (dv : Value) : List Value := [.int .i64 t, .int .i64 c, .int .i64 i, .int .i64 s, .int .i64 u, dv]
/-- a new variable that holds a message -/
theorem boxI (w : World) (t c i s u : Int) (dv : Value) : ∃ q w1, w.heap.size = q ∧ w.alloc (.cells #[.int .i64 t, .int .i64 c, .int .i64 i, .int .i64 s, .int .i64 u, dv] 24) = w1 ∧ Below w.heap.size w w1 ∧ q < w1.heap.size ∧ CellsAt w1 q 0 (imL t c i s u dv) ∧ (∀ y, w1.frozen? ⟨q, y, none⟩ = false) := by
  refine ⟨_, _, rfl, rfl, (Below.refl _ w).alloc (Nat.le_refl _) _, by simp, CellsAt.new w (imL t c i s u dv) 24, fun y => frozen_new w _ _ _⟩
theorem imL_cells {W : World} {q : Nat} {t c i s u : Int} {dv : Value} (h : CellsAt W q 0 (imL t c i s u dv)) : W.cell? ⟨q, 0, none⟩ = some (.int .i64 t) ∧ W.cell? ⟨q, 1, none⟩ = some (.int .i64 c) ∧ W.cell? ⟨q, 2, none⟩ = some (.int .i64 i) ∧ W.cell? ⟨q, 3, none⟩ = some (.int .i64 s) ∧ W.cell? ⟨q, 4, none⟩ = some (.int .i64 u) ∧ W.cell? ⟨q, 5, none⟩ = some dv :=
  ⟨h 0 _ rfl, h 1 _ rfl, h 2 _ rfl, h 3 _ rfl, h 4 _ rfl, h 5 _ rfl⟩
set_option maxRecDepth 100000 in
set_option maxHeartbeats 4000000 in
theorem icMay_any (t c i s u : Int) (da : Option Addr) (dn dc : Nat) (w : World) : Calls Try.prog 31 #[.agg #[.int .i64 t, .int .i64 c, .int .i64 i, .int .i64 s, .int .i64 u, .slice da dn dc]] w fun e w' => e = .returned (.bool (mbI t c i s u)) ∧ Below w.heap.size w w' := by
  obtain ⟨q, w1, hq, hw1, b1, _, hc, _⟩ := boxI w t c i s u (.slice da dn dc)
  obtain ⟨c0, c1, c2, c3, c4, c5⟩ := imL_cells hc
  have HB := hide b1
  clear b1 hc
  obtain ⟨r, hr⟩ : ∃ r, r = mbI t c i s u := ⟨_, rfl⟩
  rw [← hr]
  cases he : ech t with
  | true =>
    have HM : Hid (r = (upB 0 c && (upB 65535 i && (upB 65535 s && upB 0 u)))) := by rw [hr, mbI, if_pos he]; exact rfl
    have HE := hide he
    clear hr he
    go_enter Try.func31, Try.ntmps31
    go_wp2_with fail
    clear hq hw1
    refine (icEcho_any t _).mono ?_
    rintro _ _ ⟨rfl, rfl⟩
    rw [HE.out]
    go_wp2_with fail
    refine (icUp_any 0 c _).mono ?_
    rintro _ _ ⟨rfl, rfl⟩
    cases h0 : upB 0 c with
    | false =>
      go_wp2
      go_ret
      exact ⟨by rw [HM.out, h0]; simp, HB.out⟩
    | true =>
      go_wp2_with fail
      refine (icUp_any 65535 i _).mono ?_
      rintro _ _ ⟨rfl, rfl⟩
      cases h1 : upB 65535 i with
      | false =>
        go_wp2
        go_ret
        exact ⟨by rw [HM.out, h0, h1]; simp, HB.out⟩
      | true =>
        go_wp2_with fail
        refine (icUp_any 65535 s _).mono ?_
        rintro _ _ ⟨rfl, rfl⟩
        cases h2 : upB 65535 s with
        | false =>
          go_wp2
          go_ret
          exact ⟨by rw [HM.out, h0, h1, h2]; simp, HB.out⟩
        | true =>
          go_wp2_with fail
          refine (icUp_any 0 u _).mono ?_
          rintro _ _ ⟨rfl, rfl⟩
          cases h3 : upB 0 u with
          | false =>
            go_wp2
            go_ret
            exact ⟨by rw [HM.out, h0, h1, h2, h3]; simp, HB.out⟩
          | true =>
            go_wp2
            go_ret
            exact ⟨by rw [HM.out, h0, h1, h2, h3]; simp, HB.out⟩
  | false =>
    have ne : ¬ (ech t = true) := by rw [he]; decide
    have HE := hide he
    by_cases h3 : t = 3
    · subst h3
      by_cases h4 : c = 4
      · subst h4
        have HM : Hid (r = (upB 15 4 && (upB 0 i && (upB 0 s && upB 65535 u)))) := by rw [hr, mbI, if_neg ne, if_pos rfl, if_pos rfl]; exact rfl
        clear hr he ne
        go_enter Try.func31, Try.ntmps31
        go_wp2_with fail
        clear hq hw1
        refine (icEcho_any 3 _).mono ?_
        rintro _ _ ⟨rfl, rfl⟩
        rw [HE.out]
        go_wp2_with fail
        refine (icUp_any 15 4 _).mono ?_
        rintro _ _ ⟨rfl, rfl⟩
        cases h0 : upB 15 4 with
        | false =>
          go_wp2
          go_ret
          exact ⟨by rw [HM.out, h0]; simp, HB.out⟩
        | true =>
          go_wp2_with fail
          refine (icUp_any 0 i _).mono ?_
          rintro _ _ ⟨rfl, rfl⟩
          cases h1 : upB 0 i with
          | false =>
            go_wp2
            go_ret
            exact ⟨by rw [HM.out, h0, h1]; simp, HB.out⟩
          | true =>
            go_wp2_with fail
            refine (icUp_any 0 s _).mono ?_
            rintro _ _ ⟨rfl, rfl⟩
            cases h2 : upB 0 s with
            | false =>
              go_wp2
              go_ret
              exact ⟨by rw [HM.out, h0, h1, h2]; simp, HB.out⟩
            | true =>
              go_wp2_with fail
              refine (icUp_any 65535 u _).mono ?_
              rintro _ _ ⟨rfl, rfl⟩
              cases h3 : upB 65535 u with
              | false =>
                go_wp2
                go_ret
                exact ⟨by rw [HM.out, h0, h1, h2, h3]; simp, HB.out⟩
              | true =>
                go_wp2
                go_ret
                exact ⟨by rw [HM.out, h0, h1, h2, h3]; simp, HB.out⟩
      · have HM : Hid (r = (upB 15 c && (upB 0 i && (upB 0 s && upB 0 u)))) := by rw [hr, mbI, if_neg ne, if_pos rfl, if_neg h4]; exact rfl
        have z4 : (c == 4) = false := by simpa using h4
        clear hr he ne h4
        go_enter Try.func31, Try.ntmps31
        go_wp2_with fail
        clear hq hw1
        refine (icEcho_any 3 _).mono ?_
        rintro _ _ ⟨rfl, rfl⟩
        rw [HE.out]
        go_wp2_with fail
        refine (icUp_any 15 c _).mono ?_
        rintro _ _ ⟨rfl, rfl⟩
        cases h0 : upB 15 c with
        | false =>
          go_wp2
          go_ret
          exact ⟨by rw [HM.out, h0]; simp, HB.out⟩
        | true =>
          go_wp2_with fail
          refine (icUp_any 0 i _).mono ?_
          rintro _ _ ⟨rfl, rfl⟩
          cases h1 : upB 0 i with
          | false =>
            go_wp2
            go_ret
            exact ⟨by rw [HM.out, h0, h1]; simp, HB.out⟩
          | true =>
            go_wp2_with fail
            refine (icUp_any 0 s _).mono ?_
            rintro _ _ ⟨rfl, rfl⟩
            cases h2 : upB 0 s with
            | false =>
              go_wp2
              go_ret
              exact ⟨by rw [HM.out, h0, h1, h2]; simp, HB.out⟩
            | true =>
              go_wp2_with fail
              refine (icUp_any 0 u _).mono ?_
              rintro _ _ ⟨rfl, rfl⟩
              cases h3 : upB 0 u with
              | false =>
                go_wp2
                go_ret
                exact ⟨by rw [HM.out, h0, h1, h2, h3]; simp, HB.out⟩
              | true =>
                go_wp2
                go_ret
                exact ⟨by rw [HM.out, h0, h1, h2, h3]; simp, HB.out⟩
    · have z3 : (t == 3) = false := by simpa using h3
      by_cases h11 : t = 11
      · subst h11
        have HM : Hid (r = (upB 1 c && (upB 0 i && (upB 0 s && upB 0 u)))) := by rw [hr, mbI, if_neg ne, if_neg h3, if_pos rfl]; exact rfl
        clear hr he ne h3 z3
        go_enter Try.func31, Try.ntmps31
        go_wp2_with fail
        clear hq hw1
        refine (icEcho_any 11 _).mono ?_
        rintro _ _ ⟨rfl, rfl⟩
        rw [HE.out]
        go_wp2_with fail
        refine (icUp_any 1 c _).mono ?_
        rintro _ _ ⟨rfl, rfl⟩
        cases h0 : upB 1 c with
        | false =>
          go_wp2
          go_ret
          exact ⟨by rw [HM.out, h0]; simp, HB.out⟩
        | true =>
          go_wp2_with fail
          refine (icUp_any 0 i _).mono ?_
          rintro _ _ ⟨rfl, rfl⟩
          cases h1 : upB 0 i with
          | false =>
            go_wp2
            go_ret
            exact ⟨by rw [HM.out, h0, h1]; simp, HB.out⟩
          | true =>
            go_wp2_with fail
            refine (icUp_any 0 s _).mono ?_
            rintro _ _ ⟨rfl, rfl⟩
            cases h2 : upB 0 s with
            | false =>
              go_wp2
              go_ret
              exact ⟨by rw [HM.out, h0, h1, h2]; simp, HB.out⟩
            | true =>
              go_wp2_with fail
              refine (icUp_any 0 u _).mono ?_
              rintro _ _ ⟨rfl, rfl⟩
              cases h3 : upB 0 u with
              | false =>
                go_wp2
                go_ret
                exact ⟨by rw [HM.out, h0, h1, h2, h3]; simp, HB.out⟩
              | true =>
                go_wp2
                go_ret
                exact ⟨by rw [HM.out, h0, h1, h2, h3]; simp, HB.out⟩
      · have z11 : (t == 11) = false := by simpa using h11
        have HM : Hid (r = false) := by rw [hr, mbI, if_neg ne, if_neg h3, if_neg h11]; exact rfl
        clear hr he ne h3 h11
        go_enter Try.func31, Try.ntmps31
        go_wp2_with fail
        clear hq hw1
        refine (icEcho_any t _).mono ?_
        rintro _ _ ⟨rfl, rfl⟩
        rw [HE.out]
        go_wp2
        go_ret
        exact ⟨by rw [HM.out]; rfl, HB.out⟩
theorem icAt_any (v : Value) (bs : List Int) (k : Int) (w : World) (hb : IsB w.heap.size w v bs) (hB : Bytes bs) (hl : (bs.length : Int) ≤ 4611686018427387904) (h1 : k ≤ 9223372036854775807) :
    Calls Try.prog 54 #[v, .int .i64 k] w fun e w' => e = .returned (.int .i64 (rd16 bs k)) ∧ Below w.heap.size w w' := by
  obtain ⟨a, c, rfl, _⟩ := hb.shape
  have C := hide (At16_any _ bs k w hb hB hl h1)
  obtain ⟨n, hn⟩ : ∃ n, n = bs.length := ⟨_, rfl⟩
  rw [← hn] at C ⊢
  clear hb hl hn
  go_enter Try.func54, Try.ntmps54
  go_wp2_with fail
  refine C.out.mono ?_
  rintro _ w2 ⟨rfl, b2⟩
  have B2 := hide b2
  clear b2 C
  go_wp2
  go_ret
  exact ⟨rfl, B2.out⟩
theorem icAt_val (v : Value) (bs : List Int) (k : Nat) (W : World) (hb : IsB W.heap.size W v bs) (hB : Bytes bs) (hl : (bs.length : Int) ≤ 4611686018427387904) (hk : k + 2 ≤ bs.length) :
    Calls Try.prog 54 #[v, .int .i64 (k : Int)] W fun e W' => ∃ u, e = .returned u ∧ u = .int .i64 (w16 bs k) ∧ Below W.heap.size W W' :=
  (icAt_any v bs (k : Int) W hb hB hl (by omega)).mono (by rintro _ W' ⟨rfl, h⟩; exact ⟨_, rfl, by rw [rd16_at hk], h⟩)
/-- the four bytes behind the sum -/
def nmL (t i s u : Int) : List Int := put16 i ++ put16 (if ech t = true then s else u)
set_option maxRecDepth 100000 in
theorem icNum_any (t c i s u : Int) (da : Option Addr) (dn dc : Nat) (w : World) : Calls Try.prog 32 #[.agg #[.int .i64 t, .int .i64 c, .int .i64 i, .int .i64 s, .int .i64 u, .slice da dn dc]] w fun e w' => ∃ v, e = .returned v ∧ OwnB w.heap.size w' v (nmL t i s u) ∧ Below w.heap.size w w' := by
  obtain ⟨q, w1, hq, hw1, b1, _, hc, _⟩ := boxI w t c i s u (.slice da dn dc)
  obtain ⟨c0, c1, c2, c3, c4, c5⟩ := imL_cells hc
  have HB := hide b1
  have P1 := hide (Put16_any (.slice none 0 0) [] i w1 (IsB.nil _ _) (by decide))
  clear b1 hc
  unfold nmL
  cases he : ech t with
  | true =>
    have HE := hide he
    clear he
    go_enter Try.func32, Try.ntmps32
    go_wp2_with fail
    clear hq hw1
    refine (icEcho_any t _).mono ?_
    rintro _ _ ⟨rfl, rfl⟩
    rw [HE.out]
    go_wp2_with fail
    refine P1.out.mono ?_
    rintro _ w2 ⟨v2, rfl, o2, b2⟩
    have P2 := hide (Put16_any v2 _ s w2 o2.isB (by simp [put16]))
    have B2 := hide (later HB.out b2)
    clear b2 o2 P1
    go_wp2_with fail
    refine P2.out.mono ?_
    rintro _ w3 ⟨v3, rfl, o3, b3⟩
    have B3 := hide (later B2.out b3)
    have O3 := hide (o3.mono B2.out.size)
    clear b3 o3 P2
    go_wp2
    go_ret
    exact ⟨_, rfl, by have h := O3.out; simpa [put16] using h, B3.out⟩
  | false =>
    have HE := hide he
    clear he
    go_enter Try.func32, Try.ntmps32
    go_wp2_with fail
    clear hq hw1
    refine (icEcho_any t _).mono ?_
    rintro _ _ ⟨rfl, rfl⟩
    rw [HE.out]
    go_wp2_with fail
    refine P1.out.mono ?_
    rintro _ w2 ⟨v2, rfl, o2, b2⟩
    have P2 := hide (Put16_any v2 _ u w2 o2.isB (by simp [put16]))
    have B2 := hide (later HB.out b2)
    clear b2 o2 P1
    go_wp2_with fail
    refine P2.out.mono ?_
    rintro _ w3 ⟨v3, rfl, o3, b3⟩
    have B3 := hide (later B2.out b3)
    have O3 := hide (o3.mono B2.out.size)
    clear b3 o3 P2
    go_wp2
    go_ret
    exact ⟨_, rfl, by have h := O3.out; simpa [put16] using h, B3.out⟩
end Go.Proofs.Yteiendigcaedhaa
