
/-
  Package tcp: mayBe, optionsOf.
-/
import Derived.Test.YtggadchhkenipaaD1
namespace Go.Proofs.Ytggadchhkenipaa
open Go.RowKit Go.Shelf

/-- the slice v holds spans, in a block of P -/
def CG (P : Nat → Prop) (W : World) (v : Value) (L : List Sp) : Prop :=
  ∃ a cap, v = .slice a L.length cap ∧ L.length ≤ cap ∧ (a = none → cap = 0) ∧ (0 < L.length → ∃ g off, a = some ⟨g, off, none⟩ ∧ P g ∧ g < W.heap.size ∧ ∀ k x, L[k]? = some x → CellsAt W g (off + k * 2) x.cells)
section
variable {P K : Nat → Prop} {W W' : World} {v : Value} {L : List Sp}
theorem CG.but (h : CG P W v L) (hb : But K W W') (hk : ∀ g, P g → ¬ K g) : CG P W' v L := by
  obtain ⟨a, cap, c1, c2, c3, c4⟩ := h
  refine ⟨a, cap, c1, c2, c3, fun h0 => ?_⟩
  obtain ⟨g, off, d1, d2, d3, d4⟩ := c4 h0
  exact ⟨g, off, d1, d2, Nat.lt_of_lt_of_le d3 hb.size, fun k x hx => (d4 k x hx).but d3 hb (hk g d2)⟩
theorem CG.later (h : CG P W v L) (hb : Below W.heap.size W W') : CG P W' v L := h.but (K := fun _ => False) (But.of_below hb) (fun _ _ => id)
theorem CG.own {P' : Nat → Prop} (h : CG P W v L) (ho : ∀ g, g < W.heap.size → P g → P' g) : CG P' W v L := by
  obtain ⟨a, cap, c1, c2, c3, c4⟩ := h
  refine ⟨a, cap, c1, c2, c3, fun h0 => ?_⟩
  obtain ⟨g, off, d1, d2, d3, d4⟩ := c4 h0
  exact ⟨g, off, d1, ho g d3 d2, d3, d4⟩
theorem CG.shape (h : CG P W v L) : ∃ a cap, v = .slice a L.length cap := by
  obtain ⟨a, cap, c1, _⟩ := h
  exact ⟨a, cap, c1⟩
theorem CG.nil (P : Nat → Prop) (W : World) : CG P W (.slice none 0 0) [] := ⟨none, 0, rfl, Nat.le_refl _, fun _ => rfl, fun h => by simp at h⟩
end
/-- may a segment be, its data aside? -/
def mbS (s : Sg) : Bool := prt s.src && (prt s.dst && (upT 31 s.flg && (upT 65535 s.wnd && (upT 65535 s.mss && decide (s.got.length ≤ 3)))))
set_option maxRecDepth 100000 in
set_option maxHeartbeats 4000000 in
theorem mayBeT_any (s : Sg) (ga : Option Addr) (gc : Nat) (dv : Value) (w : World) : Calls Try.prog 27 #[.agg (s.cells (.slice ga s.got.length gc) dv).toArray] w fun e w' => e = .returned (.bool (mbS s)) ∧ Below w.heap.size w w' := by
  obtain ⟨w1, b, hs, hw, c1, f1, b1, l1⟩ := boxS w s (.slice ga s.got.length gc) dv
  rw [show (Value.agg (s.cells (.slice ga s.got.length gc) dv).toArray) = .agg #[.int .i64 s.src, .int .i64 s.dst, .int .u32 s.seq, .int .u32 s.ack, .int .i64 s.flg, .int .i64 s.wnd, .int .i64 s.mss, .bool s.sak, .slice ga s.got.length gc, dv] from rfl]
  have k0 : w1.cell? ⟨b, 0, none⟩ = some (.int .i64 s.src) := c1 0 _ rfl
  have k1 : w1.cell? ⟨b, 1, none⟩ = some (.int .i64 s.dst) := c1 1 _ rfl
  have k4 : w1.cell? ⟨b, 4, none⟩ = some (.int .i64 s.flg) := c1 4 _ rfl
  have k5 : w1.cell? ⟨b, 5, none⟩ = some (.int .i64 s.wnd) := c1 5 _ rfl
  have k6 : w1.cell? ⟨b, 6, none⟩ = some (.int .i64 s.mss) := c1 6 _ rfl
  have k8 : w1.cell? ⟨b, 8, none⟩ = some (.slice ga s.got.length gc) := c1 8 _ rfl
  have M1 := hide (isPortT_any s.src w1)
  have M2 := hide (isPortT_any s.dst w1)
  have M3 := hide (isUpTo_any 31 s.flg w1)
  have M4 := hide (isUpTo_any 65535 s.wnd w1)
  have M5 := hide (isUpTo_any 65535 s.mss w1)
  obtain ⟨r, hr⟩ : ∃ r, r = mbS s := ⟨_, rfl⟩
  have HR : Hid (r = (prt s.src && (prt s.dst && (upT 31 s.flg && (upT 65535 s.wnd && (upT 65535 s.mss && decide (s.got.length ≤ 3))))))) := by rw [hr]; exact rfl
  rw [← hr]
  obtain ⟨n, hn⟩ : ∃ n, n = s.got.length := ⟨_, rfl⟩
  rw [← hn] at k8 hw HR ⊢
  obtain ⟨q1, hq1⟩ : ∃ q, q = prt s.src := ⟨_, rfl⟩
  obtain ⟨q2, hq2⟩ : ∃ q, q = prt s.dst := ⟨_, rfl⟩
  obtain ⟨q3, hq3⟩ : ∃ q, q = upT 31 s.flg := ⟨_, rfl⟩
  obtain ⟨q4, hq4⟩ : ∃ q, q = upT 65535 s.wnd := ⟨_, rfl⟩
  obtain ⟨q5, hq5⟩ : ∃ q, q = upT 65535 s.mss := ⟨_, rfl⟩
  rw [← hq1] at M1 HR
  rw [← hq2] at M2 HR
  rw [← hq3] at M3 HR
  rw [← hq4] at M4 HR
  rw [← hq5] at M5 HR
  have hs' := hs.symm
  have hw' := hw.symm
  have B1 := hide b1
  clear hs hw c1 f1 b1 hr hn hq1 hq2 hq3 hq4 hq5
  go_enter Try.func27, Try.ntmps27
  go_wp2_with fail
  clear hs' hw'
  refine M1.out.mono ?_
  rintro _ wx ⟨rfl, hw⟩
  rw [hw]
  clear hw wx
  cases q1 with
  | false =>
    go_wp2
    go_ret
    exact ⟨by rw [HR.out]; rfl, B1.out⟩
  | true =>
  go_wp2_with fail
  refine M2.out.mono ?_
  rintro _ wx ⟨rfl, hw⟩
  rw [hw]
  clear hw wx
  cases q2 with
  | false =>
    go_wp2
    go_ret
    exact ⟨by rw [HR.out]; rfl, B1.out⟩
  | true =>
  go_wp2_with fail
  refine M3.out.mono ?_
  rintro _ wx ⟨rfl, hw⟩
  rw [hw]
  clear hw wx
  cases q3 with
  | false =>
    go_wp2
    go_ret
    exact ⟨by rw [HR.out]; rfl, B1.out⟩
  | true =>
  go_wp2_with fail
  refine M4.out.mono ?_
  rintro _ wx ⟨rfl, hw⟩
  rw [hw]
  clear hw wx
  cases q4 with
  | false =>
    go_wp2
    go_ret
    exact ⟨by rw [HR.out]; rfl, B1.out⟩
  | true =>
  go_wp2_with fail
  refine M5.out.mono ?_
  rintro _ wx ⟨rfl, hw⟩
  rw [hw]
  clear hw wx
  cases q5 with
  | false =>
    go_wp2
    go_ret
    exact ⟨by rw [HR.out]; rfl, B1.out⟩
  | true =>
  by_cases h : n ≤ 3
  · have z : (n : Int) ≤ 3 := by omega
    have HR1 : Hid (r = true) := by unfold Hid; rw [HR.out, decide_eq_true h]; rfl
    go_wp2
    go_ret
    exact ⟨by rw [HR1.out]; rfl, B1.out⟩
  · have z : ¬ (n : Int) ≤ 3 := by omega
    have HR1 : Hid (r = false) := by unfold Hid; rw [HR.out, decide_eq_false h]; rfl
    go_wp2
    go_ret
    refine ⟨?_, B1.out⟩
    rw [HR1.out]
    show Ending.returned (.bool (decide ((n : Int) ≤ 3))) = _
    rw [decide_eq_false (by omega)]
/-- the options: one that tells the greatest size; that one may tell what was got; what was got; filled up -/
def spB (x : Sp) : List Int := put32 x.f ++ put32 x.t
def oM (s : Sg) : List Int := if s.mss = 0 then [] else [2, 4] ++ put16 s.mss
def oS (s : Sg) : List Int := if s.sak = true then oM s ++ [4, 2] else oM s
def oG (s : Sg) : List Int := if s.got.length = 0 then oS s else oS s ++ [5, ((2 + 8 * s.got.length : Nat) : Int)]
def oL (s : Sg) (k : Nat) : List Int := oG s ++ (s.got.take k).flatMap spB
def padT (b : List Int) : List Int := b ++ List.replicate ((4 - b.length % 4) % 4) 1
def otB (s : Sg) : List Int := padT (oL s s.got.length)
theorem spB_len (x : Sp) : (spB x).length = 8 := rfl
theorem spBs_len : ∀ L : List Sp, (L.flatMap spB).length = 8 * L.length
  | [] => rfl
  | x :: L => by rw [List.flatMap_cons, List.length_append, spB_len, spBs_len L, List.length_cons]; omega
theorem oM_len (s : Sg) : (oM s).length ≤ 4 := by unfold oM; split <;> simp [put16]
theorem oS_len (s : Sg) : (oS s).length ≤ 6 := by
  have := oM_len s
  unfold oS
  split
  · simp; omega
  · omega
theorem oG_len (s : Sg) : (oG s).length ≤ 8 := by
  have := oS_len s
  unfold oG
  split
  · omega
  · simp; omega
theorem oL_len (s : Sg) (k : Nat) : (oL s k).length ≤ 8 + 8 * k := by
  have := oG_len s
  have h : (s.got.take k).length ≤ k := by rw [List.length_take]; omega
  unfold oL
  rw [List.length_append, spBs_len]
  omega
theorem padT_step (l : List Int) (h : l.length % 4 ≠ 0) : padT (l ++ [1]) = padT l := by
  unfold padT
  rw [List.length_append, List.length_singleton, List.append_assoc]
  congr 1
  rw [show (4 - l.length % 4) % 4 = (4 - (l.length + 1) % 4) % 4 + 1 by omega, List.replicate_succ]
  rfl
theorem padT_end (l : List Int) (h : l.length % 4 = 0) : padT l = l := by
  unfold padT
  rw [h]
  simp
theorem padT_len (l : List Int) : (padT l).length ≤ l.length + 3 ∧ (padT l).length % 4 = 0 := by
  unfold padT
  rw [List.length_append, List.length_replicate]
  omega
theorem otB_len (s : Sg) (h : s.got.length ≤ 3) : (otB s).length ≤ 35 ∧ (otB s).length % 4 = 0 := by
  have h1 := padT_len (oL s s.got.length)
  have h2 := oL_len s s.got.length
  unfold otB
  omega
theorem oL_succ (s : Sg) (k : Nat) (x : Sp) (h : s.got[k]? = some x) : oL s (k + 1) = oL s k ++ put32 x.f ++ put32 x.t := by
  unfold oL
  obtain ⟨hk, e⟩ := List.getElem?_eq_some_iff.1 h
  rw [List.take_add_one, h]
  simp [spB]
/-- two bytes of the call's own -/
theorem lit2 (W : World) (a b : Int) : ∃ W2 s, s = W.heap.size ∧ W2 = W.alloc (.cells #[.int .u8 a, .int .u8 b] 5) ∧ IsB W2.heap.size W2 (.slice (some ⟨s, 0, none⟩) 2 2) [a, b] ∧ Below W.heap.size W W2 :=
  ⟨_, _, rfl, rfl, by rw [World.size_alloc]; exact IsB_new [a, b] (by omega), later_alloc _ _⟩
theorem lit1 (W : World) (a : Int) : ∃ W2 s, s = W.heap.size ∧ W2 = W.alloc (.cells #[.int .u8 a] 5) ∧ IsB W2.heap.size W2 (.slice (some ⟨s, 0, none⟩) 1 1) [a] ∧ Below W.heap.size W W2 :=
  ⟨_, _, rfl, rfl, by rw [World.size_alloc]; exact IsB_new [a] (by omega), later_alloc _ _⟩
/-- append to nothing -/
theorem app_nil {ev : Operand → Value} {o : Oper} {W : World} {x y : Operand} {ys : List Int} (ho : o.op = Op.call { callee := Callee.builtin Builtin.append, args := #[x, y], argTypes := #[24, 24] }) (hty : o.type = 24) (hx : ev x = .slice none 0 0) (hy : IsB W.heap.size W (ev y) ys) (hl : ys.length ≤ 100000) :
    ∃ v W', (execOp ev o).run Try.prog W = .ok (.value v) W' ∧ Below W.heap.size W W' ∧ IsB W'.heap.size W' v ys := by
  obtain ⟨v', w', hrun, g', b'⟩ := append_runB (xs := []) (B := W.heap.size) (Gro.nil _ _) hy (Nat.le_refl _) (by simp; omega)
  refine ⟨v', w', ?_, b', g'.isB⟩
  rw [← hx] at hrun
  simp only [execOp, ho, hty]
  simp [resolve, invoke, builtin, hx, Result.andThen] at hrun ⊢
  rw [hrun]
theorem put16_g {v : Value} {xs : List Int} {n : Int} {B : Nat} {W : World} (ha : IsB W.heap.size W v xs) (hB : B ≤ W.heap.size) (hl : xs.length ≤ 100000) : Calls Try.prog 29 #[v, .int .i64 n] W fun e W' => ∃ v', e = .returned v' ∧ Gro B W' v' (xs ++ put16 n) ∧ Below W.heap.size W W' :=
  (Put16_any v xs n W ha (by omega)).mono (by
    rintro _ W' ⟨v', rfl, ho, hb⟩
    exact ⟨v', rfl, (ho.gro (by rw [List.length_append, put16_len]; unfold maxLen; omega)).low hB, hb⟩)
theorem put32_g {v : Value} {xs : List Int} {n : Int} {B : Nat} {W : World} (ha : IsB W.heap.size W v xs) (n0 : 0 ≤ n ∧ n < 4294967296) (hB : B ≤ W.heap.size) (hl : xs.length ≤ 100000) : Calls Try.prog 30 #[v, .int .u32 n] W fun e W' => ∃ v', e = .returned v' ∧ Gro B W' v' (xs ++ put32 n) ∧ Below W.heap.size W W' :=
  (Put32_any v xs n n0.1 n0.2 W ha (by omega)).mono (by
    rintro _ W' ⟨v', rfl, ho, hb⟩
    exact ⟨v', rfl, (ho.gro (by rw [List.length_append]; simp [put32]; unfold maxLen; omega)).low hB, hb⟩)
end Go.Proofs.Ytggadchhkenipaa
