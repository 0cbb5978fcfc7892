
/-
  Package tcp: headSize, head, faultOf.
-/
import Derived.Test.YtggadchhkenipaaD9
namespace Go.Proofs.Ytggadchhkenipaa
open Go.RowKit Go.Shelf

/-- the length of a head -/
def hsI4 (bs : List Int) : Int := w16 bs 12 / 4096 * 4
def hsN (bs : List Int) : Nat := (hsI4 bs).toNat
theorem hs_bd {bs : List Int} (h : Bytes bs) : 0 ≤ hsI4 bs ∧ hsI4 bs ≤ 60 ∧ ((hsN bs : Nat) : Int) = hsI4 bs := by
  have := w16_bd h 12
  unfold hsN hsI4
  omega
section
variable {o : Oper} {w : World} {ev : Operand → Value}
theorem exec_shr12 (x : Operand) (t : TypeId) (n : Int) (ho : o.op = .binOp .shr 3 x (.const (.int .u64 12)) t) (hc : ∀ v, ev (.const v) = v) (hx : ev x = .int .i64 n) : (execOp ev o).run Try.prog w = .ok (.value (.int .i64 (n / 4096))) w := by
  unfold execOp
  simp [ho, hx, hc, go_sem, Op.shift]
  exact Int.fdiv_eq_ediv_of_nonneg _ (by decide)
theorem and_31 (n : Int) (h0 : 0 ≤ n) (h1 : n ≤ 65535) : bits .and .i64 n 31 = n % 32 := bits_mask .i64 62 (by decide) i64_wrap 5 (by decide) n h0 (by omega)
end
theorem headSize_any (v : Value) (bs : List Int) (w : World) (hb : IsB w.heap.size w v bs) (hB : Bytes bs) (hl : (bs.length : Int) ≤ 4611686018427387904) (hk : 14 ≤ bs.length) :
    Calls Try.prog 40 #[v] w fun e w' => e = .returned (.int .i64 (hsI4 bs)) ∧ Below w.heap.size w w' := by
  obtain ⟨a, c, rfl, _⟩ := hb.shape
  have C := hide (at16_any _ bs 12 w hb hB hl hk)
  obtain ⟨m0, m1⟩ := w16_bd hB 12
  have HS : Hid (hsI4 bs = w16 bs 12 / 4096 * 4) := rfl
  obtain ⟨m, hm⟩ : ∃ m, m = w16 bs 12 := ⟨_, rfl⟩
  rw [← hm] at C HS m0 m1
  obtain ⟨n, hn⟩ : ∃ n, n = bs.length := ⟨_, rfl⟩
  rw [← hn] at C ⊢
  rw [HS.out]
  clear hb hl hn hk hm hB HS
  go_enter Try.func40, Try.ntmps40
  go_wp2_with fail
  refine C.out.mono ?_
  rintro _ w2 ⟨rfl, b2⟩
  have B2 := hide b2
  clear b2 C
  go_wp2_with (refine wpList_val rfl (exec_shr12 _ _ m rfl (fun _ => rfl) rfl) ?_)
  go_ret
  exact ⟨rfl, B2.out⟩
/-- what makes bytes no segment, its options aside -/
def tfE (x y : I4) (bs : List Int) : Int :=
  if bs.length < 20 then 3 else
  if hsI4 bs < 20 ∨ (bs.length : Int) < hsI4 bs then 4 else
  if csum (psB x y 6 (bs.length : Int) ++ bs) ≠ 0 then 5 else
  if 1024 < (bs.length : Int) - hsI4 bs then 2 else
  if prt (w16 bs 0) = false ∨ prt (w16 bs 2) = false then 1 else 0
set_option maxRecDepth 100000 in
set_option maxHeartbeats 8000000 in
theorem faultOf_any (x y : I4) (hx : x.Ok) (hy : y.Ok) (v : Value) (bs : List Int) (w : World) (hb : IsB w.heap.size w v bs) (hB : Bytes bs) (hl : bs.length ≤ 140737488355328) :
    Calls Try.prog 37 #[x.val, y.val, v] w fun e w' => e = .returned (.int .i64 (tfE x y bs)) ∧ Below w.heap.size w w' := by
  obtain ⟨w1, w2, s1, s2, hs1, hw1, hs2, hw2, c1, c2, b2, l1, l2, _⟩ := twoI w x y
  obtain ⟨a, c, rfl, _⟩ := hb.shape
  obtain ⟨X, hX⟩ : ∃ X, X = x.vals := ⟨_, rfl⟩
  obtain ⟨Y, hY⟩ : ∃ Y, Y = y.vals := ⟨_, rfl⟩
  have LX : Hid (X.length = 4) := by rw [hX]; exact rfl
  have LY : Hid (Y.length = 4) := by rw [hY]; exact rfl
  have C1 : Hid (CellsAt w2 s1 0 X) := by rw [hX]; exact c1
  have C2 : Hid (CellsAt w2 s2 0 Y) := by rw [hY]; exact c2
  have B2 := hide b2
  have HD := hide (hb.later b2)
  have BY := hide hB
  have PB := hide (psB_bytes hx hy 6 (bs.length : Int))
  obtain ⟨E, hE⟩ : ∃ E, E = tfE x y bs := ⟨_, rfl⟩
  obtain ⟨m, hm⟩ : ∃ m, m = hsI4 bs := ⟨_, rfl⟩
  have PS : Hid (∀ W, Calls Try.prog 33 #[.agg X.toArray, .agg Y.toArray, .int .i64 6, .int .i64 (bs.length : Int)] W fun e w' => ∃ v, e = .returned v ∧ IsB w'.heap.size w' v (psB x y 6 (bs.length : Int)) ∧ Below W.heap.size W w') := fun W => by
    have h := Pseudo_any x y 6 (bs.length : Int) W
    rw [show x.val = .agg X.toArray from by rw [hX]; rfl, show y.val = .agg Y.toArray from by rw [hY]; rfl] at h
    exact h
  obtain ⟨Z, hZ⟩ : ∃ Z, Z = psB x y 6 (bs.length : Int) := ⟨_, rfl⟩
  have LZ : Hid (Z.length = 12) := by rw [hZ]; exact rfl
  rw [← hZ] at PS PB
  obtain ⟨q0, hq0⟩ : ∃ q, q = w16 bs 0 := ⟨_, rfl⟩
  obtain ⟨q2, hq2⟩ : ∃ q, q = w16 bs 2 := ⟨_, rfl⟩
  obtain ⟨cs, hcs⟩ : ∃ cs, cs = csum (Z ++ bs) := ⟨_, rfl⟩
  have HE : Hid (E = if bs.length < 20 then 3 else if m < 20 ∨ (bs.length : Int) < m then 4 else if cs ≠ 0 then 5 else if 1024 < (bs.length : Int) - m then 2 else if prt q0 = false ∨ prt q2 = false then 1 else 0) := by
    rw [hE, hm, hq0, hq2, hcs, hZ]; exact rfl
  have HSZ : Hid (14 ≤ bs.length → Calls Try.prog 40 #[.slice a bs.length c] w2 fun e w' => e = .returned (.int .i64 m) ∧ Below w2.heap.size w2 w') := fun h => by rw [hm]; exact headSize_any _ bs w2 HD.out hB (by omega) h
  have AT : Hid (20 ≤ bs.length → ∀ W, Below w2.heap.size w2 W → Calls Try.prog 57 #[.slice a bs.length c, .int .i64 0] W fun e w' => e = .returned (.int .i64 q0) ∧ Below W.heap.size W w') := fun h W hW => by rw [hq0]; exact at16_any _ bs 0 W (HD.out.later hW) hB (by omega) (by omega)
  have AT2 : Hid (20 ≤ bs.length → ∀ W, Below w2.heap.size w2 W → Calls Try.prog 57 #[.slice a bs.length c, .int .i64 2] W fun e w' => e = .returned (.int .i64 q2) ∧ Below W.heap.size W w') := fun h W hW => by rw [hq2]; exact at16_any _ bs 2 W (HD.out.later hW) hB (by omega) (by omega)
  obtain ⟨mb0, mb1, _⟩ := hs_bd hB
  rw [← hm] at mb0 mb1
  have HCS := hide hcs
  rw [← hE]
  obtain ⟨n, hn⟩ : ∃ n, n = bs.length := ⟨_, rfl⟩
  have HN := hide hn
  rw [← hn] at hl HD PS HE HSZ AT AT2 ⊢
  rw [show x.val = .agg #[.int .u8 x.a, .int .u8 x.b, .int .u8 x.c, .int .u8 x.d] from rfl, show y.val = .agg #[.int .u8 y.a, .int .u8 y.b, .int .u8 y.c, .int .u8 y.d] from rfl]
  have hs1' := hs1.symm
  have hs2' := hs2.symm
  have hw1' := hw1.symm
  have hw2' := hw2.symm
  clear c1 c2 b2 hs1 hs2 hw1 hw2 hX hY hb hB hn hE hm hZ hq0 hq2 hcs hx hy
  by_cases h1 : n < 20
  · have e : E = 3 := by rw [HE.out, if_pos h1]
    subst e
    have z : (n : Int) < 20 := by omega
    go_enter Try.func37, Try.ntmps37
    go_wp2
    go_ret
    exact ⟨rfl, B2.out⟩
  have z1 : ¬ (n : Int) < 20 := by omega
  rw [if_neg h1] at HE
  have HS1 := hide (HSZ.out (by omega))
  have A0 := hide (AT.out (by omega))
  have A2 := hide (AT2.out (by omega))
  clear HSZ AT AT2
  go_enter Try.func37, Try.ntmps37
  go_wp2_with fail
  clear hs1' hs2' hw1' hw2'
  refine HS1.out.mono ?_
  rintro _ w3 ⟨rfl, b3⟩
  have B3 := hide b3
  clear b3 HS1
  by_cases h2 : m < 20
  · have e : E = 4 := by rw [HE.out, if_pos (.inl h2)]
    have BF := hide (later B2.out B3.out)
    subst e
    go_wp2
    go_ret
    exact ⟨rfl, BF.out⟩
  by_cases h3 : (n : Int) < m
  · have e : E = 4 := by rw [HE.out, if_pos (.inr h3)]
    have BF := hide (later B2.out B3.out)
    subst e
    go_wp2
    go_ret
    exact ⟨rfl, BF.out⟩
  rw [if_neg (show ¬ (m < 20 ∨ (n : Int) < m) by omega)] at HE
  have C13 := hide (C1.out.later l1 B3.out)
  have C23 := hide (C2.out.later l2 B3.out)
  have P3 := hide (PS.out w3)
  clear PS
  go_wp2_with (first | refine wpList_loadA rfl 35 4 aggI sizI _ rfl s1 0 rfl X LX.out C13.out ?_ | refine wpList_loadA rfl 35 4 aggI sizI _ rfl s2 0 rfl Y LY.out C23.out ?_)
  refine P3.out.mono ?_
  rintro _ w4 ⟨v4, rfl, i4, b4⟩
  obtain ⟨a4, c4, rfl, _⟩ := i4.shape
  have B4 := hide (later B3.out b4)
  have SM := hide (Sum2 (.slice a4 Z.length c4) (.slice a n c) _ _ w4 i4 (HD.out.later B4.out) PB.out BY.out (by rw [LZ.out, ← HN.out]; omega))
  rw [← HCS.out] at SM
  rw [LZ.out] at SM ⊢
  clear i4 b4 P3 C13 C23
  go_wp2_with fail
  refine SM.out.mono ?_
  rintro _ w5 ⟨rfl, b5⟩
  have B5 := hide (later B4.out b5)
  have BF := hide (later B2.out B5.out)
  clear b5 SM B4 B3
  by_cases h4 : cs = 0
  case neg =>
    have e : E = 5 := by rw [HE.out, if_pos h4]
    have q : (cs != 0) = true := by simpa using h4
    subst e
    clear h4
    go_wp2
    go_ret
    exact ⟨rfl, BF.out⟩
  have q : (cs != 0) = false := by rw [h4]; rfl
  rw [if_neg (by rw [h4]; decide)] at HE
  clear h4
  by_cases h5 : 1024 < (n : Int) - m
  · have e : E = 2 := by rw [HE.out, if_pos h5]
    have zz : wrap64 ((n : Int) - m) = (n : Int) - m := by unfold wrap64; omega
    subst e
    go_wp2
    go_ret
    exact ⟨rfl, BF.out⟩
  rw [if_neg h5] at HE
  have AA := hide (A0.out w5 B5.out)
  have M1 := hide (isPortT_any q0)
  have M2 := hide (isPortT_any q2)
  clear A0
  go_wp2_with fail
  refine AA.out.mono ?_
  rintro _ w6 ⟨rfl, b6⟩
  have B6 := hide (later B5.out b6)
  have M1' := hide (M1.out w6)
  clear b6 AA B5 BF
  go_wp2_with fail
  refine M1'.out.mono ?_
  rintro _ wx ⟨rfl, hw⟩
  rw [hw]
  clear hw wx M1' M1
  have BF := hide (later B2.out B6.out)
  cases hp : prt q0 with
  | false =>
    have e : E = 1 := by rw [HE.out, if_pos (.inl hp)]
    subst e
    clear hp
    go_wp2
    go_ret
    exact ⟨rfl, BF.out⟩
  | true =>
  have AA := hide (A2.out w6 B6.out)
  clear A2
  go_wp2_with fail
  refine AA.out.mono ?_
  rintro _ w7 ⟨rfl, b7⟩
  have B7 := hide (later BF.out b7)
  have M2' := hide (M2.out w7)
  clear b7 AA
  go_wp2_with fail
  refine M2'.out.mono ?_
  rintro _ wx ⟨rfl, hw⟩
  rw [hw]
  clear hw wx M2' M2
  cases hp2 : prt q2 with
  | false =>
    have e : E = 1 := by rw [HE.out, if_pos (.inr hp2)]
    subst e
    clear hp hp2
    go_wp2
    go_ret
    exact ⟨rfl, B7.out⟩
  | true =>
    have e : E = 0 := by rw [HE.out, if_neg (by rw [hp, hp2]; decide)]
    subst e
    clear hp hp2
    go_wp2
    go_ret
    exact ⟨rfl, B7.out⟩
end Go.Proofs.Ytggadchhkenipaa
