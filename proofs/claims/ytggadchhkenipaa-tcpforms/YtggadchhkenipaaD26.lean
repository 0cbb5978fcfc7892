
/-
  TcpUnknown: the numbers; the document's Sum; make([]byte, n).
-/
import Derived.Test.YtggadchhkenipaaDRow
namespace Go.Proofs.Ytggadchhkenipaa
open Go.RowKit Go.Shelf

/-- a head's twenty bytes: n bytes of options, and a sum's two bytes -/
def hdL (s : Sg) (n : Nat) (m1 m2 : Int) : List Int := [s.src / 256 % 256, s.src % 256, s.dst / 256 % 256, s.dst % 256, s.seq / 16777216, s.seq / 65536 % 256, s.seq / 256 % 256, s.seq % 256, s.ack / 16777216, s.ack / 65536 % 256, s.ack / 256 % 256, s.ack % 256, ((20 + n : Nat) : Int) / 4 * 16, s.flg, s.wnd / 256 % 256, s.wnd % 256, m1, m2, 0, 0]
theorem hdL_len (s : Sg) (n : Nat) (m1 m2 : Int) : (hdL s n m1 m2).length = 20 := rfl
theorem tsB_form {x y : I4} {s : Sg} (h : teE s = 0) : tsB x y s = hdL s (otB s).length (tsm x y s / 256 % 256) (tsm x y s % 256) ++ (otB s ++ s.dat) := by
  obtain ⟨_, hmb⟩ := teE_zero h
  obtain ⟨_, _, ⟨fl0, fl1⟩, _, _, h3⟩ := mbS_true hmb
  obtain ⟨l35, l4⟩ := otB_len s h3
  generalize hn : (otB s).length = n at *
  have e1 : (((20 + n : Nat) : Int) / 4 * 4096 + s.flg) / 256 % 256 = ((20 + n : Nat) : Int) / 4 * 16 := by omega
  have e2 : (((20 + n : Nat) : Int) / 4 * 4096 + s.flg) % 256 = s.flg := by omega
  have EB : tsB x y s = [s.src / 256 % 256, s.src % 256, s.dst / 256 % 256, s.dst % 256, s.seq / 16777216, s.seq / 65536 % 256, s.seq / 256 % 256, s.seq % 256, s.ack / 16777216, s.ack / 65536 % 256, s.ack / 256 % 256, s.ack % 256, (((20 + n : Nat) : Int) / 4 * 4096 + s.flg) / 256 % 256, (((20 + n : Nat) : Int) / 4 * 4096 + s.flg) % 256, s.wnd / 256 % 256, s.wnd % 256, tsm x y s / 256 % 256, tsm x y s % 256, 0, 0] ++ (otB s ++ s.dat) := by rw [← hn]; rfl
  rw [EB, e1, e2]
  rfl
theorem sum_in {P A B : List Int} (hP : Bytes P) (hA : Bytes A) (hB : Bytes B) (lP : P.length % 2 = 0) (lA : A.length % 2 = 0) {m : Int} (hm : m = csum (P ++ (A ++ ([0, 0] ++ B)))) : csum (P ++ (A ++ (put16 m ++ B))) = 0 := by
  have h2 := csum_bd (P ++ (A ++ ([0, 0] ++ B)))
  have hz : Bytes [(0 : Int), 0] := fun z hz => by simp only [List.mem_cons, List.not_mem_nil, or_false] at hz; rcases hz with rfl | rfl <;> decide
  have h1 := whole_mod (P ++ (A ++ ([0, 0] ++ B))) (hP.append (hA.append (hz.append hB)))
  rw [← hm] at h1 h2
  have l2 : ([(0 : Int), 0]).length % 2 = 0 := rfl
  have w1 : wsum (P ++ (A ++ ([0, 0] ++ B))) = wsum P + wsum A + wsum B := by
    rw [wsum_append_even _ _ lP, wsum_append_even _ _ lA, wsum_append_even _ _ l2, wsum_pair]
    omega
  have w2 : wsum (P ++ (A ++ (put16 m ++ B))) = wsum P + wsum A + m + wsum B := by
    rw [wsum_append_even _ _ lP, wsum_append_even _ _ lA, wsum_append_even _ _ (by rw [put16_len]), wsum_put16 m h2.1 h2.2]
    omega
  have h3 : foldI (wsum (P ++ (A ++ (put16 m ++ B)))) = 65535 := by
    rw [w2]
    rw [w1] at h1
    exact fold_whole _ (by omega) (by omega)
  show 65535 - foldI _ = 0
  omega
theorem t_form {x y : I4} {s : Sg} (ok : s.Ok) (h : teE s = 0) {O : List Int} {n : Nat} (hn : n = O.length) (l4 : n % 4 = 0) (l35 : n ≤ 40) {m1 m2 : Int} {B : List Int} (EB : B = hdL s n m1 m2 ++ (O ++ s.dat)) (HS : csum (psB x y 6 (20 + (n : Int) + (s.dat.length : Int)) ++ B) = 0) (hR : rdO (hasB s.flg 2) O ⟨0, false, []⟩ = (true, roB (hasB s.flg 2) s)) : tdE x y B = 0 ∧ tdS x y B = toldS s := by
  obtain ⟨hd, hmb⟩ := teE_zero h
  obtain ⟨⟨p0, p1⟩, ⟨p2, p3⟩, ⟨fl0, fl1⟩, ⟨wn0, wn1⟩, _, _⟩ := mbS_true hmb
  have HL : B.length = 20 + n + s.dat.length := by rw [EB, List.length_append, List.length_append, hdL_len, ← hn]; omega
  have LB : ((B.length : Nat) : Int) = 20 + (n : Int) + (s.dat.length : Int) := by omega
  obtain ⟨q0, q1⟩ := ok.seq
  obtain ⟨a0, a1⟩ := ok.ack
  have W0 : w16 B 0 = s.src := by rw [EB]; show 256 * (s.src / 256 % 256) + s.src % 256 = s.src; omega
  have W2 : w16 B 2 = s.dst := by rw [EB]; show 256 * (s.dst / 256 % 256) + s.dst % 256 = s.dst; omega
  have W4 : w32 B 4 = s.seq := by rw [EB]; show 16777216 * (s.seq / 16777216) + 65536 * (s.seq / 65536 % 256) + 256 * (s.seq / 256 % 256) + s.seq % 256 = s.seq; omega
  have W8 : w32 B 8 = s.ack := by rw [EB]; show 16777216 * (s.ack / 16777216) + 65536 * (s.ack / 65536 % 256) + 256 * (s.ack / 256 % 256) + s.ack % 256 = s.ack; omega
  have W12 : w16 B 12 = ((20 + n : Nat) : Int) / 4 * 4096 + s.flg := by rw [EB]; show 256 * (((20 + n : Nat) : Int) / 4 * 16) + s.flg = _; omega
  have W14 : w16 B 14 = s.wnd := by rw [EB]; show 256 * (s.wnd / 256 % 256) + s.wnd % 256 = s.wnd; omega
  have F32 : w16 B 12 % 32 = s.flg := by rw [W12]; omega
  have HSI : hsI4 B = 20 + (n : Int) := by unfold hsI4; rw [W12]; omega
  have HSN : hsN B = 20 + n := by unfold hsN; rw [HSI]; omega
  have prt1 : prt s.src = true := by unfold prt; rw [decide_eq_true p0, decide_eq_true p1]; rfl
  have prt2 : prt s.dst = true := by unfold prt; rw [decide_eq_true p2, decide_eq_true p3]; rfl
  have TF : tfE x y B = 0 := by
    unfold tfE
    rw [if_neg (by omega), HSI, if_neg (by omega), LB, HS, if_neg (by decide), if_neg (by omega), W0, W2, prt1, prt2, if_neg (by decide)]
  have OB : (B.take (20 + n)).drop 20 = O := by
    rw [EB, ← hdL_len s n m1 m2, hn, List.take_length_add_append, List.drop_append_of_le_length (Nat.le_refl _), List.drop_length, List.nil_append, List.take_append_of_le_length (Nat.le_refl _), List.take_length]
  have DB : B.drop (20 + n) = s.dat := by
    rw [EB, ← List.append_assoc, show 20 + n = (hdL s n m1 m2 ++ O).length by rw [List.length_append, hdL_len, hn], List.drop_append_of_le_length (Nat.le_refl _), List.drop_length, List.nil_append]
  have TR : tdR B = (true, roB (hasB s.flg 2) s) := by
    unfold tdR
    rw [HSN, OB, F32, hR]
  have TE : tdE x y B = 0 := by
    unfold tdE
    rw [TF, TR, if_neg (by decide), if_neg (fun e => by cases e)]
  refine ⟨TE, ?_⟩
  unfold tdS
  rw [if_pos TE, TR, HSN, DB]
  unfold tdH Sg.ro roB toldS
  rw [W0, W2, W4, W8, F32, W14]
  cases hasB s.flg 2 <;> rfl
/-- an option that nobody knows is passed over, and the fill behind it -/
theorem rdO_ones2 {syn : Bool} (rest : List Int) (r : Ro) : ∀ k : Nat, rdO syn (List.replicate k 1 ++ rest) r = rdO syn rest r
  | 0 => rfl
  | k + 1 => by rw [List.replicate_succ, List.cons_append, rdO_one, rdO_ones2 rest r k]
def unk (kind : Int) (z : Nat) : List Int := kind :: (z : Int) :: List.replicate (z - 2) 0
theorem unk_len {kind : Int} {z : Nat} (h : 2 ≤ z) : (unk kind z).length = z := by unfold unk; simp; omega
theorem rdO_unk {syn : Bool} {kind : Int} {z : Nat} (hk : 9 ≤ kind) (h2 : 2 ≤ z) (h9 : z ≤ 9) (rest : List Int) (r : Ro) : rdO syn (padT (unk kind z) ++ rest) r = rdO syn rest r := by
  unfold padT
  rw [List.append_assoc]
  have e : unk kind z ++ (List.replicate ((4 - (unk kind z).length % 4) % 4) 1 ++ rest) = kind :: (z : Int) :: (List.replicate (z - 2) 0 ++ (List.replicate ((4 - (unk kind z).length % 4) % 4) 1 ++ rest)) := rfl
  rw [e, rdO_opt kind _ (List.replicate (z - 2) 0) _ r (by omega) (by omega) (by omega) (by simp; omega), rdO_ones2]
  congr 1
  unfold oneO
  have n0 : nb (kind :: (z : Int) :: List.replicate (z - 2) 0) 0 = kind := rfl
  rw [n0, if_neg (by omega), if_neg (by omega), if_neg (by omega)]
theorem unk_bytes {kind : Int} {z : Nat} (k0 : 0 ≤ kind) (k1 : kind ≤ 255) (h9 : z ≤ 9) : Bytes (padT (unk kind z)) := by
  intro v hv
  unfold padT unk at hv
  simp only [List.mem_append, List.mem_cons, List.mem_replicate] at hv
  rcases hv with (rfl | rfl | ⟨_, rfl⟩) | ⟨_, rfl⟩ <;> omega
set_option maxRecDepth 100000 in
set_option maxHeartbeats 4000000 in
theorem rSumT_any (x y : I4) (hx : x.Ok) (hy : y.Ok) (v : Value) (bs : List Int) (w : World) (hb : IsB w.heap.size w v bs) (hB : Bytes bs) (hl : bs.length ≤ 140737488351232) :
    Calls Try.prog 36 #[x.val, y.val, v] w fun e w' => e = .returned (.int .i64 (csum (psB x y 6 (bs.length : Int) ++ bs))) ∧ Below w.heap.size w w' := by
  obtain ⟨w1, w2, s1, s2, hs1, hw1, hs2, hw2, c1, c2, b2, l1, l2, _⟩ := twoI w x y
  obtain ⟨a, c, rfl, _⟩ := hb.shape
  have P3 := hide (rPseudo_any x y 6 (bs.length : Int) w2)
  obtain ⟨X, hX⟩ : ∃ X, X = x.vals := ⟨_, rfl⟩
  obtain ⟨Y, hY⟩ : ∃ Y, Y = y.vals := ⟨_, rfl⟩
  have LX : Hid (X.length = 4) := by rw [hX]; exact rfl
  have LY : Hid (Y.length = 4) := by rw [hY]; exact rfl
  rw [← hX] at c1
  rw [← hY] at c2
  rw [show x.val = .agg X.toArray from by rw [hX]; rfl, show y.val = .agg Y.toArray from by rw [hY]; rfl] at P3
  have C1 := hide c1
  have C2 := hide c2
  have B2 := hide b2
  have HD := hide (hb.later b2)
  have BY := hide hB
  have PB := hide (psB_bytes hx hy 6 (bs.length : Int))
  obtain ⟨Z, hZ⟩ : ∃ Z, Z = psB x y 6 (bs.length : Int) := ⟨_, rfl⟩
  have LZ : Hid (Z.length = 12) := by rw [hZ]; exact rfl
  rw [← hZ] at PB P3 ⊢
  obtain ⟨M, hM⟩ : ∃ M, M = Z ++ bs := ⟨_, rfl⟩
  have BM : Hid (Bytes M) := by rw [hM]; exact PB.out.append BY.out
  have LM : Hid ((M.length : Int) ≤ 4611686018427387900) := by unfold Hid; rw [hM, List.length_append, LZ.out]; omega
  have LL : Hid (Z.length + bs.length ≤ 140737488355328) := by unfold Hid; rw [LZ.out]; omega
  have EX : Hid (Z ++ bs = M) := hM.symm
  rw [← hM]
  obtain ⟨n, hn⟩ : ∃ n, n = bs.length := ⟨_, rfl⟩
  have HN := hide hn
  rw [← hn] at hl HD P3 ⊢
  rw [show x.val = .agg #[.int .u8 x.a, .int .u8 x.b, .int .u8 x.c, .int .u8 x.d] from rfl, show y.val = .agg #[.int .u8 y.a, .int .u8 y.b, .int .u8 y.c, .int .u8 y.d] from rfl]
  have hs1' := hs1.symm
  have hs2' := hs2.symm
  have hw1' := hw1.symm
  have hw2' := hw2.symm
  clear c1 c2 b2 hs1 hs2 hw1 hw2 hX hY hb hB hn hx hy hZ hM
  go_enter Try.func36, Try.ntmps36
  go_upto_region 1 with fail
  clear hs1' hs2' hw1' hw2'
  go_wp2_with (first | refine wpList_loadA rfl 35 4 aggI sizI _ rfl s1 0 rfl X LX.out C1.out ?_ | refine wpList_loadA rfl 35 4 aggI sizI _ rfl s2 0 rfl Y LY.out C2.out ?_)
  refine P3.out.mono ?_
  rintro _ w3 ⟨v3, rfl, g3, b3⟩
  have G3 := hide g3
  obtain ⟨a3, c3, e3, _⟩ := g3.isB.shape
  rw [LZ.out] at e3
  subst e3
  have B3 := hide (later B2.out b3)
  have I3 := hide (HD.out.later b3)
  have Z3 : Hid (w2.heap.size ≤ w3.heap.size) := b3.size
  clear g3 b3 P3
  go_wp2_with (at_builtin; refine wpList_growB rfl (.tmp 13) (.tmp 14) rfl rfl w2.heap.size (.slice a3 12 c3) _ Z bs rfl rfl G3.out I3.out Z3.out LL.out M EX.out ?_)
  intro a4 c4 w4 _ g4 b4
  have B4 : Hid (Below w.heap.size w w4) := B3.out.trans (b4.mono B2.out.size)
  have S4 := hide (rSum_any _ M w4 g4.isB BM.out LM.out)
  clear g4 b4
  go_wp2_with fail
  refine S4.out.mono ?_
  rintro _ wx ⟨rfl, hw⟩
  rw [hw]
  clear hw wx S4
  go_wp2
  go_ret
  exact ⟨rfl, B4.out⟩
/-- 'make([]byte, n)' -/
theorem mkB (w : World) (n : Nat) (hn : n ≤ 1000000) : ∃ w', (Instr.makeSlice 24 (.int .i64 (n : Int)) (.int .i64 (n : Int))).run Try.prog w = .ok (.slice (some ⟨w.heap.size, 0, none⟩) n n) w' ∧ Gro w.heap.size w' (.slice (some ⟨w.heap.size, 0, none⟩) n n) (List.replicate n 0) ∧ Below w.heap.size w w' ∧ w.heap.size < w'.heap.size := by
  obtain ⟨i0, hi, hz0, hz1, hz2⟩ := info_parts info_u8
  obtain ⟨w', hr, ho, hg⟩ := run_makeSlice_full (P := Try.prog) w w.heap.size 24 5 i0 (.int .u8 0) 1 Try.underlying24 hi hz0 hz1 .i64 .i64 n (by omega) (by rw [hz2]; omega) (by unfold maxLen; omega) (Nat.le_refl _)
  have b : Below w.heap.size w w' := (Below.refl _ w).grown hg (Nat.le_refl _) (fun r e => by cases e)
  have e : (madeCells (Value.int IntKind.u8 0).cells (n * 1)).toList = (List.replicate n (0 : Int)).map (Value.int .u8) := by
    rw [Nat.mul_one, show (Value.int IntKind.u8 0).cells = #[.int .u8 0] from rfl, toList_madeCells_one, List.map_replicate]
  rw [e] at ho
  have ho2 : Gro w.heap.size w' (.slice (some ⟨w.heap.size, 0, none⟩) n n) (List.replicate n 0) := by
    unfold Gro
    rw [List.length_replicate]
    exact ho
  exact ⟨w', hr, ho2, b, by
    obtain ⟨_, ⟨e, _⟩ | ⟨g, cap, cur, e, hg, hh, _⟩⟩ := ho2
    · cases e
    · simp only [Value.slice.injEq, Option.some.injEq, Addr.mk.injEq] at e
      rw [e.1.1]
      exact (Array.getElem?_eq_some_iff.1 hh).1⟩
theorem exec_mkB {o : Oper} {w w' : World} {ev : Operand → Value} (x y : Operand) (n : Nat) (v : Value) (ho : o.op = .makeSlice 24 x y) (hx : ev x = .int .i64 (n : Int)) (hy : ev y = .int .i64 (n : Int)) (h : (Instr.makeSlice 24 (.int .i64 (n : Int)) (.int .i64 (n : Int))).run Try.prog w = .ok v w') : (execOp ev o).run Try.prog w = .ok (.value v) w' := by
  unfold execOp
  simp [ho, hx, hy, h]
section
variable {w : World} {ops : Array Oper} {rest : List Oper} {o : Oper} {a : Act} {Q : Exit → Act → World → Prop}
theorem wpList_runV {v : Value} {w' : World} (hgd : o.guard = none) (hr : (execOp a.eval o).run Try.prog w = .ok (.value v) w') (h : wpList Try.prog ops Q rest (a.put o.dst v) w') : wpList Try.prog ops Q (o :: rest) a w := by
  refine wpList_plain hgd fun K hK => ?_
  unfold Oper.wp
  rw [hr]
  exact hK _ _ h
end
end Go.Proofs.Ytggadchhkenipaa
