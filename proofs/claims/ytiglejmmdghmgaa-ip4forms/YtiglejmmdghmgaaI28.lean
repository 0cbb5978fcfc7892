
/-
  The document's answer for heads: Decode.
-/
import Derived.Test.YtiglejmmdghmgaaI27
namespace Go.Proofs.Ytiglejmmdghmgaa
open Go.RowKit Go.Shelf

theorem rAt2_val (v : Value) (bs : List Int) (k : Nat) (W : World) (hb : IsB W.heap.size W v bs) (hB : Bytes bs) (hl : (bs.length : Int) ≤ 4611686018427387904) (hk : k + 2 ≤ bs.length) :
    Calls Try.prog 31 #[v, .int .i64 (k : Int), .int .i64 2] W fun e W' => e = .returned (.int .i64 (w16 bs k)) ∧ W' = W :=
  (rAt2_any v bs (k : Int) W hb hB hl).mono (by
    rintro _ W' ⟨rfl, h⟩
    refine ⟨?_, h⟩
    have : stB bs.length (k : Int) 2 = true := by unfold stB; exact decide_eq_true ⟨by omega, by omega⟩
    rw [if_pos this, rd16_at hk])
section
variable {o : Oper} {w : World} {ev : Operand → Value}
theorem exec_quoA (x : Operand) (t : TypeId) (n : Int) (ho : o.op = .binOp .quo 3 x (.const (.int .i64 16384)) t) (hc : ∀ v, ev (.const v) = v) (hx : ev x = .int .i64 n) (h0 : 0 ≤ n) (h1 : n ≤ 100000) : (execOp ev o).run Try.prog w = .ok (.value (.int .i64 (n / 16384))) w := by
  have e : n.tdiv 16384 = n / 16384 := by rw [Int.tdiv_eq_ediv_of_nonneg h0]
  have e2 : IntKind.i64.wrap (n / 16384) = n / 16384 := wrapI _ (by omega) (by omega)
  unfold execOp
  simp [ho, hx, hc, go_sem, e, e2]
theorem exec_quoB (x : Operand) (t : TypeId) (n : Int) (ho : o.op = .binOp .quo 3 x (.const (.int .i64 8192)) t) (hc : ∀ v, ev (.const v) = v) (hx : ev x = .int .i64 n) (h0 : 0 ≤ n) (h1 : n ≤ 100000) : (execOp ev o).run Try.prog w = .ok (.value (.int .i64 (n / 8192))) w := by
  have e : n.tdiv 8192 = n / 8192 := by rw [Int.tdiv_eq_ediv_of_nonneg h0]
  have e2 : IntKind.i64.wrap (n / 8192) = n / 8192 := wrapI _ (by omega) (by omega)
  unfold execOp
  simp [ho, hx, hc, go_sem, e, e2]
theorem exec_rem2 (x : Operand) (t : TypeId) (n : Int) (ho : o.op = .binOp .rem 3 x (.const (.int .i64 2)) t) (hc : ∀ v, ev (.const v) = v) (hx : ev x = .int .i64 n) (h0 : 0 ≤ n) : (execOp ev o).run Try.prog w = .ok (.value (.int .i64 (n % 2))) w := by
  have e : n.tmod 2 = n % 2 := by rw [Int.tmod_eq_emod_of_nonneg h0]
  unfold execOp
  simp [ho, hx, hc, go_sem, e]
theorem exec_remB (x : Operand) (t : TypeId) (n : Int) (ho : o.op = .binOp .rem 3 x (.const (.int .i64 8192)) t) (hc : ∀ v, ev (.const v) = v) (hx : ev x = .int .i64 n) (h0 : 0 ≤ n) : (execOp ev o).run Try.prog w = .ok (.value (.int .i64 (n % 8192))) w := by
  have e : n.tmod 8192 = n % 8192 := by rw [Int.tmod_eq_emod_of_nonneg h0]
  unfold execOp
  simp [ho, hx, hc, go_sem, e]
end
theorem CellsAt.put {W : World} {s o : Nat} {vs : List Value} (h : CellsAt W s o vs) (p : Nat) (u : Value) (hp : p < vs.length) : CellsAt (W.setCell ⟨s, o + p, none⟩ u) s o (vs.set p u) := fun j v hv => by
  rw [List.getElem?_set] at hv
  by_cases e : p = j
  · subst e
    rw [if_pos rfl, if_pos hp] at hv
    cases hv
    exact World.cell?_setCell_same _ _ _ (h p _ (List.getElem?_eq_getElem hp))
  · rw [if_neg e] at hv
    rw [setCell_out (by omega)]
    exact h j v hv
/-- the addresses, byte by byte -/
def putK (bs : List Int) (Y : List Value) : Nat → List Value
  | 0 => Y
  | k + 1 => ((putK bs Y k).set k (.int .u8 (nb bs (12 + k)))).set (4 + k) (.int .u8 (nb bs (16 + k)))
theorem putK_len (bs : List Int) (Y : List Value) : ∀ k, (putK bs Y k).length = Y.length
  | 0 => rfl
  | k + 1 => by simp [putK, putK_len bs Y k]
/-- what the document's Decode tells -/
def RDe (n0 : Nat) (w : World) (bs : List Int) (e : Ending) (w' : World) : Prop :=
  Below n0 w w' ∧ ((faE bs ≠ 0 ∧ e = .returned (.tuple #[.agg (zP.cells (.slice none 0 0)).toArray, .slice none 0 0, .int .i64 (faE bs)])) ∨
    (faE bs = 0 ∧ ∃ ov dv, e = .returned (.tuple #[.agg ((deP bs).cells ov).toArray, dv, .int .i64 0]) ∧ IsB w'.heap.size w' ov ((hdL bs).drop 20) ∧ IsB w'.heap.size w' dv (deD bs)))
set_option maxRecDepth 100000 in
set_option maxHeartbeats 16000000 in
theorem rDecode_any (v : Value) (bs : List Int) (w : World) (hb : IsB w.heap.size w v bs) (hB : Bytes bs) (hl : (bs.length : Int) ≤ 4611686018427387900) :
    Calls Try.prog 13 #[v] w (RDe w.heap.size w bs) := by
  obtain ⟨a, cap, rfl, ncap⟩ := hb.shape
  obtain ⟨n, hn⟩ : ∃ n, n = bs.length := ⟨_, rfl⟩
  rw [← hn] at hb hl ncap ⊢
  have HN := hide hn
  have HB := hide hb
  have BY := hide hB
  obtain ⟨Z, hZ⟩ : ∃ Z, Z = zP.cells (.slice none 0 0) := ⟨_, rfl⟩
  have lZ : Hid (Z.length = 16) := by rw [hZ]; exact (rfl : (zP.cells (.slice none 0 0)).length = 16)
  have oZ : Hid (∀ u ∈ Z, u.oneCell' = true) := by rw [hZ]; exact pk_one _ _ _ _
  obtain ⟨s2, hs2⟩ : ∃ s2, s2 = w.heap.size := ⟨_, rfl⟩
  obtain ⟨w1, hw1⟩ : ∃ w1, w1 = w.alloc (.cells (zP.cells (.slice none 0 0)).toArray 26) := ⟨_, rfl⟩
  have b1 : Below w.heap.size w w1 := by rw [hw1]; exact later_alloc _ _
  have c1 : CellsAt w1 s2 0 Z := by rw [hw1, hs2, hZ]; exact CellsAt.new w _ _
  have f1 : ∀ y, w1.frozen? ⟨s2, y, none⟩ = false := fun y => by rw [hw1, hs2]; exact frozen_new w _ _ _
  have l1 : s2 < w1.heap.size := by rw [hw1, hs2]; simp
  obtain ⟨u0, w2, hu0, hw2, cu0, fu0, c5, b2, l5⟩ := newP w1 Z lZ.out
  obtain ⟨s5, hs5⟩ : ∃ s5, s5 = w1.heap.size := ⟨_, rfl⟩
  rw [← hs5] at hw2 cu0 fu0 c5 l5
  have CU := hide cu0
  have FU := hide fu0
  have HB2 : Hid (Below w.heap.size w w2) := b1.trans (b2.mono b1.size)
  have C2 : Hid (CellsAt w2 s2 0 Z) := c1.later l1 b2
  have F2 : Hid (∀ y, w2.frozen? ⟨s2, y, none⟩ = false) := fun y => (b2.frozen (p := ⟨s2, y, none⟩) l1).trans (f1 y)
  have L2 : s2 < w2.heap.size := Nat.lt_of_lt_of_le l1 b2.size
  have C5 := hide c5
  obtain ⟨E0, hE0⟩ : ∃ E0, E0 = faE bs := ⟨_, rfl⟩
  have HE0 := hide hE0
  have EE : Hid (E0 = if n < 20 then 3 else if nb bs 0 / 16 ≠ 4 then 90 else if hsI bs < 20 ∨ szI bs < hsI bs ∨ (n : Int) < szI bs then 91 else if csum (hdL bs) ≠ 0 then 5 else if okO ((hdL bs).drop 20) = false then 92 else if nb bs 8 = 0 then 93 else if 32768 ≤ w16 bs 6 then 1 else 0) := by unfold Hid; rw [hE0, hn]; rfl
  have HS2 := hide hs2
  obtain ⟨w6, hw6⟩ : ∃ w6, w6 = w2.setCells s2 0 Z := ⟨_, rfl⟩
  have bo := But.cells s2 Z 0 w2
  rw [← hw6] at bo
  have C6 : Hid (CellsAt w6 s2 0 Z) := by rw [hw6]; exact C2.out.stored rfl
  have FIN : Hid (∀ c : Int, E0 = c → c ≠ 0 → RDe w.heap.size w bs (.returned (.tuple #[.agg Z.toArray, .slice none 0 0, .int .i64 c])) w6) := fun c h1 h2 =>
    ⟨HB2.out.trans (bo.below HB2.out.size (fun g hg e => by have e : g = s2 := e; have := HS2.out; omega)), .inl ⟨by rw [← hE0, h1]; exact h2, by rw [← hE0, h1, hZ]⟩⟩
  have hw6' := hw6.symm
  have hw1' := hw1.symm
  have hs2' := hs2.symm
  have hu0' := hu0.symm
  have hs5' := hs5.symm
  have hw2' := hw2.symm
  have HZ := hide hZ
  simp only [zP, Pk.cells, I4.vals, zI, List.cons_append, List.nil_append] at hw1' hu0'
  have HX0 : Hid (∀ j, j < n → ∃ g off, a = some ⟨g, off, none⟩ ∧ w2.cell? ⟨g, off + j, none⟩ = some (.int .u8 (nb bs j))) := fun j hj => by
    obtain ⟨g, off, e, hc⟩ := isB_cells (HB.out.later HB2.out) (by rw [← hn]; omega)
    exact ⟨g, off, e, hc j (by rw [← hn]; exact hj)⟩
  clear hb hn hB b1 c1 f1 hE0 hw1 hs2 hu0 hs5 hw2 hw6 bo cu0 fu0 c5 b2 hZ l1 l5
  go_enter Try.func13, Try.ntmps13
  go_upto_region 2 with (first | refine wpList_val rfl (exec_zP rfl) ?_ | (refine wpList_storeA rfl 26 16 sizP _ _ rfl s5 0 rfl Z (zP.cells (.slice none 0 0)) (by rw [HZ.out]; rfl) lZ.out rfl CU.out FU.out oZ.out ?_; intro _; rw [hw2']))
  clear hw1' hu0' hw2' hs2' hs5' CU FU
  by_cases h20 : n < 20
  · have E1 : Hid (E0 = 3) := by unfold Hid; rw [EE.out, if_pos h20]
    have z : (n : Int) < 20 := by omega
    clear HX0 EE
    go_wp2_with (first | refine wpList_loadA rfl 26 16 aggP sizP _ rfl s5 0 rfl Z lZ.out C5.out ?_ | (refine wpList_storeA rfl 26 16 sizP _ _ rfl s2 0 rfl Z Z rfl lZ.out lZ.out C2.out F2.out oZ.out ?_; intro _; rw [hw6']))
    refine bodyPost_ret (v := .tuple #[.agg Z.toArray, .slice none 0 0, .int .i64 3]) (results_D rfl _ _ s2 _ _ _ rfl rfl rfl (run_loadVarA 26 16 aggP sizP s2 0 _ lZ.out C6.out)) rfl ?_
    exact FIN.out 3 E1.out (by decide)
  have z20 : ¬ (n : Int) < 20 := by omega
  obtain ⟨g, off, rfl⟩ : ∃ g off, a = some ⟨g, off, none⟩ := by obtain ⟨g, off, e, _⟩ := HX0.out 0 (by omega); exact ⟨g, off, e⟩
  have CX : Hid (∀ j, j < n → w2.cell? ⟨g, off + j, none⟩ = some (.int .u8 (nb bs j))) := fun j hj => by
    obtain ⟨g', off', e, h⟩ := HX0.out j hj
    cases e
    exact h
  have x0 := CX.out 0 (by omega)
  rw [Nat.add_zero] at x0
  obtain ⟨t0, ht0⟩ : ∃ t0, t0 = nb bs 0 := ⟨_, rfl⟩
  obtain ⟨t00, t01⟩ := nb_bd BY.out 0
  rw [← ht0] at x0 t00 t01
  have d0 : t0.tdiv 16 = t0 / 16 := by rw [Int.tdiv_eq_ediv_of_nonneg t00]
  have d1 : IntKind.u8.wrap (t0 / 16) = t0 / 16 := by rw [IntKind.wrap_u8]; omega
  have d2 : t0.tmod 16 = t0 % 16 := by rw [Int.tmod_eq_emod_of_nonneg t00]
  have d3 : IntKind.i64.wrap t0 = t0 := wrapI _ (by omega) (by omega)
  have EE2 : Hid (E0 = if t0 / 16 ≠ 4 then 90 else if hsI bs < 20 ∨ szI bs < hsI bs ∨ (n : Int) < szI bs then 91 else if csum (hdL bs) ≠ 0 then 5 else if okO ((hdL bs).drop 20) = false then 92 else if nb bs 8 = 0 then 93 else if 32768 ≤ w16 bs 6 then 1 else 0) := by unfold Hid; rw [EE.out, if_neg h20, ht0]
  have HT0 := hide ht0
  clear EE HX0 ht0
  by_cases h4 : t0 / 16 = 4
  case neg =>
    have E1 : Hid (E0 = 90) := by unfold Hid; rw [EE2.out, if_pos h4]
    have q : (t0 / 16 != 4) = true := by simpa using h4
    clear h4 EE2
    go_wp2_with (first | refine wpList_loadA rfl 26 16 aggP sizP _ rfl s5 0 rfl Z lZ.out C5.out ?_ | (refine wpList_storeA rfl 26 16 sizP _ _ rfl s2 0 rfl Z Z rfl lZ.out lZ.out C2.out F2.out oZ.out ?_; intro _; rw [hw6']))
    refine bodyPost_ret (v := .tuple #[.agg Z.toArray, .slice none 0 0, .int .i64 90]) (results_D rfl _ _ s2 _ _ _ rfl rfl rfl (run_loadVarA 26 16 aggP sizP s2 0 _ lZ.out C6.out)) rfl ?_
    exact FIN.out 90 E1.out (by decide)
  have q4 : (t0 / 16 != 4) = false := by rw [h4]; rfl
  have EE3 : Hid (E0 = if hsI bs < 20 ∨ szI bs < hsI bs ∨ (n : Int) < szI bs then 91 else if csum (hdL bs) ≠ 0 then 5 else if okO ((hdL bs).drop 20) = false then 92 else if nb bs 8 = 0 then 93 else if 32768 ≤ w16 bs 6 then 1 else 0) := by unfold Hid; rw [EE2.out, if_neg (by omega)]
  obtain ⟨h, hh⟩ : ∃ h : Nat, (h : Int) = t0 % 16 * 4 := ⟨(t0 % 16 * 4).toNat, by omega⟩
  have EH : Hid (hsI bs = (h : Int)) := by unfold Hid hsI; rw [← HT0.out, hh]
  have A2 := hide (rAt2_val (.slice (some ⟨g, off, none⟩) n cap) bs 2 w2 (HB.out.later HB2.out) BY.out (by rw [← HN.out]; omega) (by rw [← HN.out]; omega))
  obtain ⟨zz0, zz1⟩ := w16_bd BY.out 2
  obtain ⟨z, hz⟩ : ∃ z : Nat, (z : Int) = w16 bs 2 := ⟨(w16 bs 2).toNat, by omega⟩
  have EZ : Hid (szI bs = (z : Int)) := hz.symm
  rw [← hz] at A2 zz1
  have hh' := hh.symm
  have h60 : h ≤ 60 := by omega
  rw [EH.out, EZ.out] at EE3
  clear EE2 hz hh zz0 h4
  go_wp2_with fail
  clear d0 d1 d2 d3 q4 x0
  refine A2.out.mono ?_
  rintro _ w3 ⟨rfl, e3⟩
  rw [e3]
  clear e3 A2 hh'
  by_cases c1 : (h : Int) < 20
  · have E1 : Hid (E0 = 91) := by unfold Hid; rw [EE3.out, if_pos (by omega)]
    clear EE3
    go_wp2_with (first | refine wpList_loadA rfl 26 16 aggP sizP _ rfl s5 0 rfl Z lZ.out C5.out ?_ | (refine wpList_storeA rfl 26 16 sizP _ _ rfl s2 0 rfl Z Z rfl lZ.out lZ.out C2.out F2.out oZ.out ?_; intro _; rw [hw6']))
    refine bodyPost_ret (v := .tuple #[.agg Z.toArray, .slice none 0 0, .int .i64 91]) (results_D rfl _ _ s2 _ _ _ rfl rfl rfl (run_loadVarA 26 16 aggP sizP s2 0 _ lZ.out C6.out)) rfl ?_
    exact FIN.out 91 E1.out (by decide)
  by_cases c2 : (n : Int) < (h : Int)
  · have E1 : Hid (E0 = 91) := by unfold Hid; rw [EE3.out, if_pos (by omega)]
    clear EE3
    go_wp2_with (first | refine wpList_loadA rfl 26 16 aggP sizP _ rfl s5 0 rfl Z lZ.out C5.out ?_ | (refine wpList_storeA rfl 26 16 sizP _ _ rfl s2 0 rfl Z Z rfl lZ.out lZ.out C2.out F2.out oZ.out ?_; intro _; rw [hw6']))
    refine bodyPost_ret (v := .tuple #[.agg Z.toArray, .slice none 0 0, .int .i64 91]) (results_D rfl _ _ s2 _ _ _ rfl rfl rfl (run_loadVarA 26 16 aggP sizP s2 0 _ lZ.out C6.out)) rfl ?_
    exact FIN.out 91 E1.out (by decide)
  by_cases c3 : (z : Int) < (h : Int)
  · have E1 : Hid (E0 = 91) := by unfold Hid; rw [EE3.out, if_pos (by omega)]
    clear EE3
    go_wp2_with (first | refine wpList_loadA rfl 26 16 aggP sizP _ rfl s5 0 rfl Z lZ.out C5.out ?_ | (refine wpList_storeA rfl 26 16 sizP _ _ rfl s2 0 rfl Z Z rfl lZ.out lZ.out C2.out F2.out oZ.out ?_; intro _; rw [hw6']))
    refine bodyPost_ret (v := .tuple #[.agg Z.toArray, .slice none 0 0, .int .i64 91]) (results_D rfl _ _ s2 _ _ _ rfl rfl rfl (run_loadVarA 26 16 aggP sizP s2 0 _ lZ.out C6.out)) rfl ?_
    exact FIN.out 91 E1.out (by decide)
  by_cases c4 : (n : Int) < (z : Int)
  · have E1 : Hid (E0 = 91) := by unfold Hid; rw [EE3.out, if_pos (by omega)]
    clear EE3
    go_wp2_with (first | refine wpList_loadA rfl 26 16 aggP sizP _ rfl s5 0 rfl Z lZ.out C5.out ?_ | (refine wpList_storeA rfl 26 16 sizP _ _ rfl s2 0 rfl Z Z rfl lZ.out lZ.out C2.out F2.out oZ.out ?_; intro _; rw [hw6']))
    refine bodyPost_ret (v := .tuple #[.agg Z.toArray, .slice none 0 0, .int .i64 91]) (results_D rfl _ _ s2 _ _ _ rfl rfl rfl (run_loadVarA 26 16 aggP sizP s2 0 _ lZ.out C6.out)) rfl ?_
    exact FIN.out 91 E1.out (by decide)
  have EE4 : Hid (E0 = if csum (hdL bs) ≠ 0 then 5 else if okO ((hdL bs).drop 20) = false then 92 else if nb bs 8 = 0 then 93 else if 32768 ≤ w16 bs 6 then 1 else 0) := by unfold Hid; rw [EE3.out, if_neg (by omega)]
  have HDL : Hid (hdL bs = bs.take h) := by unfold Hid hdL; rw [EH.out, Int.toNat_natCast]
  have DED : Hid (deD bs = (bs.take z).drop h) := by unfold Hid deD; rw [EH.out, EZ.out, Int.toNat_natCast, Int.toNat_natCast]
  have IH : Hid (IsB w2.heap.size w2 (.slice (some ⟨g, off, none⟩) h cap) (bs.take h)) := (HB.out.later HB2.out).take h (by rw [← HN.out]; omega)
  have tl : Hid ((bs.take h).length = h) := by unfold Hid; rw [List.length_take, ← HN.out]; omega
  have SU := rSum_any _ _ w2 IH.out (BY.out.take h) (by rw [tl.out]; omega)
  obtain ⟨cs, hcs⟩ : ∃ cs, cs = csum (bs.take h) := ⟨_, rfl⟩
  rw [← hcs] at SU
  rw [HDL.out, ← hcs] at EE4
  have HSU := hide SU
  have hc : (h : Int) ≤ (cap : Int) := by omega
  have hc0 : (0 : Int) ≤ (h : Int) := by omega
  clear EE3 SU hcs
  go_wp2_with fail
  refine HSU.out.mono ?_
  rintro _ w3 ⟨rfl, e3⟩
  rw [e3]
  clear e3 HSU
  by_cases s0 : cs = 0
  case neg =>
    have E1 : Hid (E0 = 5) := by unfold Hid; rw [EE4.out, if_pos s0]
    have q : (cs != 0) = true := by simpa using s0
    clear s0 EE4
    go_wp2_with (first | refine wpList_loadA rfl 26 16 aggP sizP _ rfl s5 0 rfl Z lZ.out C5.out ?_ | (refine wpList_storeA rfl 26 16 sizP _ _ rfl s2 0 rfl Z Z rfl lZ.out lZ.out C2.out F2.out oZ.out ?_; intro _; rw [hw6']))
    refine bodyPost_ret (v := .tuple #[.agg Z.toArray, .slice none 0 0, .int .i64 5]) (results_D rfl _ _ s2 _ _ _ rfl rfl rfl (run_loadVarA 26 16 aggP sizP s2 0 _ lZ.out C6.out)) rfl ?_
    exact FIN.out 5 E1.out (by decide)
  have q5 : (cs != 0) = false := by rw [s0]; rfl
  have EE5 : Hid (E0 = if okO ((bs.take h).drop 20) = false then 92 else if nb bs 8 = 0 then 93 else if 32768 ≤ w16 bs 6 then 1 else 0) := by unfold Hid; rw [EE4.out, if_neg (by omega)]
  obtain ⟨ad, had⟩ : ∃ ad, ad = if cap = 20 then some (⟨g, off, none⟩ : Addr) else some ⟨g, off + 20, none⟩ := ⟨_, rfl⟩
  have HAD := hide had
  have IO : Hid (IsB w2.heap.size w2 (.slice ad (h - 20) (cap - 20)) ((bs.take h).drop 20)) := isB_drop IH.out 20 (by rw [tl.out]; omega) ad had
  have RR := rRight_any _ _ w2 IO.out ((BY.out.take h).drop 20) (by rw [List.length_drop, tl.out]; omega)
  obtain ⟨ok, hok⟩ : ∃ ok, ok = okO ((bs.take h).drop 20) := ⟨_, rfl⟩
  rw [← hok] at RR EE5
  have HRR := hide RR
  clear EE4 RR hok had s0
  go_wp2_with (refine wpList_val rfl (exec_slLH _ _ g off n cap 20 h 20 rfl ad HAD.out rfl (fun _ => rfl) rfl rfl (by omega) (by omega)) ?_)
  clear q5
  refine HRR.out.mono ?_
  rintro _ w3 ⟨rfl, e3⟩
  rw [e3]
  clear e3 HRR
  cases ok with
  | false =>
    have E1 : Hid (E0 = 92) := by unfold Hid; rw [EE5.out, if_pos rfl]
    clear EE5
    go_wp2_with (first | refine wpList_loadA rfl 26 16 aggP sizP _ rfl s5 0 rfl Z lZ.out C5.out ?_ | (refine wpList_storeA rfl 26 16 sizP _ _ rfl s2 0 rfl Z Z rfl lZ.out lZ.out C2.out F2.out oZ.out ?_; intro _; rw [hw6']))
    refine bodyPost_ret (v := .tuple #[.agg Z.toArray, .slice none 0 0, .int .i64 92]) (results_D rfl _ _ s2 _ _ _ rfl rfl rfl (run_loadVarA 26 16 aggP sizP s2 0 _ lZ.out C6.out)) rfl ?_
    exact FIN.out 92 E1.out (by decide)
  | true =>
    have EE6 : Hid (E0 = if nb bs 8 = 0 then 93 else if 32768 ≤ w16 bs 6 then 1 else 0) := by unfold Hid; rw [EE5.out, if_neg (by decide)]
    have x8 := CX.out 8 (by omega)
    have z8 : (8 : Int) < (n : Int) := by omega
    obtain ⟨t8, ht8⟩ : ∃ t8, t8 = nb bs 8 := ⟨_, rfl⟩
    rw [← ht8] at x8 EE6
    by_cases h8 : t8 = 0
    · have E1 : Hid (E0 = 93) := by unfold Hid; rw [EE6.out, if_pos h8]
      have q : (t8 == 0) = true := by rw [h8]; rfl
      clear EE5 EE6 h8 ht8
      go_wp2_with (first | refine wpList_loadA rfl 26 16 aggP sizP _ rfl s5 0 rfl Z lZ.out C5.out ?_ | (refine wpList_storeA rfl 26 16 sizP _ _ rfl s2 0 rfl Z Z rfl lZ.out lZ.out C2.out F2.out oZ.out ?_; intro _; rw [hw6']))
      refine bodyPost_ret (v := .tuple #[.agg Z.toArray, .slice none 0 0, .int .i64 93]) (results_D rfl _ _ s2 _ _ _ rfl rfl rfl (run_loadVarA 26 16 aggP sizP s2 0 _ lZ.out C6.out)) rfl ?_
      exact FIN.out 93 E1.out (by decide)
    have q8 : (t8 == 0) = false := by simpa using h8
    have EE7 : Hid (E0 = if 32768 ≤ w16 bs 6 then 1 else 0) := by unfold Hid; rw [EE6.out, if_neg h8]
    have A6 := hide (rAt2_val (.slice (some ⟨g, off, none⟩) n cap) bs 6 w2 (HB.out.later HB2.out) BY.out (by rw [← HN.out]; omega) (by rw [← HN.out]; omega))
    obtain ⟨f0, f1⟩ := w16_bd BY.out 6
    obtain ⟨q, hq⟩ : ∃ q, q = w16 bs 6 := ⟨_, rfl⟩
    rw [← hq] at A6 EE7 f0 f1
    have HQ := hide hq
    clear EE5 EE6 h8 ht8 hq
    go_wp2_with fail
    clear x8 q8
    refine A6.out.mono ?_
    rintro _ w3 ⟨rfl, e3⟩
    rw [e3]
    clear e3 A6
    by_cases h32 : 32768 ≤ q
    · have E1 : Hid (E0 = 1) := by unfold Hid; rw [EE7.out, if_pos h32]
      clear EE7
      go_wp2_with (first | refine wpList_loadA rfl 26 16 aggP sizP _ rfl s5 0 rfl Z lZ.out C5.out ?_ | (refine wpList_storeA rfl 26 16 sizP _ _ rfl s2 0 rfl Z Z rfl lZ.out lZ.out C2.out F2.out oZ.out ?_; intro _; rw [hw6']))
      refine bodyPost_ret (v := .tuple #[.agg Z.toArray, .slice none 0 0, .int .i64 1]) (results_D rfl _ _ s2 _ _ _ rfl rfl rfl (run_loadVarA 26 16 aggP sizP s2 0 _ lZ.out C6.out)) rfl ?_
      exact FIN.out 1 E1.out (by decide)
    have E1 : Hid (E0 = 0) := by unfold Hid; rw [EE7.out, if_neg h32]
    clear EE7
    have BW : ∀ W, Below w2.heap.size w2.drew W → Below w.heap.size w W := fun W hb => HB2.out.trans ((((Below.refl _ w2).drew).trans hb).mono HB2.out.size)
    have CXW : ∀ W, Below w.heap.size w W → ∀ j, j < n → W.cell? ⟨g, off + j, none⟩ = some (.int .u8 (nb bs j)) := fun W hb j hj => by
      obtain ⟨g', off', e, hcc⟩ := isB_cells (HB.out.later hb) (by rw [← HN.out]; omega)
      cases e
      exact hcc j (by rw [← HN.out]; exact hj)
    have CWH := hide CXW
    have IOW : ∀ W, Below w2.heap.size w2.drew W → IsB W.heap.size W (.slice ad (h - 20) (cap - 20)) ((bs.take h).drop 20) := fun W hb => IO.out.later (((Below.refl _ w2).drew).trans hb)
    have LO : ([] : List Int).length + ((bs.take h).drop 20).length ≤ 140737488355328 := by rw [List.length_drop, tl.out]; simp; omega
    have bn := fun k => nb_bd BY.out k
    obtain ⟨p0, hp0⟩ : ∃ p0 : Pk, p0 = ⟨zI, zI, nb bs 9, nb bs 8, w16 bs 4, nb bs 1, decide (q / 16384 % 2 = 1), decide (q / 8192 % 2 = 1), q % 8192 * 8, []⟩ := ⟨_, rfl⟩
    have HP0 := hide hp0
    clear hp0
    go_upto_region 20 with fail
    refine region_grow_store (w := w2) (fun i v W => match i with | 0 => v = .slice (some ⟨g, off, none⟩) n cap | 1 => v = .pointer (some ⟨g, off + 9, none⟩) | 2 => v = .int .u8 (nb bs 9) | 3 => v = .int .i64 (nb bs 9) | 4 => v = .slice (some ⟨g, off, none⟩) n cap | 5 => v = .pointer (some ⟨g, off + 8, none⟩) | 6 => v = .int .u8 (nb bs 8) | 7 => v = .int .i64 (nb bs 8) | 8 => v = .slice (some ⟨g, off, none⟩) n cap | 9 => v = .int .i64 (w16 bs 4) | 10 => v = .slice (some ⟨g, off, none⟩) n cap | 11 => v = .pointer (some ⟨g, off + 1, none⟩) | 12 => v = .int .u8 (nb bs 1) | 13 => v = .int .i64 (nb bs 1) | 14 => v = .int .i64 q | 15 => v = .int .i64 (q / 16384) | 16 => v = .int .i64 (q / 16384 % 2) | 17 => v = .bool (decide (q / 16384 % 2 = 1)) | 18 => v = .int .i64 q | 19 => v = .int .i64 (q / 8192) | 20 => v = .int .i64 (q / 8192 % 2) | 21 => v = .bool (decide (q / 8192 % 2 = 1)) | 22 => v = .int .i64 q | 23 => v = .int .i64 (q % 8192) | 24 => v = .int .i64 (q % 8192 * 8) | 25 => v = .slice (some ⟨g, off, none⟩) n cap | 26 => v = .int .i64 (h : Int) | 27 => v = .slice ad (h - 20) (cap - 20) | 28 => ∃ ad on oc, v = .slice ad on oc ∧ Gro w2.heap.size W v ((bs.take h).drop 20) | 29 => ∃ ad on oc, v = .agg (p0.cells (.slice ad on oc)).toArray ∧ Gro w2.heap.size W (.slice ad on oc) ((bs.take h).drop 20) | 30 => BoxN w2.heap.size W v (zP.cells (.slice none 0 0)) | _ => True) (by kernel_rfl) (by kernel_rfl) (by kernel_rfl) 31 rfl _ rfl rfl (no_guard (by kernel_rfl)) (fun i v W W' h hb => match i, h with | 0, h => h | 1, h => h | 2, h => h | 3, h => h | 4, h => h | 5, h => h | 6, h => h | 7, h => h | 8, h => h | 9, h => h | 10, h => h | 11, h => h | 12, h => h | 13, h => h | 14, h => h | 15, h => h | 16, h => h | 17, h => h | 18, h => h | 19, h => h | 20, h => h | 21, h => h | 22, h => h | 23, h => h | 24, h => h | 25, h => h | 26, h => h | 27, h => h | 28, h => (by obtain ⟨ad, on, oc, e, h⟩ := h; exact ⟨ad, on, oc, e, h.later hb⟩) | 29, h => (by obtain ⟨ad, on, oc, e, h⟩ := h; exact ⟨ad, on, oc, e, h.later hb⟩) | 30, h => BoxN.later h hb | _ + 31, h => h) ?_ ?_
    · intro listed a W hM hn i o ho hlt hr
      have B := hM.bel
      match i, ho, hlt, hr with
      | 0, ho, _, hr =>
        have u0 : a.eval (.tmp 0) = .slice (some ⟨g, off, none⟩) n cap := hM.keep (t := 0) (by kernel_rfl)
        exact Step.of rfl (.inl ⟨.slice (some ⟨g, off, none⟩) n cap, W, exec_move _ _ rfl u0, Below.refl _ _, rfl⟩) ho
      | 1, ho, _, hr =>
        have u74 := hM.use hr rfl (j := 0) (by kernel_rfl) rfl rfl
        have u74 : a.eval (.tmp 74) = .slice (some ⟨g, off, none⟩) n cap := u74
        exact Step.of rfl (.inl ⟨.pointer (some ⟨g, off + 9, none⟩), W, exec_ixC _ 9 g off n cap 9 rfl rfl (fun _ => rfl) u74 (by omega), Below.refl _ _, rfl⟩) ho
      | 2, ho, _, hr =>
        have u75 := hM.use hr rfl (j := 1) (by kernel_rfl) rfl rfl
        have u75 : a.eval (.tmp 75) = .pointer (some ⟨g, off + 9, none⟩) := u75
        exact Step.of rfl (.inl ⟨.int .u8 (nb bs 9), W, exec_load1 5 oneU _ rfl g (off + 9) u75 (.int .u8 (nb bs 9)) (CXW W (BW W B) 9 (by omega)), Below.refl _ _, rfl⟩) ho
      | 3, ho, _, hr =>
        have u76 := hM.use hr rfl (j := 2) (by kernel_rfl) rfl rfl
        have u76 : a.eval (.tmp 76) = .int .u8 (nb bs 9) := u76
        exact Step.of rfl (.inl ⟨.int .i64 (nb bs 9), W, exec_cvti _ _ rfl u76 (bn 9).1 (bn 9).2, Below.refl _ _, rfl⟩) ho
      | 4, ho, _, hr =>
        have u0 : a.eval (.tmp 0) = .slice (some ⟨g, off, none⟩) n cap := hM.keep (t := 0) (by kernel_rfl)
        exact Step.of rfl (.inl ⟨.slice (some ⟨g, off, none⟩) n cap, W, exec_move _ _ rfl u0, Below.refl _ _, rfl⟩) ho
      | 5, ho, _, hr =>
        have u78 := hM.use hr rfl (j := 4) (by kernel_rfl) rfl rfl
        have u78 : a.eval (.tmp 78) = .slice (some ⟨g, off, none⟩) n cap := u78
        exact Step.of rfl (.inl ⟨.pointer (some ⟨g, off + 8, none⟩), W, exec_ixC _ 8 g off n cap 8 rfl rfl (fun _ => rfl) u78 (by omega), Below.refl _ _, rfl⟩) ho
      | 6, ho, _, hr =>
        have u79 := hM.use hr rfl (j := 5) (by kernel_rfl) rfl rfl
        have u79 : a.eval (.tmp 79) = .pointer (some ⟨g, off + 8, none⟩) := u79
        exact Step.of rfl (.inl ⟨.int .u8 (nb bs 8), W, exec_load1 5 oneU _ rfl g (off + 8) u79 (.int .u8 (nb bs 8)) (CXW W (BW W B) 8 (by omega)), Below.refl _ _, rfl⟩) ho
      | 7, ho, _, hr =>
        have u80 := hM.use hr rfl (j := 6) (by kernel_rfl) rfl rfl
        have u80 : a.eval (.tmp 80) = .int .u8 (nb bs 8) := u80
        exact Step.of rfl (.inl ⟨.int .i64 (nb bs 8), W, exec_cvti _ _ rfl u80 (bn 8).1 (bn 8).2, Below.refl _ _, rfl⟩) ho
      | 8, ho, _, hr =>
        have u0 : a.eval (.tmp 0) = .slice (some ⟨g, off, none⟩) n cap := hM.keep (t := 0) (by kernel_rfl)
        exact Step.of rfl (.inl ⟨.slice (some ⟨g, off, none⟩) n cap, W, exec_move _ _ rfl u0, Below.refl _ _, rfl⟩) ho
      | 9, ho, _, hr =>
        have u82 := hM.use hr rfl (j := 8) (by kernel_rfl) rfl rfl
        have u82 : a.eval (.tmp 82) = .slice (some ⟨g, off, none⟩) n cap := u82
        refine Step.of rfl (.inr ⟨31, #[.slice (some ⟨g, off, none⟩) n cap, .int .i64 4, .int .i64 2], exec_callF _ _ _ _ rfl (map3 u82 rfl rfl) (enters_of Try.func31 (by kernel_rfl) rfl), ?_⟩) ho
        exact (rAt2_val _ bs 4 W (HB.out.later (BW W B)) BY.out (by rw [← HN.out]; omega) (by rw [← HN.out]; omega)).mono (by rintro _ W' ⟨rfl, e⟩; rw [e]; exact ⟨_, rfl, rfl, Below.refl _ _⟩)
      | 10, ho, _, hr =>
        have u0 : a.eval (.tmp 0) = .slice (some ⟨g, off, none⟩) n cap := hM.keep (t := 0) (by kernel_rfl)
        exact Step.of rfl (.inl ⟨.slice (some ⟨g, off, none⟩) n cap, W, exec_move _ _ rfl u0, Below.refl _ _, rfl⟩) ho
      | 11, ho, _, hr =>
        have u84 := hM.use hr rfl (j := 10) (by kernel_rfl) rfl rfl
        have u84 : a.eval (.tmp 84) = .slice (some ⟨g, off, none⟩) n cap := u84
        exact Step.of rfl (.inl ⟨.pointer (some ⟨g, off + 1, none⟩), W, exec_ixC _ 1 g off n cap 1 rfl rfl (fun _ => rfl) u84 (by omega), Below.refl _ _, rfl⟩) ho
      | 12, ho, _, hr =>
        have u85 := hM.use hr rfl (j := 11) (by kernel_rfl) rfl rfl
        have u85 : a.eval (.tmp 85) = .pointer (some ⟨g, off + 1, none⟩) := u85
        exact Step.of rfl (.inl ⟨.int .u8 (nb bs 1), W, exec_load1 5 oneU _ rfl g (off + 1) u85 (.int .u8 (nb bs 1)) (CXW W (BW W B) 1 (by omega)), Below.refl _ _, rfl⟩) ho
      | 13, ho, _, hr =>
        have u86 := hM.use hr rfl (j := 12) (by kernel_rfl) rfl rfl
        have u86 : a.eval (.tmp 86) = .int .u8 (nb bs 1) := u86
        exact Step.of rfl (.inl ⟨.int .i64 (nb bs 1), W, exec_cvti _ _ rfl u86 (bn 1).1 (bn 1).2, Below.refl _ _, rfl⟩) ho
      | 14, ho, _, hr =>
        have u9 : a.eval (.tmp 9) = .int .i64 q := hM.keep (t := 9) (by kernel_rfl)
        exact Step.of rfl (.inl ⟨.int .i64 q, W, exec_move _ _ rfl u9, Below.refl _ _, rfl⟩) ho
      | 15, ho, _, hr =>
        have u88 := hM.use hr rfl (j := 14) (by kernel_rfl) rfl rfl
        have u88 : a.eval (.tmp 88) = .int .i64 q := u88
        exact Step.of rfl (.inl ⟨.int .i64 (q / 16384), W, exec_quoA _ _ _ rfl (fun _ => rfl) u88 f0 (by omega), Below.refl _ _, rfl⟩) ho
      | 16, ho, _, hr =>
        have u89 := hM.use hr rfl (j := 15) (by kernel_rfl) rfl rfl
        have u89 : a.eval (.tmp 89) = .int .i64 (q / 16384) := u89
        exact Step.of rfl (.inl ⟨.int .i64 (q / 16384 % 2), W, exec_rem2 _ _ _ rfl (fun _ => rfl) u89 (by omega), Below.refl _ _, rfl⟩) ho
      | 17, ho, _, hr =>
        have u90 := hM.use hr rfl (j := 16) (by kernel_rfl) rfl rfl
        have u90 : a.eval (.tmp 90) = .int .i64 (q / 16384 % 2) := u90
        exact Step.of rfl (.inl ⟨.bool (decide (q / 16384 % 2 = 1)), W, exec_eqi _ _ _ _ _ _ rfl u90 rfl rfl, Below.refl _ _, rfl⟩) ho
      | 18, ho, _, hr =>
        have u9 : a.eval (.tmp 9) = .int .i64 q := hM.keep (t := 9) (by kernel_rfl)
        exact Step.of rfl (.inl ⟨.int .i64 q, W, exec_move _ _ rfl u9, Below.refl _ _, rfl⟩) ho
      | 19, ho, _, hr =>
        have u92 := hM.use hr rfl (j := 18) (by kernel_rfl) rfl rfl
        have u92 : a.eval (.tmp 92) = .int .i64 q := u92
        exact Step.of rfl (.inl ⟨.int .i64 (q / 8192), W, exec_quoB _ _ _ rfl (fun _ => rfl) u92 f0 (by omega), Below.refl _ _, rfl⟩) ho
      | 20, ho, _, hr =>
        have u93 := hM.use hr rfl (j := 19) (by kernel_rfl) rfl rfl
        have u93 : a.eval (.tmp 93) = .int .i64 (q / 8192) := u93
        exact Step.of rfl (.inl ⟨.int .i64 (q / 8192 % 2), W, exec_rem2 _ _ _ rfl (fun _ => rfl) u93 (by omega), Below.refl _ _, rfl⟩) ho
      | 21, ho, _, hr =>
        have u94 := hM.use hr rfl (j := 20) (by kernel_rfl) rfl rfl
        have u94 : a.eval (.tmp 94) = .int .i64 (q / 8192 % 2) := u94
        exact Step.of rfl (.inl ⟨.bool (decide (q / 8192 % 2 = 1)), W, exec_eqi _ _ _ _ _ _ rfl u94 rfl rfl, Below.refl _ _, rfl⟩) ho
      | 22, ho, _, hr =>
        have u9 : a.eval (.tmp 9) = .int .i64 q := hM.keep (t := 9) (by kernel_rfl)
        exact Step.of rfl (.inl ⟨.int .i64 q, W, exec_move _ _ rfl u9, Below.refl _ _, rfl⟩) ho
      | 23, ho, _, hr =>
        have u96 := hM.use hr rfl (j := 22) (by kernel_rfl) rfl rfl
        have u96 : a.eval (.tmp 96) = .int .i64 q := u96
        exact Step.of rfl (.inl ⟨.int .i64 (q % 8192), W, exec_remB _ _ _ rfl (fun _ => rfl) u96 f0, Below.refl _ _, rfl⟩) ho
      | 24, ho, _, hr =>
        have u97 := hM.use hr rfl (j := 23) (by kernel_rfl) rfl rfl
        have u97 : a.eval (.tmp 97) = .int .i64 (q % 8192) := u97
        exact Step.of rfl (.inl ⟨.int .i64 (q % 8192 * 8), W, exec_mulc _ _ _ _ rfl (fun _ => rfl) u97 (by omega) (by omega), Below.refl _ _, rfl⟩) ho
      | 25, ho, _, hr =>
        have u0 : a.eval (.tmp 0) = .slice (some ⟨g, off, none⟩) n cap := hM.keep (t := 0) (by kernel_rfl)
        exact Step.of rfl (.inl ⟨.slice (some ⟨g, off, none⟩) n cap, W, exec_move _ _ rfl u0, Below.refl _ _, rfl⟩) ho
      | 26, ho, _, hr =>
        have u6 : a.eval (.tmp 6) = .int .i64 (h : Int) := hM.keep (t := 6) (by kernel_rfl)
        exact Step.of rfl (.inl ⟨.int .i64 (h : Int), W, exec_move _ _ rfl u6, Below.refl _ _, rfl⟩) ho
      | 27, ho, _, hr =>
        have u99 := hM.use hr rfl (j := 25) (by kernel_rfl) rfl rfl
        have u99 : a.eval (.tmp 99) = .slice (some ⟨g, off, none⟩) n cap := u99
        have u100 := hM.use hr rfl (j := 26) (by kernel_rfl) rfl rfl
        have u100 : a.eval (.tmp 100) = .int .i64 (h : Int) := u100
        exact Step.of rfl (.inl ⟨.slice ad (h - 20) (cap - 20), W, exec_slLH _ _ g off n cap 20 h 20 rfl ad HAD.out rfl (fun _ => rfl) u99 u100 (by omega) (by omega), Below.refl _ _, rfl⟩) ho
      | 28, ho, _, hr =>
        have u101 := hM.use hr rfl (j := 27) (by kernel_rfl) rfl rfl
        have u101 : a.eval (.tmp 101) = .slice ad (h - 20) (cap - 20) := u101
        refine Step.of rfl (.inl ?_) ho
        exact (by obtain ⟨v', w', hrun, hg, hb⟩ := append_runB (B := W.heap.size) (W := W) (v := .slice none 0 0) (xs := []) (Gro.nil _ _) (IOW W B) (Nat.le_refl _) LO; obtain ⟨ad', oc, e, _⟩ := hg.isB.shape; exact ⟨v', w', exec_app _ _ _ _ rfl _ _ rfl u101 _ rfl hrun, hb, ad', _, oc, e, hg.low hn⟩)
      | 29, ho, _, hr =>
        have u77 := hM.use hr rfl (j := 3) (by kernel_rfl) rfl rfl
        have u77 : a.eval (.tmp 77) = .int .i64 (nb bs 9) := u77
        have u81 := hM.use hr rfl (j := 7) (by kernel_rfl) rfl rfl
        have u81 : a.eval (.tmp 81) = .int .i64 (nb bs 8) := u81
        have u83 := hM.use hr rfl (j := 9) (by kernel_rfl) rfl rfl
        have u83 : (fun v W => v = .int .i64 (w16 bs 4)) (a.eval (.tmp 83)) W := u83
        have u87 := hM.use hr rfl (j := 13) (by kernel_rfl) rfl rfl
        have u87 : a.eval (.tmp 87) = .int .i64 (nb bs 1) := u87
        have u91 := hM.use hr rfl (j := 17) (by kernel_rfl) rfl rfl
        have u91 : a.eval (.tmp 91) = .bool (decide (q / 16384 % 2 = 1)) := u91
        have u95 := hM.use hr rfl (j := 21) (by kernel_rfl) rfl rfl
        have u95 : a.eval (.tmp 95) = .bool (decide (q / 8192 % 2 = 1)) := u95
        have u98 := hM.use hr rfl (j := 24) (by kernel_rfl) rfl rfl
        have u98 : a.eval (.tmp 98) = .int .i64 (q % 8192 * 8) := u98
        have u102 := hM.use hr rfl (j := 28) (by kernel_rfl) rfl rfl
        have u102 : (fun v W => ∃ ad on oc, v = .slice ad on oc ∧ Gro w2.heap.size W v ((bs.take h).drop 20)) (a.eval (.tmp 102)) W := u102
        refine Step.of rfl (.inl ?_) ho
        exact (by obtain ⟨ad, on, oc, e, hg⟩ := u102; exact ⟨_, W, exec_bldP _ _ _ _ _ _ _ _ _ _ _ _ _ _ _ ad on oc rfl u77 u81 u83 u87 u91 u95 u98 e, Below.refl _ _, ad, on, oc, by rw [HP0.out], by rw [← e]; exact hg⟩)
      | 30, ho, _, hr =>
        refine Step.of rfl (.inl ?_) ho
        exact box_made rfl hn
      | n + 31, _, hlt, _ => exact absurd hlt (by omega)
    intro listed a W hM hl
    have B := hM.bel
    have p74 : a.tmps.getD 74 undef = .slice (some ⟨g, off, none⟩) n cap := hM.got 0 _ _ rfl (hl 0 (by decide)) rfl
    have p75 : a.tmps.getD 75 undef = .pointer (some ⟨g, off + 9, none⟩) := hM.got 1 _ _ rfl (hl 1 (by decide)) rfl
    have p76 : a.tmps.getD 76 undef = .int .u8 (nb bs 9) := hM.got 2 _ _ rfl (hl 2 (by decide)) rfl
    have p77 : a.tmps.getD 77 undef = .int .i64 (nb bs 9) := hM.got 3 _ _ rfl (hl 3 (by decide)) rfl
    have p78 : a.tmps.getD 78 undef = .slice (some ⟨g, off, none⟩) n cap := hM.got 4 _ _ rfl (hl 4 (by decide)) rfl
    have p79 : a.tmps.getD 79 undef = .pointer (some ⟨g, off + 8, none⟩) := hM.got 5 _ _ rfl (hl 5 (by decide)) rfl
    have p80 : a.tmps.getD 80 undef = .int .u8 (nb bs 8) := hM.got 6 _ _ rfl (hl 6 (by decide)) rfl
    have p81 : a.tmps.getD 81 undef = .int .i64 (nb bs 8) := hM.got 7 _ _ rfl (hl 7 (by decide)) rfl
    have p82 : a.tmps.getD 82 undef = .slice (some ⟨g, off, none⟩) n cap := hM.got 8 _ _ rfl (hl 8 (by decide)) rfl
    have p83 : (fun v W => v = .int .i64 (w16 bs 4)) (a.tmps.getD 83 undef) W := hM.got 9 _ _ rfl (hl 9 (by decide)) rfl
    have p84 : a.tmps.getD 84 undef = .slice (some ⟨g, off, none⟩) n cap := hM.got 10 _ _ rfl (hl 10 (by decide)) rfl
    have p85 : a.tmps.getD 85 undef = .pointer (some ⟨g, off + 1, none⟩) := hM.got 11 _ _ rfl (hl 11 (by decide)) rfl
    have p86 : a.tmps.getD 86 undef = .int .u8 (nb bs 1) := hM.got 12 _ _ rfl (hl 12 (by decide)) rfl
    have p87 : a.tmps.getD 87 undef = .int .i64 (nb bs 1) := hM.got 13 _ _ rfl (hl 13 (by decide)) rfl
    have p88 : a.tmps.getD 88 undef = .int .i64 q := hM.got 14 _ _ rfl (hl 14 (by decide)) rfl
    have p89 : a.tmps.getD 89 undef = .int .i64 (q / 16384) := hM.got 15 _ _ rfl (hl 15 (by decide)) rfl
    have p90 : a.tmps.getD 90 undef = .int .i64 (q / 16384 % 2) := hM.got 16 _ _ rfl (hl 16 (by decide)) rfl
    have p91 : a.tmps.getD 91 undef = .bool (decide (q / 16384 % 2 = 1)) := hM.got 17 _ _ rfl (hl 17 (by decide)) rfl
    have p92 : a.tmps.getD 92 undef = .int .i64 q := hM.got 18 _ _ rfl (hl 18 (by decide)) rfl
    have p93 : a.tmps.getD 93 undef = .int .i64 (q / 8192) := hM.got 19 _ _ rfl (hl 19 (by decide)) rfl
    have p94 : a.tmps.getD 94 undef = .int .i64 (q / 8192 % 2) := hM.got 20 _ _ rfl (hl 20 (by decide)) rfl
    have p95 : a.tmps.getD 95 undef = .bool (decide (q / 8192 % 2 = 1)) := hM.got 21 _ _ rfl (hl 21 (by decide)) rfl
    have p96 : a.tmps.getD 96 undef = .int .i64 q := hM.got 22 _ _ rfl (hl 22 (by decide)) rfl
    have p97 : a.tmps.getD 97 undef = .int .i64 (q % 8192) := hM.got 23 _ _ rfl (hl 23 (by decide)) rfl
    have p98 : a.tmps.getD 98 undef = .int .i64 (q % 8192 * 8) := hM.got 24 _ _ rfl (hl 24 (by decide)) rfl
    have p99 : a.tmps.getD 99 undef = .slice (some ⟨g, off, none⟩) n cap := hM.got 25 _ _ rfl (hl 25 (by decide)) rfl
    have p100 : a.tmps.getD 100 undef = .int .i64 (h : Int) := hM.got 26 _ _ rfl (hl 26 (by decide)) rfl
    have p101 : a.tmps.getD 101 undef = .slice ad (h - 20) (cap - 20) := hM.got 27 _ _ rfl (hl 27 (by decide)) rfl
    have p102 : (fun v W => ∃ ad on oc, v = .slice ad on oc ∧ Gro w2.heap.size W v ((bs.take h).drop 20)) (a.tmps.getD 102 undef) W := hM.got 28 _ _ rfl (hl 28 (by decide)) rfl
    have p103 : (fun v W => ∃ ad on oc, v = .agg (p0.cells (.slice ad on oc)).toArray ∧ Gro w2.heap.size W (.slice ad on oc) ((bs.take h).drop 20)) (a.tmps.getD 103 undef) W := hM.got 29 _ _ rfl (hl 29 (by decide)) rfl
    have p10 : (fun v W => BoxN w2.heap.size W v (zP.cells (.slice none 0 0))) (a.tmps.getD 10 undef) W := hM.got 30 _ _ rfl (hl 30 (by decide)) rfl
    obtain ⟨ao, on, oc, e33, g33⟩ := p103
    obtain ⟨s4, e4, h41, h42, h43, h44, h45⟩ := p10
    refine ⟨W.setCells s4 0 (p0.cells (.slice ao on oc)), exec_storeA 26 16 sizP (.tmp 10) (.tmp 103) rfl s4 0 e4 _ (zP.cells (.slice none 0 0)) e33 rfl rfl h43 h44 (pk_one _ _ _ _), ?_⟩
    rw [hM.lit [74, 75, 76, 77, 78, 79, 80, 81, 82, 83, 84, 85, 86, 87, 88, 89, 90, 91, 92, 93, 94, 95, 96, 97, 98, 99, 100, 101, 102, 103, 10] (by kernel_rfl)]
    clear hM hl
    simp only [fill, List.foldl_cons, List.foldl_nil, Act.put, List.setIfInBounds_toArray, List.set_cons_zero, List.set_cons_succ]
    clear p74
    generalize a.tmps.getD 74 undef = x74 at *
    clear p75
    generalize a.tmps.getD 75 undef = x75 at *
    clear p76
    generalize a.tmps.getD 76 undef = x76 at *
    clear p77
    generalize a.tmps.getD 77 undef = x77 at *
    clear p78
    generalize a.tmps.getD 78 undef = x78 at *
    clear p79
    generalize a.tmps.getD 79 undef = x79 at *
    clear p80
    generalize a.tmps.getD 80 undef = x80 at *
    clear p81
    generalize a.tmps.getD 81 undef = x81 at *
    clear p82
    generalize a.tmps.getD 82 undef = x82 at *
    generalize a.tmps.getD 83 undef = x83 at *
    clear p84
    generalize a.tmps.getD 84 undef = x84 at *
    clear p85
    generalize a.tmps.getD 85 undef = x85 at *
    clear p86
    generalize a.tmps.getD 86 undef = x86 at *
    clear p87
    generalize a.tmps.getD 87 undef = x87 at *
    clear p88
    generalize a.tmps.getD 88 undef = x88 at *
    clear p89
    generalize a.tmps.getD 89 undef = x89 at *
    clear p90
    generalize a.tmps.getD 90 undef = x90 at *
    clear p91
    generalize a.tmps.getD 91 undef = x91 at *
    clear p92
    generalize a.tmps.getD 92 undef = x92 at *
    clear p93
    generalize a.tmps.getD 93 undef = x93 at *
    clear p94
    generalize a.tmps.getD 94 undef = x94 at *
    clear p95
    generalize a.tmps.getD 95 undef = x95 at *
    clear p96
    generalize a.tmps.getD 96 undef = x96 at *
    clear p97
    generalize a.tmps.getD 97 undef = x97 at *
    clear p98
    generalize a.tmps.getD 98 undef = x98 at *
    clear p99
    generalize a.tmps.getD 99 undef = x99 at *
    clear p100
    generalize a.tmps.getD 100 undef = x100 at *
    clear p101
    generalize a.tmps.getD 101 undef = x101 at *
    generalize a.tmps.getD 102 undef = x102 at *
    generalize a.tmps.getD 103 undef = x103 at *
    generalize a.tmps.getD 10 undef = x10 at *
    have B2 : Below w2.heap.size w2 W := ((Below.refl _ w2).drew).trans B
    have bo := But.cells s4 (p0.cells (.slice ao on oc)) 0 W
    have sep := g33.apart h45
    obtain ⟨w7, hw7⟩ : ∃ w7, w7 = W.setCells s4 0 (p0.cells (.slice ao on oc)) := ⟨_, rfl⟩
    rw [← hw7] at bo ⊢
    have G7 : Hid (Gro w2.heap.size w7 (.slice ao on oc) ((bs.take h).drop 20)) := g33.off bo sep
    have SEP := hide sep
    have C7 : Hid (CellsAt w7 s4 0 (p0.cells (.slice ao on oc))) := by rw [hw7]; exact h43.stored rfl
    have F7 : Hid (∀ y, w7.frozen? ⟨s4, y, none⟩ = false) := fun y => by rw [hw7, World.frozen?_setCells]; exact h44 y
    have L7 : s4 < w7.heap.size := by rw [hw7, size_setCells]; exact h42
    have B7 : Hid (Below w2.heap.size w2 w7) := B2.trans (bo.below B2.size (fun g hg e => by have e : g = s4 := e; omega))
    subst e4
    clear p83 p102 e33 g33 h43 h44 h45 B B2 bo sep hw7 CXW IOW BW LO bn h42 W
    go_wp2
    go_loopw [11] (fun v11 wr => ∃ k : Nat, v11 = .int .i64 (k : Int) ∧ k ≤ 4 ∧ Hid (CellsAt wr s4 0 (putK bs (p0.cells (.slice ao on oc)) k)) ∧ Hid (∀ y, wr.frozen? ⟨s4, y, none⟩ = false) ∧ Hid (But (Only s4) w7 wr)) (fun v11 _ => 4 - (intOf v11).toNat)
    case atStart => exact ⟨0, rfl, by omega, C7, F7, But.refl _ _⟩
    case round =>
      obtain ⟨k, rfl, hk, CK, FK, BK⟩ := hrel
      have hk5 : k = 0 ∨ k = 1 ∨ k = 2 ∨ k = 3 ∨ k = 4 := by omega
      clear hk
      rcases hk5 with rfl | rfl | rfl | rfl | rfl
      · have BWr : Below w2.heap.size w2 wr := B7.out.trans (BK.out.below B7.out.size (fun g hg e => by have e : g = s4 := e; omega))
        have BWw : Below w.heap.size w wr := HB2.out.trans (BWr.mono HB2.out.size)
        have xa := CWH.out wr BWw (12) (by omega)
        obtain ⟨wa, hwa⟩ : ∃ wa, wa = wr.setCell ⟨s4, 0, none⟩ (.int .u8 (nb bs (12))) := ⟨_, rfl⟩
        have boa : But (Only s4) wr wa := by rw [hwa]; exact (But.refl (Only s4) wr).cellb (b := s4) rfl 0 _
        have BWa : Below w2.heap.size w2 wa := BWr.trans (boa.below BWr.size (fun g hg e => by have e : g = s4 := e; omega))
        have xb := CWH.out wa (HB2.out.trans (BWa.mono HB2.out.size)) (16) (by omega)
        obtain ⟨wb, hwb⟩ : ∃ wb, wb = wa.setCell ⟨s4, 4, none⟩ (.int .u8 (nb bs (16))) := ⟨_, rfl⟩
        have bob : But (Only s4) wa wb := by rw [hwb]; exact (But.refl (Only s4) wa).cellb (b := s4) rfl (4) _
        have ca := CK.out.put 0 (.int .u8 (nb bs (12))) (by rw [putK_len, Pk.cells_len]; decide)
        rw [Nat.zero_add, ← hwa] at ca
        have cb := ca.put (4) (.int .u8 (nb bs (16))) (by rw [List.length_set, putK_len, Pk.cells_len]; decide)
        rw [Nat.zero_add, ← hwb] at cb
        obtain ⟨y1, e1⟩ : ∃ u, wr.cell? ⟨s4, 0, none⟩ = some u := ⟨_, CK.out 0 _ rfl⟩
        obtain ⟨y2, e2⟩ : ∃ u, wa.cell? ⟨s4, 4, none⟩ = some u := ⟨_, ca (4) _ rfl⟩
        have fa := FK.out 0
        have fb : wa.frozen? ⟨s4, 4, none⟩ = false := by rw [hwa, World.frozen?_setCell]; exact FK.out (4)
        have FB : Hid (∀ y, wb.frozen? ⟨s4, y, none⟩ = false) := fun y => by rw [hwb, World.frozen?_setCell, hwa, World.frozen?_setCell]; exact FK.out y
        have CB : Hid (CellsAt wb s4 0 (putK bs (p0.cells (.slice ao on oc)) (1))) := cb
        have BB : Hid (But (Only s4) w7 wb) := BK.out.trans (boa.trans bob)
        have hwa' := hwa.symm
        have hwb' := hwb.symm
        have z12 : ((12 : Nat) : Int) < (n : Int) := by omega
        have z16 : ((16 : Nat) : Int) < (n : Int) := by omega
        clear ca cb boa bob BWr BWw BWa hwa hwb CK BK FK
        go_wp2
        go_roundw
        case rel => exact ⟨1, rfl, by omega, CB, FB, BB⟩
        case measure => simp [intOf]
      · have BWr : Below w2.heap.size w2 wr := B7.out.trans (BK.out.below B7.out.size (fun g hg e => by have e : g = s4 := e; omega))
        have BWw : Below w.heap.size w wr := HB2.out.trans (BWr.mono HB2.out.size)
        have xa := CWH.out wr BWw (13) (by omega)
        obtain ⟨wa, hwa⟩ : ∃ wa, wa = wr.setCell ⟨s4, 1, none⟩ (.int .u8 (nb bs (13))) := ⟨_, rfl⟩
        have boa : But (Only s4) wr wa := by rw [hwa]; exact (But.refl (Only s4) wr).cellb (b := s4) rfl 1 _
        have BWa : Below w2.heap.size w2 wa := BWr.trans (boa.below BWr.size (fun g hg e => by have e : g = s4 := e; omega))
        have xb := CWH.out wa (HB2.out.trans (BWa.mono HB2.out.size)) (17) (by omega)
        obtain ⟨wb, hwb⟩ : ∃ wb, wb = wa.setCell ⟨s4, 5, none⟩ (.int .u8 (nb bs (17))) := ⟨_, rfl⟩
        have bob : But (Only s4) wa wb := by rw [hwb]; exact (But.refl (Only s4) wa).cellb (b := s4) rfl (5) _
        have ca := CK.out.put 1 (.int .u8 (nb bs (13))) (by rw [putK_len, Pk.cells_len]; decide)
        rw [Nat.zero_add, ← hwa] at ca
        have cb := ca.put (5) (.int .u8 (nb bs (17))) (by rw [List.length_set, putK_len, Pk.cells_len]; decide)
        rw [Nat.zero_add, ← hwb] at cb
        obtain ⟨y1, e1⟩ : ∃ u, wr.cell? ⟨s4, 1, none⟩ = some u := ⟨_, CK.out 1 _ rfl⟩
        obtain ⟨y2, e2⟩ : ∃ u, wa.cell? ⟨s4, 5, none⟩ = some u := ⟨_, ca (5) _ rfl⟩
        have fa := FK.out 1
        have fb : wa.frozen? ⟨s4, 5, none⟩ = false := by rw [hwa, World.frozen?_setCell]; exact FK.out (5)
        have FB : Hid (∀ y, wb.frozen? ⟨s4, y, none⟩ = false) := fun y => by rw [hwb, World.frozen?_setCell, hwa, World.frozen?_setCell]; exact FK.out y
        have CB : Hid (CellsAt wb s4 0 (putK bs (p0.cells (.slice ao on oc)) (2))) := cb
        have BB : Hid (But (Only s4) w7 wb) := BK.out.trans (boa.trans bob)
        have hwa' := hwa.symm
        have hwb' := hwb.symm
        have z12 : ((13 : Nat) : Int) < (n : Int) := by omega
        have z16 : ((17 : Nat) : Int) < (n : Int) := by omega
        clear ca cb boa bob BWr BWw BWa hwa hwb CK BK FK
        go_wp2
        go_roundw
        case rel => exact ⟨2, rfl, by omega, CB, FB, BB⟩
        case measure => simp [intOf]
      · have BWr : Below w2.heap.size w2 wr := B7.out.trans (BK.out.below B7.out.size (fun g hg e => by have e : g = s4 := e; omega))
        have BWw : Below w.heap.size w wr := HB2.out.trans (BWr.mono HB2.out.size)
        have xa := CWH.out wr BWw (14) (by omega)
        obtain ⟨wa, hwa⟩ : ∃ wa, wa = wr.setCell ⟨s4, 2, none⟩ (.int .u8 (nb bs (14))) := ⟨_, rfl⟩
        have boa : But (Only s4) wr wa := by rw [hwa]; exact (But.refl (Only s4) wr).cellb (b := s4) rfl 2 _
        have BWa : Below w2.heap.size w2 wa := BWr.trans (boa.below BWr.size (fun g hg e => by have e : g = s4 := e; omega))
        have xb := CWH.out wa (HB2.out.trans (BWa.mono HB2.out.size)) (18) (by omega)
        obtain ⟨wb, hwb⟩ : ∃ wb, wb = wa.setCell ⟨s4, 6, none⟩ (.int .u8 (nb bs (18))) := ⟨_, rfl⟩
        have bob : But (Only s4) wa wb := by rw [hwb]; exact (But.refl (Only s4) wa).cellb (b := s4) rfl (6) _
        have ca := CK.out.put 2 (.int .u8 (nb bs (14))) (by rw [putK_len, Pk.cells_len]; decide)
        rw [Nat.zero_add, ← hwa] at ca
        have cb := ca.put (6) (.int .u8 (nb bs (18))) (by rw [List.length_set, putK_len, Pk.cells_len]; decide)
        rw [Nat.zero_add, ← hwb] at cb
        obtain ⟨y1, e1⟩ : ∃ u, wr.cell? ⟨s4, 2, none⟩ = some u := ⟨_, CK.out 2 _ rfl⟩
        obtain ⟨y2, e2⟩ : ∃ u, wa.cell? ⟨s4, 6, none⟩ = some u := ⟨_, ca (6) _ rfl⟩
        have fa := FK.out 2
        have fb : wa.frozen? ⟨s4, 6, none⟩ = false := by rw [hwa, World.frozen?_setCell]; exact FK.out (6)
        have FB : Hid (∀ y, wb.frozen? ⟨s4, y, none⟩ = false) := fun y => by rw [hwb, World.frozen?_setCell, hwa, World.frozen?_setCell]; exact FK.out y
        have CB : Hid (CellsAt wb s4 0 (putK bs (p0.cells (.slice ao on oc)) (3))) := cb
        have BB : Hid (But (Only s4) w7 wb) := BK.out.trans (boa.trans bob)
        have hwa' := hwa.symm
        have hwb' := hwb.symm
        have z12 : ((14 : Nat) : Int) < (n : Int) := by omega
        have z16 : ((18 : Nat) : Int) < (n : Int) := by omega
        clear ca cb boa bob BWr BWw BWa hwa hwb CK BK FK
        go_wp2
        go_roundw
        case rel => exact ⟨3, rfl, by omega, CB, FB, BB⟩
        case measure => simp [intOf]
      · have BWr : Below w2.heap.size w2 wr := B7.out.trans (BK.out.below B7.out.size (fun g hg e => by have e : g = s4 := e; omega))
        have BWw : Below w.heap.size w wr := HB2.out.trans (BWr.mono HB2.out.size)
        have xa := CWH.out wr BWw (15) (by omega)
        obtain ⟨wa, hwa⟩ : ∃ wa, wa = wr.setCell ⟨s4, 3, none⟩ (.int .u8 (nb bs (15))) := ⟨_, rfl⟩
        have boa : But (Only s4) wr wa := by rw [hwa]; exact (But.refl (Only s4) wr).cellb (b := s4) rfl 3 _
        have BWa : Below w2.heap.size w2 wa := BWr.trans (boa.below BWr.size (fun g hg e => by have e : g = s4 := e; omega))
        have xb := CWH.out wa (HB2.out.trans (BWa.mono HB2.out.size)) (19) (by omega)
        obtain ⟨wb, hwb⟩ : ∃ wb, wb = wa.setCell ⟨s4, 7, none⟩ (.int .u8 (nb bs (19))) := ⟨_, rfl⟩
        have bob : But (Only s4) wa wb := by rw [hwb]; exact (But.refl (Only s4) wa).cellb (b := s4) rfl (7) _
        have ca := CK.out.put 3 (.int .u8 (nb bs (15))) (by rw [putK_len, Pk.cells_len]; decide)
        rw [Nat.zero_add, ← hwa] at ca
        have cb := ca.put (7) (.int .u8 (nb bs (19))) (by rw [List.length_set, putK_len, Pk.cells_len]; decide)
        rw [Nat.zero_add, ← hwb] at cb
        obtain ⟨y1, e1⟩ : ∃ u, wr.cell? ⟨s4, 3, none⟩ = some u := ⟨_, CK.out 3 _ rfl⟩
        obtain ⟨y2, e2⟩ : ∃ u, wa.cell? ⟨s4, 7, none⟩ = some u := ⟨_, ca (7) _ rfl⟩
        have fa := FK.out 3
        have fb : wa.frozen? ⟨s4, 7, none⟩ = false := by rw [hwa, World.frozen?_setCell]; exact FK.out (7)
        have FB : Hid (∀ y, wb.frozen? ⟨s4, y, none⟩ = false) := fun y => by rw [hwb, World.frozen?_setCell, hwa, World.frozen?_setCell]; exact FK.out y
        have CB : Hid (CellsAt wb s4 0 (putK bs (p0.cells (.slice ao on oc)) (4))) := cb
        have BB : Hid (But (Only s4) w7 wb) := BK.out.trans (boa.trans bob)
        have hwa' := hwa.symm
        have hwb' := hwb.symm
        have z12 : ((15 : Nat) : Int) < (n : Int) := by omega
        have z16 : ((19 : Nat) : Int) < (n : Int) := by omega
        clear ca cb boa bob BWr BWw BWa hwa hwb CK BK FK
        go_wp2
        go_roundw
        case rel => exact ⟨4, rfl, by omega, CB, FB, BB⟩
        case measure => simp [intOf]
      · have BWr : Below w2.heap.size w2 wr := B7.out.trans (BK.out.below B7.out.size (fun g hg e => by have e : g = s4 := e; omega))
        have hnb : ∀ k, k < 20 → nb (bs.take h) k = nb bs k := fun k hk => nb_take (by omega)
        have eY : putK bs (p0.cells (.slice ao on oc)) 4 = (deP bs).cells (.slice ao on oc) := by
          unfold deP
          rw [HDL.out, HP0.out, HQ.out]
          unfold hdP ipA w16
          rw [hnb 1 (by decide), hnb 8 (by decide), hnb 9 (by decide), hnb 12 (by decide), hnb 16 (by decide), hnb 4 (by decide), hnb 6 (by decide)]
          rw [hnb (12 + 1) (by decide), hnb (12 + 2) (by decide), hnb (12 + 3) (by decide), hnb (16 + 1) (by decide), hnb (16 + 2) (by decide), hnb (16 + 3) (by decide), hnb (4 + 1) (by decide), hnb (6 + 1) (by decide)]
          rfl
        have c8 := CK.out
        rw [eY] at c8
        have G8 := G7.out.off BK.out SEP.out
        obtain ⟨wd, hwd⟩ : ∃ wd, wd = wr.drew := ⟨_, rfl⟩
        have bd : Below wr.heap.size wr wd := by rw [hwd]; exact (Below.refl _ wr).drew
        have zd : wd.heap.size = wr.heap.size := by rw [hwd]; rfl
        have c8d : CellsAt wd s4 0 ((deP bs).cells (.slice ao on oc)) := by rw [hwd]; exact c8
        have BWd : Below w2.heap.size w2 wd := BWr.trans (bd.mono BWr.size)
        have c2d : CellsAt wd s2 0 Z := C2.out.later L2 BWd
        have f2d : ∀ y, wd.frozen? ⟨s2, y, none⟩ = false := fun y => (BWd.frozen (p := ⟨s2, y, none⟩) L2).trans (F2.out y)
        obtain ⟨w9, hw9⟩ : ∃ w9, w9 = wd.setCells s2 0 ((deP bs).cells (.slice ao on oc)) := ⟨_, rfl⟩
        have bo9 := But.cells s2 ((deP bs).cells (.slice ao on oc)) 0 wd
        rw [← hw9] at bo9
        have c9 : CellsAt w9 s2 0 ((deP bs).cells (.slice ao on oc)) := by rw [hw9]; exact c2d.stored (by rw [lZ.out]; rfl)
        have ne : s4 ≠ s2 := by omega
        have c94 : CellsAt w9 s4 0 ((deP bs).cells (.slice ao on oc)) := c8d.but (World.block_lt_of_cell? wd _ (c8d 0 _ rfl)) bo9 (fun e => ne e)
        have B9 : Below w.heap.size w w9 := HB2.out.trans ((BWd.mono HB2.out.size).trans (bo9.below (Nat.le_trans HB2.out.size BWd.size) (fun g hg e => by have e : g = s2 := e; have := HS2.out; omega)))
        obtain ⟨ad2, had2⟩ : ∃ ad2, ad2 = if cap = h then some (⟨g, off, none⟩ : Addr) else some ⟨g, off + h, none⟩ := ⟨_, rfl⟩
        have I9 : IsB w9.heap.size w9 (.slice ad2 (z - h) (cap - h)) ((bs.take z).drop h) := isB_drop ((HB.out.later B9).take z (by rw [← HN.out]; omega)) h (by rw [List.length_take, ← HN.out]; omega) ad2 had2
        have G9 := (G8.later bd).off bo9 (fun g' x y e e2 => by
          obtain ⟨_, ⟨h2, _⟩ | ⟨g'', cap', cur, e', hge, _⟩⟩ := G8
          · rw [e] at h2; cases h2
          · rw [e] at e'
            cases e'
            omega)
        have FIN2 : Hid (RDe w.heap.size w bs (.returned (.tuple #[.agg ((deP bs).cells (.slice ao on oc)).toArray, .slice ad2 (z - h) (cap - h), .int .i64 0])) w9) :=
          ⟨B9, .inr ⟨by rw [← HE0.out]; exact E1.out, _, _, rfl, by rw [HDL.out]; exact G9.isB, by rw [DED.out]; exact I9⟩⟩
        have HAD2 := hide had2
        clear CK BK FK G7 SEP C7 F7 B7 FIN hnb eY c8 G8 bd zd BWr BWd had2 CWH
        go_upto_region 26 with fail
        refine region_out (fun W => CellsAt W s4 0 ((deP bs).cells (.slice ao on oc))) (by kernel_rfl) ?_
        rw [← hwd]
        refine takeD (i := 0) (v := .agg ((deP bs).cells (.slice ao on oc)).toArray) 124 rfl rfl (by kernel_rfl) (by kernel_rfl) (by kernel_rfl) (fun _ _ _ h => h) (.inl ⟨by rfl, fun W hW => exec_loadA 26 16 aggP sizP _ rfl s4 0 rfl ((deP bs).cells (.slice ao on oc)) rfl (hW)⟩) (c8d) ?_
        try simp only [Act.put, List.setIfInBounds_toArray, List.set_cons_zero, List.set_cons_succ]
        refine takeD (i := 1) (v := .slice (some ⟨g, off, none⟩) n cap) 125 rfl rfl (by kernel_rfl) (by kernel_rfl) (by kernel_rfl) (fun _ _ _ h => h) (.inl ⟨by rfl, fun W hW => exec_move _ _ rfl rfl⟩) (c8d) ?_
        try simp only [Act.put, List.setIfInBounds_toArray, List.set_cons_zero, List.set_cons_succ]
        refine takeD (i := 2) (v := .int .i64 (h : Int)) 126 rfl rfl (by kernel_rfl) (by kernel_rfl) (by kernel_rfl) (fun _ _ _ h => h) (.inl ⟨by rfl, fun W hW => exec_move _ _ rfl rfl⟩) (c8d) ?_
        try simp only [Act.put, List.setIfInBounds_toArray, List.set_cons_zero, List.set_cons_succ]
        refine takeD (i := 3) (v := .int .i64 (z : Int)) 127 rfl rfl (by kernel_rfl) (by kernel_rfl) (by kernel_rfl) (fun _ _ _ h => h) (.inl ⟨by rfl, fun W hW => exec_move _ _ rfl rfl⟩) (c8d) ?_
        try simp only [Act.put, List.setIfInBounds_toArray, List.set_cons_zero, List.set_cons_succ]
        refine takeD (i := 4) (v := .slice ad2 (z - h) (cap - h)) 128 rfl rfl (by kernel_rfl) (by kernel_rfl) (by kernel_rfl) (fun _ _ _ h => h) (.inl ⟨by rfl, fun W hW => exec_slLV _ _ _ g off n cap h z ad2 HAD2.out rfl rfl rfl rfl (by omega) (by omega)⟩) (c8d) ?_
        try simp only [Act.put, List.setIfInBounds_toArray, List.set_cons_zero, List.set_cons_succ]
        refine storeD (w' := w9) 5 (by kernel_rfl) rfl rfl (by rfl) (by rw [hw9]; exact exec_storeA 26 16 sizP _ _ rfl s2 0 rfl _ Z rfl rfl lZ.out c2d f2d (pk_one _ _ _ _)) (c94) ?_
        try simp only [Act.put, List.setIfInBounds_toArray, List.set_cons_zero, List.set_cons_succ]
        refine takeD (i := 6) (v := .slice ad2 (z - h) (cap - h)) 3 rfl rfl (by kernel_rfl) (by kernel_rfl) (by kernel_rfl) (fun _ _ _ h => h) (.inl ⟨by rfl, fun W hW => exec_assign _ _ rfl rfl⟩) (c94) ?_
        try simp only [Act.put, List.setIfInBounds_toArray, List.set_cons_zero, List.set_cons_succ]
        refine takeD (i := 7) (v := .int .i64 0) 4 rfl rfl (by kernel_rfl) (by kernel_rfl) (by kernel_rfl) (fun _ _ _ h => h) (.inl ⟨by rfl, fun W hW => exec_assign _ _ rfl rfl⟩) (c94) ?_
        try simp only [Act.put, List.setIfInBounds_toArray, List.set_cons_zero, List.set_cons_succ]
        refine wpAnyH_done (by kernel_rfl) ?_ _
        have C9 := hide c9
        clear c8d c2d f2d hw9 bo9 c9 c94 B9 I9 G9 hwd
        go_wp2
        refine bodyPost_ret (v := .tuple #[.agg ((deP bs).cells (.slice ao on oc)).toArray, .slice ad2 (z - h) (cap - h), .int .i64 0]) (results_D rfl _ _ s2 _ _ _ rfl rfl rfl (run_loadVarA 26 16 aggP sizP s2 0 _ rfl C9.out)) rfl ?_
        exact FIN2.out
end Go.Proofs.Ytiglejmmdghmgaa
