
/-
  IcmpPaths: the walk.
-/
import Derived.Test.YteiendigcaedhaaT30
namespace Go.Proofs.Yteiendigcaedhaa
open Go.RowKit Go.Shelf

/-- a word: a number, an mtu, is it a question? -/
structure Wo where
  n : Int
  mtu : Int
  find : Bool
def Wo.cells (x : Wo) : List Value := [.int .u8 x.n, .int .i64 x.mtu, .bool x.find]
/-- the slice v holds these words, all of it below n₀ -/
def IsV (n₀ : Nat) (W : World) (v : Value) (l : List Wo) : Prop :=
  ∃ a cap, v = .slice a l.length cap ∧ (0 < l.length → ∃ g off, a = some ⟨g, off, none⟩ ∧ g < n₀ ∧ ∀ (i : Nat) o, l[i]? = some o → CellsAt W g (off + i * 3) o.cells)
theorem pfnd_first {n : I4} : ∀ {L : List Pt} {i : Nat} {r : Pt}, pfnd n L = some (i, r) → ∀ j y, j < i → L[j]? = some y → y.ip ≠ n
  | [], _, _, h, _, _, _, _ => by cases h
  | x :: L, i, r, h, j, y, hj, hy => by
    unfold pfnd at h
    split at h
    · cases h; omega
    · rename_i hk
      cases hf : pfnd n L with
      | none => rw [hf] at h; cases h
      | some p =>
        rw [hf] at h
        cases h
        cases j with
        | zero => cases hy; exact fun e => hk (eqI_iff.2 e.symm)
        | succ j => exact pfnd_first (i := p.1) (r := p.2) hf j y (by simpa using hj) (by simpa using hy)
theorem pfE_at {n : I4} {L : List Pt} {i : Nat} {r : Pt} (h : pfnd n L = some (i, r)) : pfE n L = r.mtu := by
  unfold pfE pgot
  rw [h]
  rfl
theorem pfE_learn (n : I4) (m : Int) (L : List Pt) (ck : Nat) : pfE n (plL n m L ck) = m := by
  unfold plL
  cases hf : pfnd n L with
  | some p =>
    obtain ⟨i, r⟩ := p
    have hi := (List.getElem?_eq_some_iff.1 (pfnd_some hf).1).1
    refine pfE_at (i := i) (r := ⟨n, m, r.bn⟩) (pfnd_at (by simp [hi]) rfl (fun j y hj hy => ?_))
    rw [List.getElem?_set_ne (by simp; omega)] at hy
    exact pfnd_first hf j y hj hy
  | none =>
    refine pfE_at (i := (pmk L).length) (r := ⟨n, m, ck⟩) (pfnd_at (by simp) rfl (fun j y hj hy => ?_))
    rw [List.getElem?_append_left hj] at hy
    exact pfnd_none (pfnd_pmk hf) y (List.mem_of_getElem? hy)
theorem plL_len {n : I4} {m : Int} {L : List Pt} {ck : Nat} (h : L.length ≤ 8) : (plL n m L ck).length ≤ 8 := by
  unfold plL
  cases hf : pfnd n L with
  | some p => simp only [List.length_set]; exact h
  | none =>
    have := pmk_len h
    simp only [List.length_append, List.length_cons, List.length_nil]
    omega
/-- both sides in one memory -/
structure Pw (w : World) (kb qb : Nat) (O1 O2 : Nat → Prop) (L1 L2 : List Pt) (ck : Nat) (W : World) : Prop where
  p : PsAt W kb O1 L1 ck
  r : DPs W qb O2 L2
  l8 : L1.length ≤ 8
  bel : Below w.heap.size w W
  lo : w.heap.size ≤ kb
  kq : kb + 1 < qb
  o1 : ∀ g, O1 g → kb + 1 < g ∧ g < W.heap.size ∧ g ≠ qb
  o2 : ∀ g, O2 g → qb < g ∧ g < W.heap.size
  dj : ∀ g, O1 g → ¬ O2 g
section
variable {w : World} {kb qb : Nat} {O1 O2 : Nat → Prop} {L1 L2 : List Pt} {ck : Nat} {W W' : World}
theorem Pw.later (h : Pw w kb qb O1 O2 L1 L2 ck W) (hb : Below W.heap.size W W') : Pw w kb qb O1 O2 L1 L2 ck W' :=
  ⟨h.p.later hb, h.r.later hb, h.l8, Go.Proofs.Yteiendigcaedhaa.later h.bel hb, h.lo, h.kq, fun g e => ⟨(h.o1 g e).1, Nat.lt_of_lt_of_le (h.o1 g e).2.1 hb.size, (h.o1 g e).2.2⟩, fun g e => ⟨(h.o2 g e).1, Nat.lt_of_lt_of_le (h.o2 g e).2 hb.size⟩, h.dj⟩
/-- with the address in the variable u -/
structure Pv (w : World) (kb qb u : Nat) (n : I4) (O1 O2 : Nat → Prop) (L1 L2 : List Pt) (ck : Nat) (W : World) : Prop where
  w : Pw w kb qb O1 O2 L1 L2 ck W
  cu : CellsAt W u 0 n.vals
  u1 : kb + 1 < u ∧ u ≠ qb ∧ ¬ O1 u ∧ ¬ O2 u
variable {u : Nat} {n : I4}
theorem Pv.ul (h : Pv w kb qb u n O1 O2 L1 L2 ck W) : u < W.heap.size := h.cu.lt (by simp [I4.vals])
theorem Pv.later (h : Pv w kb qb u n O1 O2 L1 L2 ck W) (hb : Below W.heap.size W W') : Pv w kb qb u n O1 O2 L1 L2 ck W' := ⟨h.w.later hb, h.cu.later h.ul hb, h.u1⟩
theorem Pv.learnP (h : Pv w kb qb u n O1 O2 L1 L2 ck W) (m : Int) : Calls Try.prog 26 #[.pointer (some ⟨kb + 1, 0, none⟩), .agg n.vals.toArray, .int .i64 m] W fun e W' => ∃ v, e = .returned v ∧ v = .bool (plB n m L1) ∧ ∃ O1' ck', Pv w kb qb u n O1' O2 (if plB n m L1 = true then plL n m L1 ck else L1) L2 ck' W' := by
  have hl := h.ul
  have hp := h.w.p.lt
  have hr := h.w.r.lt
  obtain ⟨v1, v2, v3, v4⟩ := h.u1
  have kq := h.w.kq
  refine (icLearn_any h.w.p (fun g e => (h.w.o1 g e).2.1) h.w.l8 n m).mono ?_
  rintro _ W' ⟨rfl, ⟨ck', h1⟩, h2⟩
  have hz := h2.size
  have nk : ∀ g, qb ≤ g → ¬ O1 g → ¬ PsK kb O1 g := fun g hg hn e => by
    rcases e with e | e | e
    · omega
    · omega
    · exact hn e
  refine ⟨_, rfl, rfl, _, ck', ⟨h1, h.w.r.but h2 (fun g e => ?_), ?_, h.w.bel.trans (h2.below h.w.bel.size (fun g hg e => ?_)), h.w.lo, kq, fun g e => ?_, fun g e => ⟨(h.w.o2 g e).1, Nat.lt_of_lt_of_le (h.w.o2 g e).2 hz⟩, fun g e e2 => ?_⟩, h.cu.but hl h2 ?_, v1, v2, ?_, v4⟩
  · rcases e with e | e
    · exact nk g (by omega) (fun e2 => (h.w.o1 g e2).2.2 e)
    · exact nk g (by have := (h.w.o2 g e).1; omega) (fun e2 => h.w.dj g e2 e)
  · by_cases e : plB n m L1 = true
    · rw [if_pos e]; exact plL_len h.w.l8
    · rw [if_neg e]; exact h.w.l8
  · have := h.w.lo
    rcases e with e | e | e
    · omega
    · omega
    · have := (h.w.o1 g e).1; omega
  · rcases e with e | e
    · exact ⟨(h.w.o1 g e).1, Nat.lt_of_lt_of_le (h.w.o1 g e).2.1 hz, (h.w.o1 g e).2.2⟩
    · exact ⟨by omega, e.2, by omega⟩
  · rcases e with e | e
    · exact h.w.dj g e e2
    · have := (h.w.o2 g e2).2; omega
  · intro e
    rcases e with e | e | e
    · omega
    · omega
    · exact v3 e
  · rintro (e | e)
    · exact v3 e
    · omega
theorem Pv.learnR (h : Pv w kb qb u n O1 O2 L1 L2 ck W) (m : Int) (c2 : Nat) : Calls Try.prog 27 #[.pointer (some ⟨qb, 0, none⟩), .agg n.vals.toArray, .int .i64 m] W fun e W' => ∃ v, e = .returned v ∧ v = .bool (plB n m L2) ∧ ∃ O2', Pv w kb qb u n O1 O2' L1 (if plB n m L2 = true then plL n m L2 c2 else L2) ck W' := by
  have hl := h.ul
  have hp := h.w.p.lt
  have hr := h.w.r.lt
  obtain ⟨v1, v2, v3, v4⟩ := h.u1
  have kq := h.w.kq
  refine (rLearnP_any h.w.r (fun g e => (h.w.o2 g e).2) n m c2).mono ?_
  rintro _ W' ⟨rfl, h1, h2⟩
  have hz := h2.size
  refine ⟨_, rfl, rfl, _, ⟨h.w.p.but h2 (fun g e e2 => ?_), h1, h.w.l8, h.w.bel.trans (h2.below h.w.bel.size (fun g hg e => ?_)), h.w.lo, kq, fun g e => ⟨(h.w.o1 g e).1, Nat.lt_of_lt_of_le (h.w.o1 g e).2.1 hz, (h.w.o1 g e).2.2⟩, fun g e => ?_, fun g e e2 => ?_⟩, h.cu.but hl h2 (fun e => ?_), v1, v2, v3, ?_⟩
  · rcases e with e | e | e
    · rcases e2 with e2 | e2
      · omega
      · have := (h.w.o2 g e2).1; omega
    · rcases e2 with e2 | e2
      · omega
      · have := (h.w.o2 g e2).1; omega
    · rcases e2 with e2 | e2
      · exact (h.w.o1 g e).2.2 e2
      · exact h.w.dj g e e2
  · have := h.w.lo
    rcases e with e | e
    · omega
    · have := (h.w.o2 g e).1; omega
  · rcases e with e | e
    · exact ⟨(h.w.o2 g e).1, Nat.lt_of_lt_of_le (h.w.o2 g e).2 hz⟩
    · exact ⟨by omega, e.2⟩
  · rcases e2 with e2 | e2
    · exact h.w.dj g e e2
    · have := (h.w.o1 g e).2.1; omega
  · rcases e with e | e
    · exact v2 e
    · exact v4 e
  · rintro (e | e)
    · exact v4 e
    · omega
end
theorem newI (w : World) (X : List Value) (hX : X.length = 4) : ∃ w0 w1, w0 = w.alloc (.cells zI.vals.toArray 35) ∧ w1 = w0.setCells w.heap.size 0 X ∧ CellsAt w0 w.heap.size 0 zI.vals ∧ (∀ y, w0.frozen? ⟨w.heap.size, y, none⟩ = false) ∧ CellsAt w1 w.heap.size 0 X ∧ Below w.heap.size w w1 ∧ w.heap.size < w1.heap.size := by
  refine ⟨_, _, rfl, rfl, CellsAt.new w _ _, fun y => frozen_new w _ _ _, (CellsAt.new w _ _).stored (by rw [hX]; rfl), (Below.refl _ w).alloc (Nat.le_refl _) _ |>.trans ((But.cells w.heap.size X 0 _).below (by simp) (fun g hg e => by have e : g = w.heap.size := e; omega)), ?_⟩
  have h := (But.cells w.heap.size X 0 (w.alloc (.cells zI.vals.toArray 35))).size
  rw [World.size_alloc] at h
  omega
theorem exec_ixWo {o : Oper} {w : World} {ev : Operand → Value} (x y : Operand) (g off n c k : Nat) (ho : o.op = .indexAddr 54 x y) (hx : ev x = .slice (some ⟨g, off, none⟩) n c) (hy : ev y = .int .i64 (k : Int)) (hk : k < n) : (execOp ev o).run Try.prog w = .ok (.value (.pointer (some ⟨g, off + k * 3, none⟩))) w := by
  have hki : (k : Int) < n := by omega
  unfold execOp
  simp [ho, hx, hy, go_sem, hki]
theorem exec_neb {o : Oper} {w : World} {ev : Operand → Value} (x y : Operand) (t : TypeId) (a : Bool) (ho : o.op = .binOp .neq 4 x y t) (hx : ev x = .bool a) (hy : ev y = .bool a) : (execOp ev o).run Try.prog w = .ok (.value (.bool false)) w := by
  unfold execOp
  simp [ho, hx, hy, go_sem]
theorem exec_gei2 {o : Oper} {w : World} {ev : Operand → Value} (x y : Operand) (t : TypeId) (a b : Int) (r : Bool) (ho : o.op = .binOp .geq 3 x y t) (hx : ev x = .int .i64 a) (hy : ev y = .int .i64 b) (hr : decide (b ≤ a) = r) : (execOp ev o).run Try.prog w = .ok (.value (.bool r)) w := by
  subst hr
  unfold execOp
  simp [ho, hx, hy, go_sem]
set_option maxRecDepth 100000 in
set_option maxHeartbeats 16000000 in
theorem Paths_walk (lv : Value) (l : List Wo) (w : World) (hl : IsV w.heap.size w lv l) (ll : l.length ≤ 8796093021952) :
    Calls Try.prog 6 #[lv] w fun e w' => e = .returned (.bool true) ∧ Below w.heap.size w w' := by
  obtain ⟨la, lc, rfl, hlc⟩ := hl
  obtain ⟨n, hn⟩ : ∃ n, n = l.length := ⟨_, rfl⟩
  rw [← hn] at hlc ll ⊢
  have HLC := hide hlc
  have HN := hide hn
  have lz : (n : Int) ≤ 8796093021952 := by omega
  clear hlc hn
  go_enter Try.func6, Try.ntmps6
  go_wp2_with fail
  refine (icAwake_any w).mono ?_
  rintro _ w2 ⟨rfl, b2⟩
  have HB2 := hide b2
  have NW := hide (icNewP_any w2)
  obtain ⟨kb, hkb⟩ : ∃ kb, kb = w2.heap.size := ⟨_, rfl⟩
  rw [← hkb] at NW
  have KLO : Hid (w.heap.size ≤ kb) := by rw [hkb]; exact b2.size
  clear b2
  go_wp2_with fail
  refine NW.out.mono ?_
  rintro _ w3 ⟨rfl, K3, b3⟩
  have HB3 : Hid (Below w.heap.size w w3) := HB2.out.trans (b3.mono KLO.out)
  obtain ⟨qb, hqb⟩ : ∃ qb, qb = w3.heap.size := ⟨_, rfl⟩
  obtain ⟨w4, hw4⟩ : ∃ w4, w4 = w3.alloc (.cells #[.slice none 0 0] 60) := ⟨_, rfl⟩
  have b4 : Below w3.heap.size w3 w4 := by rw [hw4]; exact later_alloc _ _
  have c4 : CellsAt w4 qb 0 [.slice none 0 0] := by rw [hw4, hqb]; exact CellsAt.new w3 _ _
  have KQ : kb + 1 < qb := by rw [hqb]; exact K3.lt
  have M4 : Hid (Pw w kb qb (fun _ => False) (fun _ => False) [] [] 0 w4) :=
    ⟨K3.later b4, ⟨⟨_, c4 0 _ rfl, RowG.nil _ _ _ _⟩, by rw [hw4, hqb]; exact frozen_new w3 _ _ _, id, by simp⟩, by simp, later HB3.out b4, KLO.out, KQ, (fun g e => False.elim e), (fun g e => False.elim e), fun g e _ => e⟩
  have hw4' := hw4.symm
  have hqb' := hqb.symm
  clear K3 b3 b4 c4 NW HB2 HB3 hkb hw4 hqb
  go_upto_region 6 with fail
  clear hw4' hqb'
  go_wp2
  go_loopw [6] (fun vi wr => ∃ (i : Nat) (L : List Pt) (O1 O2 : Nat → Prop) (ck : Nat), vi = .int .i64 (i : Int) ∧ i ≤ n ∧ Hid (Pw w kb qb O1 O2 L L ck wr)) (fun vi _ => n - (intOf vi).toNat)
  case atStart => exact ⟨0, [], _, _, 0, rfl, Nat.zero_le _, M4.out⟩
  case round =>
    obtain ⟨i, L, O1, O2, ck, rfl, hi, MI⟩ := hrel
    obtain ⟨wp, hwp⟩ : ∃ wp, wp = wr := ⟨_, rfl⟩
    rw [← hwp] at MI ⊢
    clear hwp
    by_cases hlt : i < n
    · obtain ⟨lg, off, rfl, hg, hcs⟩ := HLC.out (by omega)
      obtain ⟨o, ho⟩ : ∃ o, l[i]? = some o := ⟨_, List.getElem?_eq_getElem (by rw [← HN.out]; exact hlt)⟩
      obtain ⟨nn, mt, fq⟩ := o
      have CO : Hid (∀ W, Below w.heap.size w W → W.cell? ⟨lg, off + i * 3, none⟩ = some (.int .u8 nn) ∧ W.cell? ⟨lg, off + i * 3 + 1, none⟩ = some (.int .i64 mt) ∧ W.cell? ⟨lg, off + i * 3 + 2, none⟩ = some (.bool fq)) := fun W hb => by
        have h := (hcs i _ ho).later hg hb
        exact ⟨h 0 _ rfl, h 1 _ rfl, h 2 _ rfl⟩
      obtain ⟨ip, hip⟩ : ∃ ip : I4, ip = ⟨10, 0, 0, nn⟩ := ⟨_, rfl⟩
      obtain ⟨X, hX⟩ : ∃ X, X = ip.vals := ⟨_, rfl⟩
      have LX : Hid (X.length = 4) := by rw [hX]; exact rfl
      have OX : Hid (∀ u ∈ X, u.oneCell' = true) := by rw [hX]; exact ip_oneC _
      have EX : Hid (Value.agg #[.int .u8 10, .int .u8 0, .int .u8 0, .int .u8 nn] = .agg X.toArray) := by rw [hX, hip]; exact rfl
      have iz : (i : Int) < (n : Int) := by omega
      have k0 := (CO.out wp MI.out.bel).1
      obtain ⟨u5, w5, hu5, hw5, cu5, fu5, c5, b5, l5⟩ := newI wp X LX.out
      obtain ⟨u, hu⟩ : ∃ u, u = wp.heap.size := ⟨_, rfl⟩
      rw [← hu] at hw5 cu5 fu5 c5 l5
      have CU := hide cu5
      have FU := hide fu5
      have D5 : Hid (Pv w kb qb u ip O1 O2 L L ck w5) := by
        refine ⟨MI.out.later b5, (by rw [← hX]; exact c5), ?_, ?_, ?_, ?_⟩
        · rw [hu]; exact MI.out.p.lt
        · have := MI.out.r.lt; omega
        · intro e; have := (MI.out.o1 u e).2.1; omega
        · intro e; have := (MI.out.o2 u e).2; omega
      have HX := hide hX
      have HIP := hide hip
      have hu5' := hu5.symm
      simp only [zI, I4.vals] at hu5'
      have hw5' := hw5.symm
      have huu := hu.symm
      clear hu5 hw5 cu5 fu5 c5 b5 hu hX hip ho hcs
      go_upto_region 10 with (refine wpList_storeA rfl 35 4 sizI _ _ rfl u 0 rfl X zI.vals EX.out LX.out rfl CU.out FU.out OX.out ?_; intro _; rw [hw5'])
      clear hu5' hw5' huu CU FU k0
      have C5 : Hid (CellsAt w5 u 0 X) := by rw [HX.out]; exact D5.out.cu
      have FD : Hid (Calls Try.prog 25 #[.pointer (some ⟨kb + 1, 0, none⟩), .agg X.toArray] w5 fun e w' => e = .returned (.int .i64 (pfE ip L)) ∧ Below w5.heap.size w5 w') := by rw [HX.out]; exact icFindP_any D5.out.w.p ip
      obtain ⟨bf, hbf⟩ : ∃ bf, bf = pfE ip L := ⟨_, rfl⟩
      rw [← hbf] at FD
      have HBF := hide hbf
      clear hbf
      go_wp2_with (refine wpList_loadA rfl 35 4 aggI sizI _ rfl u 0 rfl X LX.out C5.out ?_)
      refine FD.out.mono ?_
      rintro _ w6 ⟨rfl, b6⟩
      have D6 := hide (D5.out.later b6)
      have k6 := (CO.out w6 D6.out.w.bel).2.2
      clear b6 D5 C5 FD MI
      -- what is learned
      go_upto_if 41 with fail
      go_cut [] (fun wc => ∃ (L' : List Pt) (O1' O2' : Nat → Prop) (ck' : Nat), Hid (Pv w kb qb u ip O1' O2' L' L' ck' wc))
      case first =>
        cases fq with
        | true =>
          go_wp2
          go_meet
          case rel => exact ⟨L, O1, O2, ck, D6.out⟩
        | false =>
          go_upto_region 12 with fail
          have Dd := D6.out.later (later_drew w6)
          have S6 : ∀ W L1 L2 O1 O2 ck, Pv w kb qb u ip O1 O2 L1 L2 ck W → CellsAt W u 0 ip.vals ∧ W.cell? ⟨lg, off + i * 3 + 1, none⟩ = some (.int .i64 mt) := fun W L1 L2 O1 O2 ck h => ⟨h.cu, (CO.out W h.w.bel).2.1⟩
          have Sd := S6 _ _ _ _ _ _ Dd
          refine wp_region_held (S := fun W => CellsAt W u 0 ip.vals ∧ W.cell? ⟨lg, off + i * 3 + 1, none⟩ = some (.int .i64 mt)) (by kernel_rfl) ?_
          refine takeD (i := 0) (v := .pointer (some ⟨kb + 1, 0, none⟩)) 42 rfl rfl (by kernel_rfl) (by kernel_rfl) (by kernel_rfl) (fun _ _ _ h => h) (.inl ⟨by rfl, fun W hW => exec_move _ _ rfl rfl⟩) (Sd) ?_
          try simp only [Act.put, List.setIfInBounds_toArray, List.set_cons_zero, List.set_cons_succ]
          refine takeD (i := 1) (v := .agg (ip.vals).toArray) 43 rfl rfl (by kernel_rfl) (by kernel_rfl) (by kernel_rfl) (fun _ _ _ h => h) (.inl ⟨by rfl, fun W hW => exec_loadA 35 4 aggI sizI _ rfl u 0 rfl (ip.vals) rfl (hW.1)⟩) (Sd) ?_
          try simp only [Act.put, List.setIfInBounds_toArray, List.set_cons_zero, List.set_cons_succ]
          refine takeD (i := 2) (v := .slice (some ⟨lg, off, none⟩) n lc) 44 rfl rfl (by kernel_rfl) (by kernel_rfl) (by kernel_rfl) (fun _ _ _ h => h) (.inl ⟨by rfl, fun W hW => exec_move _ _ rfl rfl⟩) (Sd) ?_
          try simp only [Act.put, List.setIfInBounds_toArray, List.set_cons_zero, List.set_cons_succ]
          refine takeD (i := 3) (v := .int .i64 (i : Int)) 45 rfl rfl (by kernel_rfl) (by kernel_rfl) (by kernel_rfl) (fun _ _ _ h => h) (.inl ⟨by rfl, fun W hW => exec_move _ _ rfl rfl⟩) (Sd) ?_
          try simp only [Act.put, List.setIfInBounds_toArray, List.set_cons_zero, List.set_cons_succ]
          refine takeD (i := 4) (v := .pointer (some ⟨lg, off + i * 3, none⟩)) 46 rfl rfl (by kernel_rfl) (by kernel_rfl) (by kernel_rfl) (fun _ _ _ h => h) (.inl ⟨by rfl, fun W hW => exec_ixWo _ _ lg off n lc i rfl rfl rfl hlt⟩) (Sd) ?_
          try simp only [Act.put, List.setIfInBounds_toArray, List.set_cons_zero, List.set_cons_succ]
          refine takeD (i := 5) (v := .pointer (some ⟨lg, off + i * 3 + 1, none⟩)) 47 rfl rfl (by kernel_rfl) (by kernel_rfl) (by kernel_rfl) (fun _ _ _ h => h) (.inl ⟨by rfl, fun W hW => exec_fieldO 62 _ 1 lg (off + i * 3) (off + i * 3 + 1) rfl rfl (fun w => by kernel_rfl)⟩) (Sd) ?_
          try simp only [Act.put, List.setIfInBounds_toArray, List.set_cons_zero, List.set_cons_succ]
          refine takeD (i := 6) (v := .int .i64 mt) 48 rfl rfl (by kernel_rfl) (by kernel_rfl) (by kernel_rfl) (fun _ _ _ h => h) (.inl ⟨by rfl, fun W hW => exec_load1 3 one1 _ rfl lg (off + i * 3 + 1) rfl (.int .i64 mt) (hW.2)⟩) (Sd) ?_
          try simp only [Act.put, List.setIfInBounds_toArray, List.set_cons_zero, List.set_cons_succ]
          refine callD 7 49 (by kernel_rfl) rfl rfl (by rfl) 26 #[.pointer (some ⟨kb + 1, 0, none⟩), .agg ip.vals.toArray, .int .i64 mt] (exec_callF _ _ _ _ rfl (map3 rfl rfl rfl) (enters_of Try.func26 (by kernel_rfl) rfl)) _ (Dd.learnP mt) ?_
          rintro _ w7 ⟨rfl, O1', ck', D7⟩
          have S7 := S6 _ _ _ _ _ _ D7
          refine ⟨S7, ?_⟩
          obtain ⟨a, ha⟩ : ∃ a, a = plB ip mt L := ⟨_, rfl⟩
          rw [← ha] at D7 ⊢
          simp only [Act.put, List.setIfInBounds_toArray, List.set_cons_zero, List.set_cons_succ]
          refine takeD (i := 8) (v := .bool a) 9 rfl rfl (by kernel_rfl) (by kernel_rfl) (by kernel_rfl) (fun _ _ _ h => h) (.inl ⟨by rfl, fun W hW => exec_assign _ _ rfl rfl⟩) (S7) ?_
          try simp only [Act.put, List.setIfInBounds_toArray, List.set_cons_zero, List.set_cons_succ]
          refine wpAnyH_done (by kernel_rfl) ?_ _
          have D8 := hide D7
          have HA := hide ha
          have HS6 := hide S6
          clear D7 Dd Sd S7 ha S6
          go_upto_region 13 with fail
          have Dd := D8.out.later (later_drew w7)
          have Sd := HS6.out _ _ _ _ _ _ Dd
          refine wp_region_held (S := fun W => CellsAt W u 0 ip.vals ∧ W.cell? ⟨lg, off + i * 3 + 1, none⟩ = some (.int .i64 mt)) (by kernel_rfl) ?_
          refine takeD (i := 0) (v := .bool a) 50 rfl rfl (by kernel_rfl) (by kernel_rfl) (by kernel_rfl) (fun _ _ _ h => h) (.inl ⟨by rfl, fun W hW => exec_move _ _ rfl rfl⟩) (Sd) ?_
          try simp only [Act.put, List.setIfInBounds_toArray, List.set_cons_zero, List.set_cons_succ]
          refine takeD (i := 1) (v := .pointer (some ⟨qb, 0, none⟩)) 51 rfl rfl (by kernel_rfl) (by kernel_rfl) (by kernel_rfl) (fun _ _ _ h => h) (.inl ⟨by rfl, fun W hW => exec_move _ _ rfl rfl⟩) (Sd) ?_
          try simp only [Act.put, List.setIfInBounds_toArray, List.set_cons_zero, List.set_cons_succ]
          refine takeD (i := 2) (v := .agg (ip.vals).toArray) 52 rfl rfl (by kernel_rfl) (by kernel_rfl) (by kernel_rfl) (fun _ _ _ h => h) (.inl ⟨by rfl, fun W hW => exec_loadA 35 4 aggI sizI _ rfl u 0 rfl (ip.vals) rfl (hW.1)⟩) (Sd) ?_
          try simp only [Act.put, List.setIfInBounds_toArray, List.set_cons_zero, List.set_cons_succ]
          refine takeD (i := 3) (v := .slice (some ⟨lg, off, none⟩) n lc) 53 rfl rfl (by kernel_rfl) (by kernel_rfl) (by kernel_rfl) (fun _ _ _ h => h) (.inl ⟨by rfl, fun W hW => exec_move _ _ rfl rfl⟩) (Sd) ?_
          try simp only [Act.put, List.setIfInBounds_toArray, List.set_cons_zero, List.set_cons_succ]
          refine takeD (i := 4) (v := .int .i64 (i : Int)) 54 rfl rfl (by kernel_rfl) (by kernel_rfl) (by kernel_rfl) (fun _ _ _ h => h) (.inl ⟨by rfl, fun W hW => exec_move _ _ rfl rfl⟩) (Sd) ?_
          try simp only [Act.put, List.setIfInBounds_toArray, List.set_cons_zero, List.set_cons_succ]
          refine takeD (i := 5) (v := .pointer (some ⟨lg, off + i * 3, none⟩)) 55 rfl rfl (by kernel_rfl) (by kernel_rfl) (by kernel_rfl) (fun _ _ _ h => h) (.inl ⟨by rfl, fun W hW => exec_ixWo _ _ lg off n lc i rfl rfl rfl hlt⟩) (Sd) ?_
          try simp only [Act.put, List.setIfInBounds_toArray, List.set_cons_zero, List.set_cons_succ]
          refine takeD (i := 6) (v := .pointer (some ⟨lg, off + i * 3 + 1, none⟩)) 56 rfl rfl (by kernel_rfl) (by kernel_rfl) (by kernel_rfl) (fun _ _ _ h => h) (.inl ⟨by rfl, fun W hW => exec_fieldO 62 _ 1 lg (off + i * 3) (off + i * 3 + 1) rfl rfl (fun w => by kernel_rfl)⟩) (Sd) ?_
          try simp only [Act.put, List.setIfInBounds_toArray, List.set_cons_zero, List.set_cons_succ]
          refine takeD (i := 7) (v := .int .i64 mt) 57 rfl rfl (by kernel_rfl) (by kernel_rfl) (by kernel_rfl) (fun _ _ _ h => h) (.inl ⟨by rfl, fun W hW => exec_load1 3 one1 _ rfl lg (off + i * 3 + 1) rfl (.int .i64 mt) (hW.2)⟩) (Sd) ?_
          try simp only [Act.put, List.setIfInBounds_toArray, List.set_cons_zero, List.set_cons_succ]
          refine callD 8 58 (by kernel_rfl) rfl rfl (by rfl) 27 #[.pointer (some ⟨qb, 0, none⟩), .agg ip.vals.toArray, .int .i64 mt] (exec_callF _ _ _ _ rfl (map3 rfl rfl rfl) (enters_of Try.func27 (by kernel_rfl) rfl)) _ (Dd.learnR mt ck) ?_
          rintro _ w9 ⟨rfl, O2', D9⟩
          have S9 := HS6.out _ _ _ _ _ _ D9
          refine ⟨S9, ?_⟩
          rw [← HA.out] at D9 ⊢
          simp only [Act.put, List.setIfInBounds_toArray, List.set_cons_zero, List.set_cons_succ]
          cases a with
          | false =>
            refine takeD (i := 9) (v := .bool false) 59 rfl rfl (by kernel_rfl) (by kernel_rfl) (by kernel_rfl) (fun _ _ _ h => h) (.inl ⟨by rfl, fun W hW => exec_neb _ _ _ _ rfl rfl rfl⟩) (S9) ?_
            try simp only [Act.put, List.setIfInBounds_toArray, List.set_cons_zero, List.set_cons_succ]
            refine takeD (i := 10) (v := .bool false) 60 rfl rfl (by kernel_rfl) (by kernel_rfl) (by kernel_rfl) (fun _ _ _ h => h) (.inl ⟨by rfl, fun W hW => exec_move _ _ rfl rfl⟩) (S9) ?_
            try simp only [Act.put, List.setIfInBounds_toArray, List.set_cons_zero, List.set_cons_succ]
            refine takeD (i := 11) (v := .bool false) 61 rfl rfl (by kernel_rfl) (by kernel_rfl) (by kernel_rfl) (fun _ _ _ h => h) (.inl ⟨by rfl, fun W hW => exec_move _ _ rfl rfl⟩) (S9) ?_
            try simp only [Act.put, List.setIfInBounds_toArray, List.set_cons_zero, List.set_cons_succ]
            refine takeD (i := 12) (v := .bool false) 62 rfl rfl (by kernel_rfl) (by kernel_rfl) (by kernel_rfl) (fun _ _ _ h => h) (.inl ⟨by rfl, fun W hW => exec_move _ _ rfl rfl⟩) (S9) ?_
            try simp only [Act.put, List.setIfInBounds_toArray, List.set_cons_zero, List.set_cons_succ]
            refine takeD (i := 13) (v := undef) 63 rfl rfl (by kernel_rfl) (by kernel_rfl) (by kernel_rfl) (fun _ _ _ h => h) (.inr ⟨by rfl, rfl⟩) (S9) ?_
            try simp only [Act.put, List.setIfInBounds_toArray, List.set_cons_zero, List.set_cons_succ]
            refine takeD (i := 14) (v := undef) 64 rfl rfl (by kernel_rfl) (by kernel_rfl) (by kernel_rfl) (fun _ _ _ h => h) (.inr ⟨by rfl, rfl⟩) (S9) ?_
            try simp only [Act.put, List.setIfInBounds_toArray, List.set_cons_zero, List.set_cons_succ]
            refine takeD (i := 15) (v := undef) 65 rfl rfl (by kernel_rfl) (by kernel_rfl) (by kernel_rfl) (fun _ _ _ h => h) (.inr ⟨by rfl, rfl⟩) (S9) ?_
            try simp only [Act.put, List.setIfInBounds_toArray, List.set_cons_zero, List.set_cons_succ]
            refine takeD (i := 16) (v := undef) 66 rfl rfl (by kernel_rfl) (by kernel_rfl) (by kernel_rfl) (fun _ _ _ h => h) (.inr ⟨by rfl, rfl⟩) (S9) ?_
            try simp only [Act.put, List.setIfInBounds_toArray, List.set_cons_zero, List.set_cons_succ]
            refine takeD (i := 17) (v := undef) 67 rfl rfl (by kernel_rfl) (by kernel_rfl) (by kernel_rfl) (fun _ _ _ h => h) (.inr ⟨by rfl, rfl⟩) (S9) ?_
            try simp only [Act.put, List.setIfInBounds_toArray, List.set_cons_zero, List.set_cons_succ]
            refine takeD (i := 18) (v := undef) 68 rfl rfl (by kernel_rfl) (by kernel_rfl) (by kernel_rfl) (fun _ _ _ h => h) (.inr ⟨by rfl, rfl⟩) (S9) ?_
            try simp only [Act.put, List.setIfInBounds_toArray, List.set_cons_zero, List.set_cons_succ]
            refine takeD (i := 19) (v := undef) 69 rfl rfl (by kernel_rfl) (by kernel_rfl) (by kernel_rfl) (fun _ _ _ h => h) (.inr ⟨by rfl, rfl⟩) (S9) ?_
            try simp only [Act.put, List.setIfInBounds_toArray, List.set_cons_zero, List.set_cons_succ]
            refine takeD (i := 20) (v := undef) 70 rfl rfl (by kernel_rfl) (by kernel_rfl) (by kernel_rfl) (fun _ _ _ h => h) (.inr ⟨by rfl, rfl⟩) (S9) ?_
            try simp only [Act.put, List.setIfInBounds_toArray, List.set_cons_zero, List.set_cons_succ]
            refine takeD (i := 21) (v := undef) 71 rfl rfl (by kernel_rfl) (by kernel_rfl) (by kernel_rfl) (fun _ _ _ h => h) (.inr ⟨by rfl, rfl⟩) (S9) ?_
            try simp only [Act.put, List.setIfInBounds_toArray, List.set_cons_zero, List.set_cons_succ]
            refine takeD (i := 22) (v := undef) 72 rfl rfl (by kernel_rfl) (by kernel_rfl) (by kernel_rfl) (fun _ _ _ h => h) (.inr ⟨by rfl, rfl⟩) (S9) ?_
            try simp only [Act.put, List.setIfInBounds_toArray, List.set_cons_zero, List.set_cons_succ]
            refine takeD (i := 23) (v := undef) 73 rfl rfl (by kernel_rfl) (by kernel_rfl) (by kernel_rfl) (fun _ _ _ h => h) (.inr ⟨by rfl, rfl⟩) (S9) ?_
            try simp only [Act.put, List.setIfInBounds_toArray, List.set_cons_zero, List.set_cons_succ]
            refine takeD (i := 24) (v := undef) 74 rfl rfl (by kernel_rfl) (by kernel_rfl) (by kernel_rfl) (fun _ _ _ h => h) (.inr ⟨by rfl, rfl⟩) (S9) ?_
            try simp only [Act.put, List.setIfInBounds_toArray, List.set_cons_zero, List.set_cons_succ]
            refine takeD (i := 25) (v := undef) 75 rfl rfl (by kernel_rfl) (by kernel_rfl) (by kernel_rfl) (fun _ _ _ h => h) (.inr ⟨by rfl, rfl⟩) (S9) ?_
            try simp only [Act.put, List.setIfInBounds_toArray, List.set_cons_zero, List.set_cons_succ]
            refine takeD (i := 26) (v := undef) 76 rfl rfl (by kernel_rfl) (by kernel_rfl) (by kernel_rfl) (fun _ _ _ h => h) (.inr ⟨by rfl, rfl⟩) (S9) ?_
            try simp only [Act.put, List.setIfInBounds_toArray, List.set_cons_zero, List.set_cons_succ]
            refine takeD (i := 27) (v := undef) 77 rfl rfl (by kernel_rfl) (by kernel_rfl) (by kernel_rfl) (fun _ _ _ h => h) (.inr ⟨by rfl, rfl⟩) (S9) ?_
            try simp only [Act.put, List.setIfInBounds_toArray, List.set_cons_zero, List.set_cons_succ]
            refine takeD (i := 28) (v := undef) 78 rfl rfl (by kernel_rfl) (by kernel_rfl) (by kernel_rfl) (fun _ _ _ h => h) (.inr ⟨by rfl, rfl⟩) (S9) ?_
            try simp only [Act.put, List.setIfInBounds_toArray, List.set_cons_zero, List.set_cons_succ]
            refine takeD (i := 29) (v := undef) 79 rfl rfl (by kernel_rfl) (by kernel_rfl) (by kernel_rfl) (fun _ _ _ h => h) (.inr ⟨by rfl, rfl⟩) (S9) ?_
            try simp only [Act.put, List.setIfInBounds_toArray, List.set_cons_zero, List.set_cons_succ]
            refine takeD (i := 30) (v := undef) 80 rfl rfl (by kernel_rfl) (by kernel_rfl) (by kernel_rfl) (fun _ _ _ h => h) (.inr ⟨by rfl, rfl⟩) (S9) ?_
            try simp only [Act.put, List.setIfInBounds_toArray, List.set_cons_zero, List.set_cons_succ]
            refine takeD (i := 31) (v := undef) 81 rfl rfl (by kernel_rfl) (by kernel_rfl) (by kernel_rfl) (fun _ _ _ h => h) (.inr ⟨by rfl, rfl⟩) (S9) ?_
            try simp only [Act.put, List.setIfInBounds_toArray, List.set_cons_zero, List.set_cons_succ]
            refine takeD (i := 32) (v := undef) 82 rfl rfl (by kernel_rfl) (by kernel_rfl) (by kernel_rfl) (fun _ _ _ h => h) (.inr ⟨by rfl, rfl⟩) (S9) ?_
            try simp only [Act.put, List.setIfInBounds_toArray, List.set_cons_zero, List.set_cons_succ]
            refine takeD (i := 33) (v := undef) 83 rfl rfl (by kernel_rfl) (by kernel_rfl) (by kernel_rfl) (fun _ _ _ h => h) (.inr ⟨by rfl, rfl⟩) (S9) ?_
            try simp only [Act.put, List.setIfInBounds_toArray, List.set_cons_zero, List.set_cons_succ]
            refine takeD (i := 34) (v := undef) 84 rfl rfl (by kernel_rfl) (by kernel_rfl) (by kernel_rfl) (fun _ _ _ h => h) (.inr ⟨by rfl, rfl⟩) (S9) ?_
            try simp only [Act.put, List.setIfInBounds_toArray, List.set_cons_zero, List.set_cons_succ]
            refine takeD (i := 35) (v := undef) 85 rfl rfl (by kernel_rfl) (by kernel_rfl) (by kernel_rfl) (fun _ _ _ h => h) (.inr ⟨by rfl, rfl⟩) (S9) ?_
            try simp only [Act.put, List.setIfInBounds_toArray, List.set_cons_zero, List.set_cons_succ]
            refine takeD (i := 36) (v := undef) 86 rfl rfl (by kernel_rfl) (by kernel_rfl) (by kernel_rfl) (fun _ _ _ h => h) (.inr ⟨by rfl, rfl⟩) (S9) ?_
            try simp only [Act.put, List.setIfInBounds_toArray, List.set_cons_zero, List.set_cons_succ]
            refine takeD (i := 37) (v := undef) 87 rfl rfl (by kernel_rfl) (by kernel_rfl) (by kernel_rfl) (fun _ _ _ h => h) (.inr ⟨by rfl, rfl⟩) (S9) ?_
            try simp only [Act.put, List.setIfInBounds_toArray, List.set_cons_zero, List.set_cons_succ]
            refine takeD (i := 38) (v := undef) 88 rfl rfl (by kernel_rfl) (by kernel_rfl) (by kernel_rfl) (fun _ _ _ h => h) (.inr ⟨by rfl, rfl⟩) (S9) ?_
            try simp only [Act.put, List.setIfInBounds_toArray, List.set_cons_zero, List.set_cons_succ]
            refine takeD (i := 39) (v := .bool false) 89 rfl rfl (by kernel_rfl) (by kernel_rfl) (by kernel_rfl) (fun _ _ _ h => h) (.inl ⟨by rfl, fun W hW => exec_pick _ _ _ false _ rfl rfl rfl⟩) (S9) ?_
            try simp only [Act.put, List.setIfInBounds_toArray, List.set_cons_zero, List.set_cons_succ]
            refine takeD (i := 40) (v := .bool false) 90 rfl rfl (by kernel_rfl) (by kernel_rfl) (by kernel_rfl) (fun _ _ _ h => h) (.inl ⟨by rfl, fun W hW => exec_pick _ _ _ false _ rfl rfl rfl⟩) (S9) ?_
            try simp only [Act.put, List.setIfInBounds_toArray, List.set_cons_zero, List.set_cons_succ]
            refine wpAnyH_done (by kernel_rfl) ?_ _
            have DE : Hid (Pv w kb qb u ip O1' O2' L L ck' w9) := by unfold Hid; simpa using D9
            clear D9 S9 Dd Sd
            go_wp2
            go_meet
            case rel => exact ⟨_, _, _, _, DE.out⟩
          | true =>
            have FD : Hid (Calls Try.prog 25 #[.pointer (some ⟨kb + 1, 0, none⟩), .agg ip.vals.toArray] w9 fun e w' => ∃ v, e = .returned v ∧ v = .int .i64 mt ∧ Below w9.heap.size w9 w') := by
              refine (icFindP_any D9.w.p ip).mono ?_
              rintro _ W ⟨rfl, hb⟩
              exact ⟨_, rfl, by rw [if_pos rfl, pfE_learn], hb⟩
            have hpl := HA.out
            unfold plB at hpl
            rw [← HBF.out] at hpl
            have hp2 : (decide (68 ≤ mt) && decide (mt < bf)) = true := hpl.symm
            rw [Bool.and_eq_true, decide_eq_true_iff, decide_eq_true_iff] at hp2
            obtain ⟨m68, mbf⟩ := hp2
            clear hpl
            refine takeD (i := 9) (v := .bool false) 59 rfl rfl (by kernel_rfl) (by kernel_rfl) (by kernel_rfl) (fun _ _ _ h => h) (.inl ⟨by rfl, fun W hW => exec_neb _ _ _ _ rfl rfl rfl⟩) (S9) ?_
            try simp only [Act.put, List.setIfInBounds_toArray, List.set_cons_zero, List.set_cons_succ]
            refine takeD (i := 10) (v := .bool false) 60 rfl rfl (by kernel_rfl) (by kernel_rfl) (by kernel_rfl) (fun _ _ _ h => h) (.inl ⟨by rfl, fun W hW => exec_move _ _ rfl rfl⟩) (S9) ?_
            try simp only [Act.put, List.setIfInBounds_toArray, List.set_cons_zero, List.set_cons_succ]
            refine takeD (i := 11) (v := .bool true) 61 rfl rfl (by kernel_rfl) (by kernel_rfl) (by kernel_rfl) (fun _ _ _ h => h) (.inl ⟨by rfl, fun W hW => exec_move _ _ rfl rfl⟩) (S9) ?_
            try simp only [Act.put, List.setIfInBounds_toArray, List.set_cons_zero, List.set_cons_succ]
            refine takeD (i := 12) (v := .bool true) 62 rfl rfl (by kernel_rfl) (by kernel_rfl) (by kernel_rfl) (fun _ _ _ h => h) (.inl ⟨by rfl, fun W hW => exec_move _ _ rfl rfl⟩) (S9) ?_
            try simp only [Act.put, List.setIfInBounds_toArray, List.set_cons_zero, List.set_cons_succ]
            refine takeD (i := 13) (v := .pointer (some ⟨kb + 1, 0, none⟩)) 63 rfl rfl (by kernel_rfl) (by kernel_rfl) (by kernel_rfl) (fun _ _ _ h => h) (.inl ⟨by rfl, fun W hW => exec_move _ _ rfl rfl⟩) (S9) ?_
            try simp only [Act.put, List.setIfInBounds_toArray, List.set_cons_zero, List.set_cons_succ]
            refine takeD (i := 14) (v := .agg (ip.vals).toArray) 64 rfl rfl (by kernel_rfl) (by kernel_rfl) (by kernel_rfl) (fun _ _ _ h => h) (.inl ⟨by rfl, fun W hW => exec_loadA 35 4 aggI sizI _ rfl u 0 rfl (ip.vals) rfl (hW.1)⟩) (S9) ?_
            try simp only [Act.put, List.setIfInBounds_toArray, List.set_cons_zero, List.set_cons_succ]
            refine takeD (i := 16) (v := .slice (some ⟨lg, off, none⟩) n lc) 66 rfl rfl (by kernel_rfl) (by kernel_rfl) (by kernel_rfl) (fun _ _ _ h => h) (.inl ⟨by rfl, fun W hW => exec_move _ _ rfl rfl⟩) (S9) ?_
            try simp only [Act.put, List.setIfInBounds_toArray, List.set_cons_zero, List.set_cons_succ]
            refine takeD (i := 17) (v := .int .i64 (i : Int)) 67 rfl rfl (by kernel_rfl) (by kernel_rfl) (by kernel_rfl) (fun _ _ _ h => h) (.inl ⟨by rfl, fun W hW => exec_move _ _ rfl rfl⟩) (S9) ?_
            try simp only [Act.put, List.setIfInBounds_toArray, List.set_cons_zero, List.set_cons_succ]
            refine takeD (i := 18) (v := .pointer (some ⟨lg, off + i * 3, none⟩)) 68 rfl rfl (by kernel_rfl) (by kernel_rfl) (by kernel_rfl) (fun _ _ _ h => h) (.inl ⟨by rfl, fun W hW => exec_ixWo _ _ lg off n lc i rfl rfl rfl hlt⟩) (S9) ?_
            try simp only [Act.put, List.setIfInBounds_toArray, List.set_cons_zero, List.set_cons_succ]
            refine takeD (i := 19) (v := .pointer (some ⟨lg, off + i * 3 + 1, none⟩)) 69 rfl rfl (by kernel_rfl) (by kernel_rfl) (by kernel_rfl) (fun _ _ _ h => h) (.inl ⟨by rfl, fun W hW => exec_fieldO 62 _ 1 lg (off + i * 3) (off + i * 3 + 1) rfl rfl (fun w => by kernel_rfl)⟩) (S9) ?_
            try simp only [Act.put, List.setIfInBounds_toArray, List.set_cons_zero, List.set_cons_succ]
            refine takeD (i := 20) (v := .int .i64 mt) 70 rfl rfl (by kernel_rfl) (by kernel_rfl) (by kernel_rfl) (fun _ _ _ h => h) (.inl ⟨by rfl, fun W hW => exec_load1 3 one1 _ rfl lg (off + i * 3 + 1) rfl (.int .i64 mt) (hW.2)⟩) (S9) ?_
            try simp only [Act.put, List.setIfInBounds_toArray, List.set_cons_zero, List.set_cons_succ]
            refine callD 15 65 (by kernel_rfl) rfl rfl (by rfl) 25 #[.pointer (some ⟨kb + 1, 0, none⟩), .agg ip.vals.toArray] (exec_callF _ _ _ _ rfl (map2 rfl rfl) (enters_of Try.func25 (by kernel_rfl) rfl)) _ FD.out ?_
            rintro _ w10 ⟨rfl, b10⟩
            have D10 := D9.later b10
            have S10 := HS6.out _ _ _ _ _ _ D10
            refine ⟨S10, ?_⟩
            simp only [Act.put, List.setIfInBounds_toArray, List.set_cons_zero, List.set_cons_succ]
            refine takeD (i := 21) (v := .bool false) 71 rfl rfl (by kernel_rfl) (by kernel_rfl) (by kernel_rfl) (fun _ _ _ h => h) (.inl ⟨by rfl, fun W hW => exec_nei _ _ _ _ _ _ rfl rfl rfl (by simp)⟩) (S10) ?_
            try simp only [Act.put, List.setIfInBounds_toArray, List.set_cons_zero, List.set_cons_succ]
            refine takeD (i := 22) (v := .bool false) 72 rfl rfl (by kernel_rfl) (by kernel_rfl) (by kernel_rfl) (fun _ _ _ h => h) (.inl ⟨by rfl, fun W hW => exec_move _ _ rfl rfl⟩) (S10) ?_
            try simp only [Act.put, List.setIfInBounds_toArray, List.set_cons_zero, List.set_cons_succ]
            refine takeD (i := 23) (v := .slice (some ⟨lg, off, none⟩) n lc) 73 rfl rfl (by kernel_rfl) (by kernel_rfl) (by kernel_rfl) (fun _ _ _ h => h) (.inl ⟨by rfl, fun W hW => exec_move _ _ rfl rfl⟩) (S10) ?_
            try simp only [Act.put, List.setIfInBounds_toArray, List.set_cons_zero, List.set_cons_succ]
            refine takeD (i := 24) (v := .int .i64 (i : Int)) 74 rfl rfl (by kernel_rfl) (by kernel_rfl) (by kernel_rfl) (fun _ _ _ h => h) (.inl ⟨by rfl, fun W hW => exec_move _ _ rfl rfl⟩) (S10) ?_
            try simp only [Act.put, List.setIfInBounds_toArray, List.set_cons_zero, List.set_cons_succ]
            refine takeD (i := 25) (v := .pointer (some ⟨lg, off + i * 3, none⟩)) 75 rfl rfl (by kernel_rfl) (by kernel_rfl) (by kernel_rfl) (fun _ _ _ h => h) (.inl ⟨by rfl, fun W hW => exec_ixWo _ _ lg off n lc i rfl rfl rfl hlt⟩) (S10) ?_
            try simp only [Act.put, List.setIfInBounds_toArray, List.set_cons_zero, List.set_cons_succ]
            refine takeD (i := 26) (v := .pointer (some ⟨lg, off + i * 3 + 1, none⟩)) 76 rfl rfl (by kernel_rfl) (by kernel_rfl) (by kernel_rfl) (fun _ _ _ h => h) (.inl ⟨by rfl, fun W hW => exec_fieldO 62 _ 1 lg (off + i * 3) (off + i * 3 + 1) rfl rfl (fun w => by kernel_rfl)⟩) (S10) ?_
            try simp only [Act.put, List.setIfInBounds_toArray, List.set_cons_zero, List.set_cons_succ]
            refine takeD (i := 27) (v := .int .i64 mt) 77 rfl rfl (by kernel_rfl) (by kernel_rfl) (by kernel_rfl) (fun _ _ _ h => h) (.inl ⟨by rfl, fun W hW => exec_load1 3 one1 _ rfl lg (off + i * 3 + 1) rfl (.int .i64 mt) (hW.2)⟩) (S10) ?_
            try simp only [Act.put, List.setIfInBounds_toArray, List.set_cons_zero, List.set_cons_succ]
            refine takeD (i := 28) (v := .int .i64 bf) 78 rfl rfl (by kernel_rfl) (by kernel_rfl) (by kernel_rfl) (fun _ _ _ h => h) (.inl ⟨by rfl, fun W hW => exec_move _ _ rfl rfl⟩) (S10) ?_
            try simp only [Act.put, List.setIfInBounds_toArray, List.set_cons_zero, List.set_cons_succ]
            refine takeD (i := 29) (v := .bool false) 79 rfl rfl (by kernel_rfl) (by kernel_rfl) (by kernel_rfl) (fun _ _ _ h => h) (.inl ⟨by rfl, fun W hW => exec_gei2 _ _ _ _ _ _ rfl rfl rfl (decide_eq_false (by omega))⟩) (S10) ?_
            try simp only [Act.put, List.setIfInBounds_toArray, List.set_cons_zero, List.set_cons_succ]
            refine takeD (i := 30) (v := .bool false) 80 rfl rfl (by kernel_rfl) (by kernel_rfl) (by kernel_rfl) (fun _ _ _ h => h) (.inl ⟨by rfl, fun W hW => exec_pick _ _ _ false _ rfl rfl rfl⟩) (S10) ?_
            try simp only [Act.put, List.setIfInBounds_toArray, List.set_cons_zero, List.set_cons_succ]
            refine takeD (i := 31) (v := .bool false) 81 rfl rfl (by kernel_rfl) (by kernel_rfl) (by kernel_rfl) (fun _ _ _ h => h) (.inl ⟨by rfl, fun W hW => exec_move _ _ rfl rfl⟩) (S10) ?_
            try simp only [Act.put, List.setIfInBounds_toArray, List.set_cons_zero, List.set_cons_succ]
            refine takeD (i := 32) (v := .slice (some ⟨lg, off, none⟩) n lc) 82 rfl rfl (by kernel_rfl) (by kernel_rfl) (by kernel_rfl) (fun _ _ _ h => h) (.inl ⟨by rfl, fun W hW => exec_move _ _ rfl rfl⟩) (S10) ?_
            try simp only [Act.put, List.setIfInBounds_toArray, List.set_cons_zero, List.set_cons_succ]
            refine takeD (i := 33) (v := .int .i64 (i : Int)) 83 rfl rfl (by kernel_rfl) (by kernel_rfl) (by kernel_rfl) (fun _ _ _ h => h) (.inl ⟨by rfl, fun W hW => exec_move _ _ rfl rfl⟩) (S10) ?_
            try simp only [Act.put, List.setIfInBounds_toArray, List.set_cons_zero, List.set_cons_succ]
            refine takeD (i := 34) (v := .pointer (some ⟨lg, off + i * 3, none⟩)) 84 rfl rfl (by kernel_rfl) (by kernel_rfl) (by kernel_rfl) (fun _ _ _ h => h) (.inl ⟨by rfl, fun W hW => exec_ixWo _ _ lg off n lc i rfl rfl rfl hlt⟩) (S10) ?_
            try simp only [Act.put, List.setIfInBounds_toArray, List.set_cons_zero, List.set_cons_succ]
            refine takeD (i := 35) (v := .pointer (some ⟨lg, off + i * 3 + 1, none⟩)) 85 rfl rfl (by kernel_rfl) (by kernel_rfl) (by kernel_rfl) (fun _ _ _ h => h) (.inl ⟨by rfl, fun W hW => exec_fieldO 62 _ 1 lg (off + i * 3) (off + i * 3 + 1) rfl rfl (fun w => by kernel_rfl)⟩) (S10) ?_
            try simp only [Act.put, List.setIfInBounds_toArray, List.set_cons_zero, List.set_cons_succ]
            refine takeD (i := 36) (v := .int .i64 mt) 86 rfl rfl (by kernel_rfl) (by kernel_rfl) (by kernel_rfl) (fun _ _ _ h => h) (.inl ⟨by rfl, fun W hW => exec_load1 3 one1 _ rfl lg (off + i * 3 + 1) rfl (.int .i64 mt) (hW.2)⟩) (S10) ?_
            try simp only [Act.put, List.setIfInBounds_toArray, List.set_cons_zero, List.set_cons_succ]
            refine takeD (i := 37) (v := .bool false) 87 rfl rfl (by kernel_rfl) (by kernel_rfl) (by kernel_rfl) (fun _ _ _ h => h) (.inl ⟨by rfl, fun W hW => exec_lti _ _ _ _ _ _ rfl rfl rfl (decide_eq_false (by omega))⟩) (S10) ?_
            try simp only [Act.put, List.setIfInBounds_toArray, List.set_cons_zero, List.set_cons_succ]
            refine takeD (i := 38) (v := .bool false) 88 rfl rfl (by kernel_rfl) (by kernel_rfl) (by kernel_rfl) (fun _ _ _ h => h) (.inl ⟨by rfl, fun W hW => exec_pick _ _ _ false _ rfl rfl rfl⟩) (S10) ?_
            try simp only [Act.put, List.setIfInBounds_toArray, List.set_cons_zero, List.set_cons_succ]
            refine takeD (i := 39) (v := .bool false) 89 rfl rfl (by kernel_rfl) (by kernel_rfl) (by kernel_rfl) (fun _ _ _ h => h) (.inl ⟨by rfl, fun W hW => exec_pick _ _ _ true _ rfl rfl rfl⟩) (S10) ?_
            try simp only [Act.put, List.setIfInBounds_toArray, List.set_cons_zero, List.set_cons_succ]
            refine takeD (i := 40) (v := .bool false) 90 rfl rfl (by kernel_rfl) (by kernel_rfl) (by kernel_rfl) (fun _ _ _ h => h) (.inl ⟨by rfl, fun W hW => exec_pick _ _ _ false _ rfl rfl rfl⟩) (S10) ?_
            try simp only [Act.put, List.setIfInBounds_toArray, List.set_cons_zero, List.set_cons_succ]
            refine wpAnyH_done (by kernel_rfl) ?_ _
            have DE : Hid (Pv w kb qb u ip O1' O2' (plL ip mt L ck) (plL ip mt L ck) ck' w10) := by unfold Hid; simpa using D10
            clear D9 D10 S9 S10 Dd Sd FD b10
            go_wp2
            go_meet
            case rel => exact ⟨_, _, _, _, DE.out⟩
      case rest =>
        obtain ⟨L', O1', O2', ck', DC⟩ := hcut
        obtain ⟨wd, hwd⟩ : ∃ wd, wd = wc := ⟨_, rfl⟩
        rw [← hwd] at DC ⊢
        clear hwd D6 k6
        go_wp2
        go_loopw [10] (fun vn wr => ∃ k : Nat, vn = .int .i64 (5 * (k : Int)) ∧ k ≤ 52 ∧ Hid (Below wd.heap.size wd wr)) (fun vn _ => 52 - ((intOf vn).toNat / 5))
        case atStart => exact ⟨0, rfl, by omega, Below.refl _ _⟩
        case round =>
          obtain ⟨k, rfl, hk, BK⟩ := hrel
          obtain ⟨wk, hwk⟩ : ∃ wk, wk = wr := ⟨_, rfl⟩
          rw [← hwk] at BK ⊢
          clear hwk
          have DK := hide (DC.out.later BK.out)
          by_cases hkl : 5 * (k : Int) < 256
          · obtain ⟨z, hz⟩ : ∃ z, z = IntKind.u8.wrap (5 * (k : Int)) := ⟨_, rfl⟩
            have hz' := hz.symm
            have F1 : Hid (Calls Try.prog 25 #[.pointer (some ⟨kb + 1, 0, none⟩), .agg #[.int .u8 10, .int .u8 0, .int .u8 0, .int .u8 z]] wk fun e w' => e = .returned (.int .i64 (pfE ⟨10, 0, 0, z⟩ L')) ∧ Below wk.heap.size wk w') := icFindP_any DK.out.w.p ⟨10, 0, 0, z⟩
            have F2 : Hid (∀ W, Below wk.heap.size wk W → Calls Try.prog 28 #[.pointer (some ⟨qb, 0, none⟩), .agg #[.int .u8 10, .int .u8 0, .int .u8 0, .int .u8 z]] W fun e w' => e = .returned (.int .i64 (pfE ⟨10, 0, 0, z⟩ L')) ∧ Below W.heap.size W w') := fun W hb => rFindP_any (DK.out.later hb).w.r ⟨10, 0, 0, z⟩
            obtain ⟨fe, hfe⟩ : ∃ fe, fe = pfE ⟨10, 0, 0, z⟩ L' := ⟨_, rfl⟩
            rw [← hfe] at F1 F2
            clear hz hfe
            go_wp2_with fail
            refine F1.out.mono ?_
            rintro _ w11 ⟨rfl, b11⟩
            have F3 := hide (F2.out w11 b11)
            have B11 := hide b11
            clear b11 F1 F2
            go_wp2_with fail
            refine F3.out.mono ?_
            rintro _ w12 ⟨rfl, b12⟩
            have B12 := hide (later BK.out (later B11.out b12))
            clear b12 F3 hz'
            go_wp2
            go_roundw
            case rel => exact ⟨k + 1, by go_num, by omega, B12.out⟩
            case measure => simp [intOf]; omega
          · have F1 := hide DK.out
            obtain ⟨fe, hfe⟩ : ∃ fe, fe = pfE ip L' := ⟨_, rfl⟩
            obtain ⟨qv, cq, rq⟩ := DK.out.w.r.row
            obtain ⟨qa, qc, rfl⟩ := rq.shape
            obtain ⟨m, hm⟩ : ∃ m, m = L'.length := ⟨_, rfl⟩
            have m8 : m ≤ 8 := by rw [hm]; exact DK.out.w.r.len
            rw [← hm] at cq
            have lqk := DK.out.w.r.lt
            have luk := DK.out.ul
            go_upto_region 20 with fail
            refine region_quiet_C (fun W => Below wk.heap.size wk W) (by kernel_rfl) (by kernel_rfl) (later_drew _) ?_
            go_big_quiet_step (fail)
            go_big_quiet_want
            refine quiet_pure (.agg (ip.vals).toArray) (fun W hW => exec_loadA 35 4 aggI sizI _ rfl u 0 rfl (ip.vals) rfl ((DK.out.later hW).cu)) ?_
            go_big_quiet_on
            simp only [Act.put, List.setIfInBounds_toArray, List.set_cons_succ, List.set_cons_zero]
            go_big_quiet_want
            refine quiet_call 25 #[.pointer (some ⟨kb + 1, 0, none⟩), .agg ip.vals.toArray] (.int .i64 fe) (fun _ => by simp [Act.eval, go_sem]) (fun W hW => (icFindP_any (DK.out.later hW).w.p ip).mono fun e w' h => ⟨by rw [hfe]; exact h.1, later hW h.2⟩) ?_
            go_big_quiet_on
            simp only [Act.put, List.setIfInBounds_toArray, List.set_cons_succ, List.set_cons_zero]
            go_big_quiet_step (fail)
            go_big_quiet_want
            refine quiet_pure (.agg (ip.vals).toArray) (fun W hW => exec_loadA 35 4 aggI sizI _ rfl u 0 rfl (ip.vals) rfl ((DK.out.later hW).cu)) ?_
            go_big_quiet_on
            simp only [Act.put, List.setIfInBounds_toArray, List.set_cons_succ, List.set_cons_zero]
            go_big_quiet_want
            refine quiet_call 28 #[.pointer (some ⟨qb, 0, none⟩), .agg ip.vals.toArray] (.int .i64 fe) (fun _ => by simp [Act.eval, go_sem]) (fun W hW => (rFindP_any (DK.out.later hW).w.r ip).mono fun e w' h => ⟨by rw [hfe]; exact h.1, later hW h.2⟩) ?_
            go_big_quiet_on
            simp only [Act.put, List.setIfInBounds_toArray, List.set_cons_succ, List.set_cons_zero]
            go_big_quiet_want
            refine quiet_pure (.bool false) (fun W hW => exec_nei _ _ _ _ _ _ rfl rfl rfl (by simp)) ?_
            go_big_quiet_on
            simp only [Act.put, List.setIfInBounds_toArray, List.set_cons_succ, List.set_cons_zero]
            go_big_quiet_step (fail)
            go_big_quiet_step (fail)
            go_big_quiet_want
            refine quiet_call 29 #[.pointer (some ⟨kb + 1, 0, none⟩)] (.int .i64 (m : Int)) (fun _ => by simp [Act.eval, go_sem]) (fun W hW => (icLenP_any (DK.out.later hW).w.p).mono fun e w' h => ⟨by rw [hm]; exact h.1, by rw [h.2]; exact hW⟩) ?_
            go_big_quiet_on
            simp only [Act.put, List.setIfInBounds_toArray, List.set_cons_succ, List.set_cons_zero]
            go_big_quiet_step (fail)
            go_big_quiet_want
            refine quiet_pure (.pointer (some ⟨qb, 0, none⟩)) (fun W hW => exec_nil _ _ rfl rfl) ?_
            go_big_quiet_on
            simp only [Act.put, List.setIfInBounds_toArray, List.set_cons_succ, List.set_cons_zero]
            go_big_quiet_want
            refine quiet_pure (.pointer (some ⟨qb, 0, none⟩)) (fun W hW => exec_fieldO 60 _ 0 qb 0 0 rfl rfl (fun w => by kernel_rfl)) ?_
            go_big_quiet_on
            simp only [Act.put, List.setIfInBounds_toArray, List.set_cons_succ, List.set_cons_zero]
            go_big_quiet_want
            refine quiet_pure (.slice qa m qc) (fun W hW => exec_load1 58 onePh _ rfl qb 0 rfl (.slice qa m qc) ((hW.cell (p := ⟨qb, 0, none⟩) lqk).trans cq)) ?_
            go_big_quiet_on
            simp only [Act.put, List.setIfInBounds_toArray, List.set_cons_succ, List.set_cons_zero]
            go_big_quiet_want
            refine quiet_pure (.int .i64 (m : Int)) (fun W hW => exec_len _ 58 _ m _ (by kernel_rfl) rfl rfl) ?_
            go_big_quiet_on
            simp only [Act.put, List.setIfInBounds_toArray, List.set_cons_succ, List.set_cons_zero]
            go_big_quiet_want
            refine quiet_pure (.bool false) (fun W hW => exec_nei _ _ _ _ _ _ rfl rfl rfl (by simp)) ?_
            go_big_quiet_on
            simp only [Act.put, List.setIfInBounds_toArray, List.set_cons_succ, List.set_cons_zero]
            go_big_quiet_want
            refine quiet_pure (.bool false) (fun W hW => exec_pick _ _ _ false _ rfl rfl rfl) ?_
            go_big_quiet_on
            simp only [Act.put, List.setIfInBounds_toArray, List.set_cons_succ, List.set_cons_zero]
            go_big_quiet_step (fail)
            go_big_quiet_step (fail)
            go_big_quiet_want
            refine quiet_call 29 #[.pointer (some ⟨kb + 1, 0, none⟩)] (.int .i64 (m : Int)) (fun _ => by simp [Act.eval, go_sem]) (fun W hW => (icLenP_any (DK.out.later hW).w.p).mono fun e w' h => ⟨by rw [hm]; exact h.1, by rw [h.2]; exact hW⟩) ?_
            go_big_quiet_on
            simp only [Act.put, List.setIfInBounds_toArray, List.set_cons_succ, List.set_cons_zero]
            go_big_quiet_want
            refine quiet_pure (.bool false) (fun W hW => exec_gti2 _ _ _ _ _ _ rfl rfl rfl (decide_eq_false (by omega))) ?_
            go_big_quiet_on
            simp only [Act.put, List.setIfInBounds_toArray, List.set_cons_succ, List.set_cons_zero]
            go_big_quiet_want
            refine quiet_pure (.bool false) (fun W hW => exec_pick _ _ _ false _ rfl rfl rfl) ?_
            go_big_quiet_on
            simp only [Act.put, List.setIfInBounds_toArray, List.set_cons_succ, List.set_cons_zero]
            refine wpQuiet_nil ?_
            intro wq bq
            have DE := hide (DK.out.later bq)
            clear bq F1 hfe cq rq hm DK DC BK
            go_wp2
            go_roundw
            case rel => exact ⟨i + 1, L', O1', O2', ck', by go_num, by omega, DE.out.w⟩
            case measure => simp [intOf]; omega
    · go_wp2
      go_ret
      exact ⟨rfl, MI.out.bel⟩
end Go.Proofs.Yteiendigcaedhaa
