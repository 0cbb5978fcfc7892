
/-
  UdpPorts: the walk.
-/
import Derived.Test.YthjeaebpboilpaaU16
namespace Go.Proofs.Ythjeaebpboilpaa
open Go.RowKit Go.Shelf

/-- both tables in one memory -/
structure Up2 (w : World) (b qb : Nat) (O : Nat → Prop) (L1 : List Po) (ck : Nat) (nx : Int) (L2 : List Po) (nd : Int) (W : World) : Prop where
  p : PoAt W b L1 ck nx
  r : DPo W qb O L2 nd
  bel : Below w.heap.size w W
  lo : w.heap.size ≤ b
  bq : b + 1 < qb
  o2 : ∀ g, O g → qb < g
section
variable {w : World} {b qb : Nat} {O : Nat → Prop} {L1 : List Po} {ck : Nat} {nx : Int} {L2 : List Po} {nd : Int} {W W' : World}
theorem Up2.later (h : Up2 w b qb O L1 ck nx L2 nd W) (hb : Below W.heap.size W W') : Up2 w b qb O L1 ck nx L2 nd W' :=
  ⟨h.p.later hb, h.r.later hb, Go.Proofs.Ythjeaebpboilpaa.later h.bel hb, h.lo, h.bq, h.o2⟩
theorem Up2.prog {M : List Po} {k : Nat} {n : Int} (h : Up2 w b qb O L1 ck nx L2 nd W) (hp : PoAt W' b M k n) (hb : But (PoK b) W W') : Up2 w b qb O M k n L2 nd W' := by
  have h1 := h.bq
  refine ⟨hp, h.r.but hb (fun g e e2 => ?_), below_po h.bel h.lo hb, h.lo, h.bq, h.o2⟩
  have hg : qb ≤ g := by
    rcases e with e | e
    · omega
    · have := h.o2 g e; omega
  rcases e2 with e2 | e2 <;> omega
theorem Up2.ref {O' K : Nat → Prop} {M : List Po} {n : Int} (h : Up2 w b qb O L1 ck nx L2 nd W) (hp : DPo W' qb O' M n) (hb : But K W W') (hK : ∀ g, K g → g = qb ∨ O g) (hO : ∀ g, O' g → O g ∨ W.heap.size ≤ g) : Up2 w b qb O' L1 ck nx M n W' := by
  have h1 := h.bq
  have h2 := h.lo
  have h3 := h.r.lt
  have kk : ∀ g, K g → qb ≤ g := fun g e => by
    rcases hK g e with e | e
    · omega
    · have := h.o2 g e; omega
  refine ⟨h.p.but hb (fun g e e2 => ?_), hp, h.bel.trans (hb.below h.bel.size (fun g hg e => ?_)), h.lo, h.bq, fun g e => ?_⟩
  · have := kk g e2
    rcases e with e | e <;> omega
  · have := kk g e; omega
  · rcases hO g e with e | e
    · exact h.o2 g e
    · omega
theorem Up2.bindP (h : Up2 w b qb O L1 ck nx L2 nd W) (n0 : 49152 ≤ nx) (n1 : nx ≤ 65535) (who port : Int) : Calls Try.prog 17 #[.pointer (some ⟨b + 1, 0, none⟩), .int .i64 who, .int .i64 port] W fun e W' => ∃ v, e = .returned v ∧ ∃ r err L' ck' nx', v = .tuple #[.int .i64 r, .int .i64 err] ∧ Bnd nx L1 ck who port r err L' ck' nx' ∧ Up2 w b qb O L' ck' nx' L2 nd W' := by
  refine (uBind_any h.p n0 n1 who port).mono ?_
  rintro _ W' ⟨r, err, L', ck', nx', rfl, h1, h2, h3⟩
  exact ⟨_, rfl, r, err, L', ck', nx', rfl, h1, h.prog h2 h3⟩
theorem Up2.bindR {nx2 : Int} (h : Up2 w b qb O L1 ck nx L2 nd W) (hnd : nxD nd nx2) (n0 : 49152 ≤ nx2) (n1 : nx2 ≤ 65535) (hl : L2.length ≤ 900) (k2 : Nat) (who port : Int) : Calls Try.prog 18 #[.pointer (some ⟨qb, 0, none⟩), .int .i64 who, .int .i64 port] W fun e W' => ∃ v, e = .returned v ∧ ∃ r err L' ck' nx' nd' O', v = .tuple #[.int .i64 r, .int .i64 err] ∧ Bnd nx2 L2 k2 who port r err L' ck' nx' ∧ nxD nd' nx' ∧ Up2 w b qb O' L1 ck nx L' nd' W' := by
  refine (rBind_any h.r hnd n0 n1 hl k2 who port).mono ?_
  rintro _ W' ⟨r, err, L', ck', nx', nd', rfl, h1, h2, h3, h4⟩
  exact ⟨_, rfl, r, err, L', ck', nx', nd', _, rfl, h1, h2, h.ref h3 h4 (fun g e => e) (fun g e => by
    rcases e with e | e
    · exact .inl e
    · exact .inr e.1)⟩
end
theorem prt_no {port : Int} (h1 : prt port = true) (h2 : prt port = false) : False := by rw [h1] at h2; cases h2
theorem Bnd.uniq {nx : Int} {L : List Po} {ck : Nat} {who port r err : Int} {L' : List Po} {ck' : Nat} {nx' : Int} {r2 err2 : Int} {L2 : List Po} {ck2 : Nat} {nx2 : Int} (h : Bnd nx L ck who port r err L' ck' nx') (h2 : Bnd nx L ck who port r2 err2 L2 ck2 nx2) (n0 : 49152 ≤ nx) (n1 : nx ≤ 65535) : r = r2 ∧ err = err2 ∧ L' = L2 ∧ ck' = ck2 ∧ nx' = nx2 := by
  have no : ∀ x : Int, otk x L = true → otk x L = false → False := fun x a b => by rw [a] at b; cases b
  rcases h with ⟨a0, a1, a2, a3, a4, a5⟩ | ⟨a0, a1, a2, a3, a4, a5, a6, a7⟩ | ⟨a0, a1, a2, a3, a4, a5, a6, a7⟩ | ⟨a0, a1, a2, a3, a4, a5, a6, a7, a8⟩ | ⟨a0, a1, a2, a3, a4, a5, a6, a7, a8⟩ <;>
  rcases h2 with ⟨b0, b1, b2, b3, b4, b5⟩ | ⟨b0, b1, b2, b3, b4, b5, b6, b7⟩ | ⟨b0, b1, b2, b3, b4, b5, b6, b7⟩ | ⟨b0, b1, b2, b3, b4, b5, b6, b7, b8⟩ | ⟨b0, b1, b2, b3, b4, b5, b6, b7, b8⟩
  · exact ⟨by omega, by omega, by rw [a3, b3], by omega, by omega⟩
  · rcases a0 with a0 | a0
    · exact absurd b0 a0.1
    · omega
  · rcases a0 with a0 | a0
    · exact absurd b0 a0.1
    · omega
  · rcases a0 with a0 | a0
    · exact (prt_no b1 a0.2).elim
    · omega
  · rcases a0 with a0 | a0
    · exact (prt_no b1 a0.2).elim
    · omega
  · rcases b0 with b0 | b0
    · exact absurd a0 b0.1
    · omega
  · exact ⟨by omega, by omega, by rw [a5, b5], by omega, by omega⟩
  · exact absurd (a3.uniq b3 n0 n1).symm b2
  · exact absurd a0 b0
  · exact absurd a0 b0
  · rcases b0 with b0 | b0
    · exact absurd a0 b0.1
    · omega
  · exact absurd (a3.uniq b3 n0 n1) a2
  · have e := a3.uniq b3 n0 n1
    subst e
    exact ⟨rfl, by omega, by rw [a5, b5], by omega, by rw [a7, b7]⟩
  · exact absurd a0 b0
  · exact absurd a0 b0
  · rcases b0 with b0 | b0
    · exact (prt_no a1 b0.2).elim
    · omega
  · exact absurd b0 a0
  · exact absurd b0 a0
  · exact ⟨by omega, by omega, by rw [a6, b6], by omega, by omega⟩
  · exact (no port a3 b3).elim
  · rcases b0 with b0 | b0
    · exact (prt_no a1 b0.2).elim
    · omega
  · exact absurd b0 a0
  · exact absurd b0 a0
  · exact (no port b3 a3).elim
  · exact ⟨by omega, by omega, by rw [a6, b6], by omega, by omega⟩
/-- what Bind leaves is right -/
theorem Bnd.ok {nx : Int} {L : List Po} {ck : Nat} {who port r err : Int} {L' : List Po} {ck' : Nat} {nx' : Int} (h : Bnd nx L ck who port r err L' ck' nx') (hL : OOk L ck) (n0 : 49152 ≤ nx) (n1 : nx ≤ 65535) : OOk L' ck' ∧ 49152 ≤ nx' ∧ nx' ≤ 65535 ∧ L'.length ≤ L.length + 1 ∧ (err = 0 → port ≠ 0 → otk port L = false) := by
  have nb : ∀ p : Int, 49152 ≤ p → p ≤ 65535 → 49152 ≤ nxt p ∧ nxt p ≤ 65535 := fun p h0 h1 => by unfold nxt; split <;> omega
  rcases h with ⟨a0, a1, a2, a3, a4, a5⟩ | ⟨a0, a1, a2, a3, a4, a5, a6, a7⟩ | ⟨a0, a1, a2, a3, a4, a5, a6, a7⟩ | ⟨a0, a1, a2, a3, a4, a5, a6, a7, a8⟩ | ⟨a0, a1, a2, a3, a4, a5, a6, a7, a8⟩
  · rw [a3, a4, a5]; exact ⟨hL, n0, n1, by omega, fun e => by omega⟩
  · rw [a5, a6, a7]; exact ⟨hL, n0, n1, by omega, fun e => by omega⟩
  · obtain ⟨b0, b1, b2⟩ := a3.bd a2 n0 n1
    rw [a5, a6, a7]
    exact ⟨hL.push b2, (nb r b0 b1).1, (nb r b0 b1).2, by rw [List.length_append]; exact Nat.le_refl _, fun _ e => absurd a0 e⟩
  · rw [a6, a7, a8]; exact ⟨hL, n0, n1, by omega, fun e => by omega⟩
  · rw [a6, a7, a8]
    exact ⟨hL.push a3, n0, n1, by rw [List.length_append]; exact Nat.le_refl _, fun _ _ => a3⟩
theorem exec_ixOp {o : Oper} {w : World} {ev : Operand → Value} (x y : Operand) (g off n c k : Nat) (ho : o.op = .indexAddr 34 x y) (hx : ev x = .slice (some ⟨g, off, none⟩) n c) (hy : ev y = .int .i64 (k : Int)) (hk : k < n) : (execOp ev o).run Try.prog w = .ok (.value (.pointer (some ⟨g, off + k * 3, none⟩))) w := by
  have hki : (k : Int) < n := by omega
  unfold execOp
  simp [ho, hx, hy, go_sem, hki]
set_option maxRecDepth 100000 in
set_option maxHeartbeats 16000000 in
theorem uPorts_walk (lv : Value) (l : List OpU) (w : World) (hl : IsO w.heap.size w lv l) (_ : l.length ≤ 8796093021952) :
    Calls Try.prog 5 #[lv] w fun e w' => e = .returned (.bool true) ∧ Below w.heap.size w w' := by
  obtain ⟨la, lc, rfl, hlc⟩ := hl
  obtain ⟨n, hn⟩ : ∃ n, n = l.length := ⟨_, rfl⟩
  rw [← hn] at hlc ⊢
  have HLC := hide hlc
  have HN := hide hn
  clear hlc hn
  go_enter Try.func5, Try.ntmps5
  go_wp2_with fail
  refine (uAwake_any w).mono ?_
  rintro _ w2 ⟨rfl, b2⟩
  have HB2 := hide b2
  clear b2
  have NB := hide (uNew_any w2)
  obtain ⟨b, hb⟩ : ∃ b, b = w2.heap.size := ⟨_, rfl⟩
  rw [← hb] at NB
  have KLO : Hid (w.heap.size ≤ b) := by rw [hb]; exact HB2.out.size
  go_wp2_with fail
  refine NB.out.mono ?_
  rintro _ w3 ⟨rfl, K3, b3'⟩
  have b3 : Below w2.heap.size w2 w3 := by rw [← hb]; exact b3'
  have BEL3 := hide (later HB2.out b3)
  obtain ⟨qb, hqb⟩ : ∃ qb, qb = w3.heap.size := ⟨_, rfl⟩
  obtain ⟨w4, hw4⟩ : ∃ w4, w4 = w3.alloc (.cells #[.slice none 0 0, .int .i64 0] 40) := ⟨_, rfl⟩
  have b4 : Below w3.heap.size w3 w4 := by rw [hw4]; exact later_alloc _ _
  have c4 : CellsAt w4 qb 0 [.slice none 0 0, .int .i64 0] := by rw [hw4, hqb]; exact CellsAt.new w3 _ _
  have KQ : b + 1 < qb := by rw [hqb]; exact K3.lt
  have M4 : Hid (Up2 w b qb (fun _ => False) [] 0 49152 [] 0 w4) :=
    ⟨K3.later b4, ⟨⟨_, c4 0 _ rfl, RowG.nil _ _ _ _⟩, c4 1 _ rfl, (fun y => by rw [hw4, hqb]; exact frozen_new w3 _ _ _), id⟩, later BEL3.out b4, KLO.out, KQ, fun g e => False.elim e⟩
  have hw4' := hw4.symm
  have hqb' := hqb.symm
  have BEL4 := hide (later BEL3.out b4)
  clear K3 b3 b3' b4 c4 NB HB2 hb BEL3 hw4 hqb
  by_cases g3 : (300 : Int) < (n : Int)
  · go_wp2
    go_ret
    exact ⟨rfl, BEL4.out⟩
  go_upto_region 6 with fail
  clear hw4' hqb' BEL4
  go_wp2
  go_loopw [6] (fun vi wr => ∃ (i : Nat) (L : List Po) (O : Nat → Prop) (ck : Nat) (nx nd : Int), vi = .int .i64 (i : Int) ∧ i ≤ n ∧ Hid (L.length ≤ i ∧ OOk L ck ∧ 49152 ≤ nx ∧ nx ≤ 65535 ∧ nxD nd nx) ∧ Hid (Up2 w b qb O L ck nx L nd wr)) (fun vi _ => n - (intOf vi).toNat)
  case atStart => exact ⟨0, [], _, 0, 49152, 0, rfl, Nat.zero_le _, ⟨Nat.le_refl _, OOk.nil 0, by decide, by decide, .inr ⟨rfl, rfl⟩⟩, M4.out⟩
  case round =>
    obtain ⟨i, L, O, ck, nx, nd, rfl, hi, FI, MI⟩ := hrel
    obtain ⟨wp, hwp⟩ : ∃ wp, wp = wr := ⟨_, rfl⟩
    rw [← hwp] at MI ⊢
    clear hwp M4
    by_cases hlt : i < n
    · obtain ⟨lg, off, rfl, hg, hcs⟩ := HLC.out (by omega)
      obtain ⟨o, ho⟩ : ∃ o, l[i]? = some o := ⟨_, List.getElem?_eq_getElem (by rw [← HN.out]; exact hlt)⟩
      obtain ⟨kd, wt, pt⟩ := o
      have CO : Hid (∀ W, Below w.heap.size w W → W.cell? ⟨lg, off + i * 3, none⟩ = some (.int .i64 kd) ∧ W.cell? ⟨lg, off + i * 3 + 1, none⟩ = some (.int .i64 wt) ∧ W.cell? ⟨lg, off + i * 3 + 2, none⟩ = some (.int .i64 pt)) := fun W hb => by
        have h := (hcs i _ ho).later hg hb
        exact ⟨h 0 _ rfl, h 1 _ rfl, h 2 _ rfl⟩
      have iz : (i : Int) < (n : Int) := by omega
      clear ho hcs
      have k0 := (CO.out wp MI.out.bel).1
      have k1 := (CO.out wp MI.out.bel).2.1
      have k2 := (CO.out wp MI.out.bel).2.2
      go_upto_if 51 with fail
      go_cut [] (fun wc => ∃ (L' : List Po) (O' : Nat → Prop) (ck' : Nat) (nx' nd' : Int), Hid (L'.length ≤ i + 1 ∧ OOk L' ck' ∧ 49152 ≤ nx' ∧ nx' ≤ 65535 ∧ nxD nd' nx') ∧ Hid (Up2 w b qb O' L' ck' nx' L' nd' wc))
      case first =>
        by_cases ek : kd = 1
        · have FR := hide (uFree_any MI.out.p FI.out.2.1 wt)
          subst ek
          go_wp2_with fail
          refine FR.out.mono ?_
          rintro _ w5 ⟨rfl, P5, bo5⟩
          have D5 := hide (MI.out.prog P5 bo5)
          have k5 := (CO.out w5 D5.out.bel).2.1
          have FR2 := hide (rFree_any D5.out.r (by have := FI.out.1; omega) wt)
          clear P5 bo5 FR k0 k1 k2
          go_wp2_with fail
          refine FR2.out.mono ?_
          rintro _ w6 ⟨rfl, P6, bo6⟩
          have D6 := hide (D5.out.ref P6 bo6 (fun g e => .inl e) (fun g e => .inr e.1))
          clear P6 bo6 FR2 k5
          have F6 : Hid ((L.filter (fun e => !(e.who == wt))).length ≤ i + 1 ∧ OOk (L.filter (fun e => !(e.who == wt))) ck ∧ 49152 ≤ nx ∧ nx ≤ 65535 ∧ nxD nd nx) :=
            ⟨by have := FI.out.1; have := List.length_filter_le (fun e : Po => !(e.who == wt)) L; omega, FI.out.2.1.filter _, FI.out.2.2⟩
          go_wp2
          go_meet
          case rel => exact ⟨_, _, ck, nx, nd, F6.out, D6.out⟩
        · have z : (kd == 1) = false := by simpa using ek
          have W1 := hide (uWho_any MI.out.p pt)
          obtain ⟨ow, how⟩ : ∃ ow, ow = owh pt L := ⟨_, rfl⟩
          obtain ⟨tk, htk⟩ : ∃ tk, tk = otk pt L := ⟨_, rfl⟩
          rw [← how, ← htk] at W1
          have HTK := hide htk
          clear htk how
          go_wp2_with fail
          refine W1.out.mono ?_
          rintro _ wx ⟨rfl, hw⟩
          rw [hw]
          clear hw wx W1 k0 k1 k2
          go_upto_region 13 with fail
          have Dd := MI.out.later (later_drew wp)
          have Sd := (CO.out _ Dd.bel).2
          refine wp_region_held (S := fun W => W.cell? ⟨lg, off + i * 3 + 1, none⟩ = some (.int .i64 wt) ∧ W.cell? ⟨lg, off + i * 3 + 2, none⟩ = some (.int .i64 pt)) (by kernel_rfl) ?_
          refine takeD (i := 0) (v := .pointer (some ⟨b + 1, 0, none⟩)) 77 rfl rfl (by kernel_rfl) (by kernel_rfl) (by kernel_rfl) (fun _ _ _ h => h) (.inl ⟨by rfl, fun W hW => exec_move _ _ rfl rfl⟩) (Sd) ?_
          try simp only [Act.put, List.setIfInBounds_toArray, List.set_cons_zero, List.set_cons_succ]
          refine takeD (i := 1) (v := .slice (some ⟨lg, off, none⟩) n lc) 78 rfl rfl (by kernel_rfl) (by kernel_rfl) (by kernel_rfl) (fun _ _ _ h => h) (.inl ⟨by rfl, fun W hW => exec_move _ _ rfl rfl⟩) (Sd) ?_
          try simp only [Act.put, List.setIfInBounds_toArray, List.set_cons_zero, List.set_cons_succ]
          refine takeD (i := 2) (v := .int .i64 (i : Int)) 79 rfl rfl (by kernel_rfl) (by kernel_rfl) (by kernel_rfl) (fun _ _ _ h => h) (.inl ⟨by rfl, fun W hW => exec_move _ _ rfl rfl⟩) (Sd) ?_
          try simp only [Act.put, List.setIfInBounds_toArray, List.set_cons_zero, List.set_cons_succ]
          refine takeD (i := 3) (v := .pointer (some ⟨lg, off + i * 3, none⟩)) 80 rfl rfl (by kernel_rfl) (by kernel_rfl) (by kernel_rfl) (fun _ _ _ h => h) (.inl ⟨by rfl, fun W hW => exec_ixOp _ _ lg off n lc i rfl rfl rfl hlt⟩) (Sd) ?_
          try simp only [Act.put, List.setIfInBounds_toArray, List.set_cons_zero, List.set_cons_succ]
          refine takeD (i := 4) (v := .pointer (some ⟨lg, off + i * 3 + 1, none⟩)) 81 rfl rfl (by kernel_rfl) (by kernel_rfl) (by kernel_rfl) (fun _ _ _ h => h) (.inl ⟨by rfl, fun W hW => exec_fieldO 42 _ 1 lg (off + i * 3) (off + i * 3 + 1) rfl rfl (fun w => by kernel_rfl)⟩) (Sd) ?_
          try simp only [Act.put, List.setIfInBounds_toArray, List.set_cons_zero, List.set_cons_succ]
          refine takeD (i := 5) (v := .int .i64 wt) 82 rfl rfl (by kernel_rfl) (by kernel_rfl) (by kernel_rfl) (fun _ _ _ h => h) (.inl ⟨by rfl, fun W hW => exec_load1 3 one1 _ rfl lg (off + i * 3 + 1) rfl (.int .i64 wt) (hW.1)⟩) (Sd) ?_
          try simp only [Act.put, List.setIfInBounds_toArray, List.set_cons_zero, List.set_cons_succ]
          refine takeD (i := 6) (v := .slice (some ⟨lg, off, none⟩) n lc) 83 rfl rfl (by kernel_rfl) (by kernel_rfl) (by kernel_rfl) (fun _ _ _ h => h) (.inl ⟨by rfl, fun W hW => exec_move _ _ rfl rfl⟩) (Sd) ?_
          try simp only [Act.put, List.setIfInBounds_toArray, List.set_cons_zero, List.set_cons_succ]
          refine takeD (i := 7) (v := .int .i64 (i : Int)) 84 rfl rfl (by kernel_rfl) (by kernel_rfl) (by kernel_rfl) (fun _ _ _ h => h) (.inl ⟨by rfl, fun W hW => exec_move _ _ rfl rfl⟩) (Sd) ?_
          try simp only [Act.put, List.setIfInBounds_toArray, List.set_cons_zero, List.set_cons_succ]
          refine takeD (i := 8) (v := .pointer (some ⟨lg, off + i * 3, none⟩)) 85 rfl rfl (by kernel_rfl) (by kernel_rfl) (by kernel_rfl) (fun _ _ _ h => h) (.inl ⟨by rfl, fun W hW => exec_ixOp _ _ lg off n lc i rfl rfl rfl hlt⟩) (Sd) ?_
          try simp only [Act.put, List.setIfInBounds_toArray, List.set_cons_zero, List.set_cons_succ]
          refine takeD (i := 9) (v := .pointer (some ⟨lg, off + i * 3 + 2, none⟩)) 86 rfl rfl (by kernel_rfl) (by kernel_rfl) (by kernel_rfl) (fun _ _ _ h => h) (.inl ⟨by rfl, fun W hW => exec_fieldO 42 _ 2 lg (off + i * 3) (off + i * 3 + 2) rfl rfl (fun w => by kernel_rfl)⟩) (Sd) ?_
          try simp only [Act.put, List.setIfInBounds_toArray, List.set_cons_zero, List.set_cons_succ]
          refine takeD (i := 10) (v := .int .i64 pt) 87 rfl rfl (by kernel_rfl) (by kernel_rfl) (by kernel_rfl) (fun _ _ _ h => h) (.inl ⟨by rfl, fun W hW => exec_load1 3 one1 _ rfl lg (off + i * 3 + 2) rfl (.int .i64 pt) (hW.2)⟩) (Sd) ?_
          try simp only [Act.put, List.setIfInBounds_toArray, List.set_cons_zero, List.set_cons_succ]
          refine callD 11 88 (by kernel_rfl) rfl rfl (by rfl) 17 #[.pointer (some ⟨b + 1, 0, none⟩), .int .i64 wt, .int .i64 pt] (exec_callF _ _ _ _ rfl (map3 rfl rfl rfl) (enters_of Try.func17 (by kernel_rfl) rfl)) _ (Dd.bindP FI.out.2.2.1 FI.out.2.2.2.1 wt pt) ?_
          rintro _ w7 ⟨r, err, L7, ck7, nx7, rfl, BD7, D7⟩
          have S7 := (CO.out _ D7.bel).2
          refine ⟨S7, ?_⟩
          simp only [Act.put, List.setIfInBounds_toArray, List.set_cons_zero, List.set_cons_succ]
          refine takeD (i := 12) (v := .tuple #[.int .i64 r, .int .i64 err]) 76 rfl rfl (by kernel_rfl) (by kernel_rfl) (by kernel_rfl) (fun _ _ _ h => h) (.inl ⟨by rfl, fun W hW => exec_move _ _ rfl rfl⟩) (S7) ?_
          try simp only [Act.put, List.setIfInBounds_toArray, List.set_cons_zero, List.set_cons_succ]
          refine takeD (i := 13) (v := .int .i64 r) 89 rfl rfl (by kernel_rfl) (by kernel_rfl) (by kernel_rfl) (fun _ _ _ h => h) (.inl ⟨by rfl, fun W hW => exec_ext _ 0 [.int .i64 r, .int .i64 err] _ rfl rfl rfl⟩) (S7) ?_
          try simp only [Act.put, List.setIfInBounds_toArray, List.set_cons_zero, List.set_cons_succ]
          refine takeD (i := 14) (v := .int .i64 err) 90 rfl rfl (by kernel_rfl) (by kernel_rfl) (by kernel_rfl) (fun _ _ _ h => h) (.inl ⟨by rfl, fun W hW => exec_ext _ 1 [.int .i64 r, .int .i64 err] _ rfl rfl rfl⟩) (S7) ?_
          try simp only [Act.put, List.setIfInBounds_toArray, List.set_cons_zero, List.set_cons_succ]
          refine takeD (i := 15) (v := .int .i64 r) 9 rfl rfl (by kernel_rfl) (by kernel_rfl) (by kernel_rfl) (fun _ _ _ h => h) (.inl ⟨by rfl, fun W hW => exec_assign _ _ rfl rfl⟩) (S7) ?_
          try simp only [Act.put, List.setIfInBounds_toArray, List.set_cons_zero, List.set_cons_succ]
          refine takeD (i := 16) (v := .int .i64 err) 10 rfl rfl (by kernel_rfl) (by kernel_rfl) (by kernel_rfl) (fun _ _ _ h => h) (.inl ⟨by rfl, fun W hW => exec_assign _ _ rfl rfl⟩) (S7) ?_
          try simp only [Act.put, List.setIfInBounds_toArray, List.set_cons_zero, List.set_cons_succ]
          refine wpAnyH_done (by kernel_rfl) ?_ _
          have D8 := hide D7
          have HBD := hide BD7
          clear D7 Dd Sd S7 BD7
          go_upto_region 14 with fail
          have Dd := D8.out.later (later_drew w7)
          have Sd := (CO.out _ Dd.bel).2
          refine wp_region_held (S := fun W => W.cell? ⟨lg, off + i * 3 + 1, none⟩ = some (.int .i64 wt) ∧ W.cell? ⟨lg, off + i * 3 + 2, none⟩ = some (.int .i64 pt)) (by kernel_rfl) ?_
          refine takeD (i := 0) (v := .pointer (some ⟨qb, 0, none⟩)) 92 rfl rfl (by kernel_rfl) (by kernel_rfl) (by kernel_rfl) (fun _ _ _ h => h) (.inl ⟨by rfl, fun W hW => exec_move _ _ rfl rfl⟩) (Sd) ?_
          try simp only [Act.put, List.setIfInBounds_toArray, List.set_cons_zero, List.set_cons_succ]
          refine takeD (i := 1) (v := .slice (some ⟨lg, off, none⟩) n lc) 93 rfl rfl (by kernel_rfl) (by kernel_rfl) (by kernel_rfl) (fun _ _ _ h => h) (.inl ⟨by rfl, fun W hW => exec_move _ _ rfl rfl⟩) (Sd) ?_
          try simp only [Act.put, List.setIfInBounds_toArray, List.set_cons_zero, List.set_cons_succ]
          refine takeD (i := 2) (v := .int .i64 (i : Int)) 94 rfl rfl (by kernel_rfl) (by kernel_rfl) (by kernel_rfl) (fun _ _ _ h => h) (.inl ⟨by rfl, fun W hW => exec_move _ _ rfl rfl⟩) (Sd) ?_
          try simp only [Act.put, List.setIfInBounds_toArray, List.set_cons_zero, List.set_cons_succ]
          refine takeD (i := 3) (v := .pointer (some ⟨lg, off + i * 3, none⟩)) 95 rfl rfl (by kernel_rfl) (by kernel_rfl) (by kernel_rfl) (fun _ _ _ h => h) (.inl ⟨by rfl, fun W hW => exec_ixOp _ _ lg off n lc i rfl rfl rfl hlt⟩) (Sd) ?_
          try simp only [Act.put, List.setIfInBounds_toArray, List.set_cons_zero, List.set_cons_succ]
          refine takeD (i := 4) (v := .pointer (some ⟨lg, off + i * 3 + 1, none⟩)) 96 rfl rfl (by kernel_rfl) (by kernel_rfl) (by kernel_rfl) (fun _ _ _ h => h) (.inl ⟨by rfl, fun W hW => exec_fieldO 42 _ 1 lg (off + i * 3) (off + i * 3 + 1) rfl rfl (fun w => by kernel_rfl)⟩) (Sd) ?_
          try simp only [Act.put, List.setIfInBounds_toArray, List.set_cons_zero, List.set_cons_succ]
          refine takeD (i := 5) (v := .int .i64 wt) 97 rfl rfl (by kernel_rfl) (by kernel_rfl) (by kernel_rfl) (fun _ _ _ h => h) (.inl ⟨by rfl, fun W hW => exec_load1 3 one1 _ rfl lg (off + i * 3 + 1) rfl (.int .i64 wt) (hW.1)⟩) (Sd) ?_
          try simp only [Act.put, List.setIfInBounds_toArray, List.set_cons_zero, List.set_cons_succ]
          refine takeD (i := 6) (v := .slice (some ⟨lg, off, none⟩) n lc) 98 rfl rfl (by kernel_rfl) (by kernel_rfl) (by kernel_rfl) (fun _ _ _ h => h) (.inl ⟨by rfl, fun W hW => exec_move _ _ rfl rfl⟩) (Sd) ?_
          try simp only [Act.put, List.setIfInBounds_toArray, List.set_cons_zero, List.set_cons_succ]
          refine takeD (i := 7) (v := .int .i64 (i : Int)) 99 rfl rfl (by kernel_rfl) (by kernel_rfl) (by kernel_rfl) (fun _ _ _ h => h) (.inl ⟨by rfl, fun W hW => exec_move _ _ rfl rfl⟩) (Sd) ?_
          try simp only [Act.put, List.setIfInBounds_toArray, List.set_cons_zero, List.set_cons_succ]
          refine takeD (i := 8) (v := .pointer (some ⟨lg, off + i * 3, none⟩)) 100 rfl rfl (by kernel_rfl) (by kernel_rfl) (by kernel_rfl) (fun _ _ _ h => h) (.inl ⟨by rfl, fun W hW => exec_ixOp _ _ lg off n lc i rfl rfl rfl hlt⟩) (Sd) ?_
          try simp only [Act.put, List.setIfInBounds_toArray, List.set_cons_zero, List.set_cons_succ]
          refine takeD (i := 9) (v := .pointer (some ⟨lg, off + i * 3 + 2, none⟩)) 101 rfl rfl (by kernel_rfl) (by kernel_rfl) (by kernel_rfl) (fun _ _ _ h => h) (.inl ⟨by rfl, fun W hW => exec_fieldO 42 _ 2 lg (off + i * 3) (off + i * 3 + 2) rfl rfl (fun w => by kernel_rfl)⟩) (Sd) ?_
          try simp only [Act.put, List.setIfInBounds_toArray, List.set_cons_zero, List.set_cons_succ]
          refine takeD (i := 10) (v := .int .i64 pt) 102 rfl rfl (by kernel_rfl) (by kernel_rfl) (by kernel_rfl) (fun _ _ _ h => h) (.inl ⟨by rfl, fun W hW => exec_load1 3 one1 _ rfl lg (off + i * 3 + 2) rfl (.int .i64 pt) (hW.2)⟩) (Sd) ?_
          try simp only [Act.put, List.setIfInBounds_toArray, List.set_cons_zero, List.set_cons_succ]
          refine callD 11 103 (by kernel_rfl) rfl rfl (by rfl) 18 #[.pointer (some ⟨qb, 0, none⟩), .int .i64 wt, .int .i64 pt] (exec_callF _ _ _ _ rfl (map3 rfl rfl rfl) (enters_of Try.func18 (by kernel_rfl) rfl)) _ (Dd.bindR FI.out.2.2.2.2 FI.out.2.2.1 FI.out.2.2.2.1 (by have := FI.out.1; omega) ck wt pt) ?_
          rintro _ w9 ⟨r2, err2, L9, ck9, nx9, nd9, O9, rfl, BD9, ND9, D9⟩
          obtain ⟨q1, q2, q3, q4, q5⟩ := HBD.out.uniq BD9 FI.out.2.2.1 FI.out.2.2.2.1
          subst q1 q2 q3 q4 q5
          have S9 := (CO.out _ D9.bel).2
          refine ⟨S9, ?_⟩
          simp only [Act.put, List.setIfInBounds_toArray, List.set_cons_zero, List.set_cons_succ]
          refine takeD (i := 12) (v := .tuple #[.int .i64 r, .int .i64 err]) 91 rfl rfl (by kernel_rfl) (by kernel_rfl) (by kernel_rfl) (fun _ _ _ h => h) (.inl ⟨by rfl, fun W hW => exec_move _ _ rfl rfl⟩) (S9) ?_
          try simp only [Act.put, List.setIfInBounds_toArray, List.set_cons_zero, List.set_cons_succ]
          refine takeD (i := 13) (v := .int .i64 r) 104 rfl rfl (by kernel_rfl) (by kernel_rfl) (by kernel_rfl) (fun _ _ _ h => h) (.inl ⟨by rfl, fun W hW => exec_ext _ 0 [.int .i64 r, .int .i64 err] _ rfl rfl rfl⟩) (S9) ?_
          try simp only [Act.put, List.setIfInBounds_toArray, List.set_cons_zero, List.set_cons_succ]
          refine takeD (i := 14) (v := .int .i64 err) 105 rfl rfl (by kernel_rfl) (by kernel_rfl) (by kernel_rfl) (fun _ _ _ h => h) (.inl ⟨by rfl, fun W hW => exec_ext _ 1 [.int .i64 r, .int .i64 err] _ rfl rfl rfl⟩) (S9) ?_
          try simp only [Act.put, List.setIfInBounds_toArray, List.set_cons_zero, List.set_cons_succ]
          refine takeD (i := 15) (v := .int .i64 r) 11 rfl rfl (by kernel_rfl) (by kernel_rfl) (by kernel_rfl) (fun _ _ _ h => h) (.inl ⟨by rfl, fun W hW => exec_assign _ _ rfl rfl⟩) (S9) ?_
          try simp only [Act.put, List.setIfInBounds_toArray, List.set_cons_zero, List.set_cons_succ]
          refine takeD (i := 16) (v := .int .i64 err) 12 rfl rfl (by kernel_rfl) (by kernel_rfl) (by kernel_rfl) (fun _ _ _ h => h) (.inl ⟨by rfl, fun W hW => exec_assign _ _ rfl rfl⟩) (S9) ?_
          try simp only [Act.put, List.setIfInBounds_toArray, List.set_cons_zero, List.set_cons_succ]
          refine wpAnyH_done (by kernel_rfl) ?_ _
          have OK9 := BD9.ok FI.out.2.1 FI.out.2.2.1 FI.out.2.2.2.1
          have F9 : Hid (L7.length ≤ i + 1 ∧ OOk L7 ck7 ∧ 49152 ≤ nx7 ∧ nx7 ≤ 65535 ∧ nxD nd9 nx7) := ⟨by have := FI.out.1; have := OK9.2.2.2.1; omega, OK9.1, OK9.2.1, OK9.2.2.1, ND9⟩
          have k9 := S9.2
          have DE := hide D9
          have TKF : Hid (err = 0 → pt ≠ 0 → tk = false) := fun e1 e2 => by rw [HTK.out]; exact OK9.2.2.2.2 e1 e2
          clear D9 Dd Sd S9 BD9 ND9 OK9 D8 HBD
          by_cases e0 : err = 0
          · by_cases e1 : pt = 0
            · subst e0 e1
              go_wp2
              go_meet
              case rel => exact ⟨_, _, _, _, _, F9.out, DE.out⟩
            · have e2 := TKF.out e0 e1
              have z1 : (pt != 0) = true := by simp [e1]
              have z2 : (pt == 0) = false := by simp [e1]
              subst e0 e2
              go_wp2
              go_meet
              case rel => exact ⟨_, _, _, _, _, F9.out, DE.out⟩
          · have z3 : (err == 0) = false := by simpa using e0
            go_wp2
            go_meet
            case rel => exact ⟨_, _, _, _, _, F9.out, DE.out⟩
      case rest =>
        obtain ⟨L', O', ck', nx', nd', FC, DC⟩ := hcut
        obtain ⟨wd, hwd⟩ : ∃ wd, wd = wc := ⟨_, rfl⟩
        rw [← hwd] at DC ⊢
        clear hwd k0 k1 k2 MI FI
        have k2 := (CO.out wd DC.out.bel).2.2
        have W1 := hide (uWho_any DC.out.p pt)
        have W2 := hide (rWho_any DC.out.r (by have := FC.out.1; omega) pt)
        obtain ⟨ow, how⟩ : ∃ ow, ow = owh pt L' := ⟨_, rfl⟩
        obtain ⟨tk, htk⟩ : ∃ tk, tk = otk pt L' := ⟨_, rfl⟩
        rw [← how, ← htk] at W1 W2
        clear htk how
        go_wp2_with fail
        refine W1.out.mono ?_
        rintro _ wx ⟨rfl, hw⟩
        rw [hw]
        clear hw wx W1
        go_wp2_with fail
        refine W2.out.mono ?_
        rintro _ wx ⟨rfl, hw⟩
        rw [hw]
        clear hw wx W2
        go_wp2
        go_roundw
        case rel => exact ⟨i + 1, L', O', ck', nx', nd', by go_num, by omega, FC.out, DC.out⟩
        case measure => simp [intOf]; omega
    · have iz : ¬ (i : Int) < (n : Int) := by omega
      obtain ⟨v, cv, rv⟩ := MI.out.r.row
      obtain ⟨va, vc, rfl⟩ := rv.shape
      obtain ⟨m, hm⟩ : ∃ m, m = L.length := ⟨_, rfl⟩
      rw [← hm] at cv rv
      have m3 : m ≤ 300 := by have := FI.out.1; omega
      have mz : (m : Int) ≤ 300 := by omega
      have GA : Hid (0 < m → ∃ ga off, va = some ⟨ga, off, none⟩ ∧ ∀ j, j < m → CellsAt wp ga (off + j * 2) (dqc L j)) := fun e => by
        obtain ⟨g, off, h1, h2, h3, h4, h5⟩ := rv.at e
        exact ⟨g, off, h1, h5⟩
      have HM := hide hm
      have BEL := hide MI.out.bel
      have WHO := hide (fun n => uWho_any MI.out.p n)
      have OF := hide (fun (r : Po) (hr : r ∈ L) => ofd_of FI.out.2.1.n hr)
      clear rv hm MI FI
      go_wp2
      go_loopw [17] (fun vi wr => ∃ k : Nat, vi = .int .i64 (k : Int) ∧ k ≤ m ∧ wp = wr) (fun vi _ => m - (intOf vi).toNat)
      case atStart => exact ⟨0, rfl, Nat.zero_le _, rfl⟩
      case round =>
        obtain ⟨k, rfl, hk, hwr⟩ := hrel
        rw [← hwr]
        clear hwr
        by_cases hkl : k < m
        · obtain ⟨ga, off, rfl, hgc⟩ := GA.out (by omega)
          obtain ⟨x, hx⟩ : ∃ x, L[k]? = some x := ⟨_, List.getElem?_eq_getElem (by rw [← HM.out]; exact hkl)⟩
          have cx : CellsAt wp ga (off + k * 2) (prc x) := by rw [← dqc_at hx]; exact hgc k hkl
          have x0 : wp.cell? ⟨ga, off + k * 2, none⟩ = some (.int .i64 x.n) := cx 0 _ rfl
          have x1 : wp.cell? ⟨ga, off + k * 2 + 1, none⟩ = some (.int .i64 x.who) := cx 1 _ rfl
          have kz : (k : Int) < (m : Int) := by omega
          obtain ⟨j, hj⟩ := OF.out x (List.mem_of_getElem? hx)
          have W1 := hide (WHO.out x.n)
          have eo : owh x.n L = x.who := by unfold owh; rw [hj]
          have et : otk x.n L = true := by unfold otk; rw [hj]; rfl
          rw [eo, et] at W1
          obtain ⟨xn, hxn⟩ : ∃ xn, xn = x.n := ⟨_, rfl⟩
          obtain ⟨xw, hxw⟩ : ∃ xw, xw = x.who := ⟨_, rfl⟩
          rw [← hxn] at x0 W1
          rw [← hxw] at x1 W1
          clear cx hgc hx hxn hxw hj eo et
          go_wp2_with fail
          refine W1.out.mono ?_
          rintro _ wx ⟨rfl, hw⟩
          rw [hw]
          clear hw wx W1
          go_wp2
          go_roundw
          case rel => exact ⟨k + 1, by go_num, by omega, trivial⟩
          case measure => simp [intOf]; omega
        · have kz : ¬ (k : Int) < (m : Int) := by omega
          go_wp2
          go_ret
          exact ⟨rfl, BEL.out⟩
end Go.Proofs.Ythjeaebpboilpaa
