
/-
  Package frag: all datagrams in memory; find. Package frag: add. Package frag: add, the last of it: d.list = append(d.list, x). Package frag: add of a piece at the beginning. Package frag: Bufs. Package frag: Bytes.
-/
import Derived.Test.YtgempelfamjabaaF8
namespace Go.Proofs.Ytgempelfamjabaa
open Go.RowKit Go.Shelf

def eqKd (x y : Kd) : Bool := decide (x = y)
theorem eqKd_parts (a b : Kd) : eqKd a b = (eqI a.src b.src && (eqI a.dst b.dst && (a.proto == b.proto && a.id == b.id))) := by
  obtain ⟨s, d, p, i⟩ := a
  obtain ⟨s', d', p', i'⟩ := b
  rw [Bool.eq_iff_iff]
  simp [eqKd, eqI]
theorem exec_eqKd {o : Oper} {w : World} {ev : Operand → Value} (x y : Operand) (t : TypeId) (a b : Kd) (r : Bool) (ho : o.op = .binOp .eql 68 x y t) (hx : ev x = .agg a.cells.toArray) (hy : ev y = .agg b.cells.toArray) (hr : eqKd a b = r) : (execOp ev o).run Try.prog w = .ok (.value (.bool r)) w := by
  subst hr
  obtain ⟨⟨i0, i1, i2, i3⟩, ⟨j0, j1, j2, j3⟩, p, d⟩ := a
  obtain ⟨⟨k0, k1, k2, k3⟩, ⟨l0, l1, l2, l3⟩, p', d'⟩ := b
  have EI := eq_ip
  rw [eqKd_parts]
  cases e1 : eqI ⟨i0, i1, i2, i3⟩ ⟨k0, k1, k2, k3⟩ <;> cases e2 : eqI ⟨j0, j1, j2, j3⟩ ⟨l0, l1, l2, l3⟩ <;> by_cases h3 : p = p' <;> by_cases h4 : d = d' <;> (unfold execOp; simp [ho, hx, hy, Kd.cells, I4.vals, go_sem, EI, e1, e2, h3, h4])
/-- all datagrams at b: ρ says whose a block is: (b, 3) the list's, (k, 0) the datagram k itself, (k, 1) the row of its pieces, (k, 2) what these hold -/
structure FrAt (ρ : Nat → Nat × Nat) (W : World) (b : Nat) (G : List (Nat × Gm)) : Prop where
  row : ∃ v, W.cell? ⟨b, 0, none⟩ = some v ∧ RowF 1 (fun g => ρ g = (b, 3)) W v G.length (fun j => match G[j]? with | some p => [.pointer (some ⟨p.1, 0, none⟩)] | none => [.pointer none])
  fz : W.frozen? ⟨b, 0, none⟩ = false
  me : ρ b = (b, 0)
  gm : ∀ p ∈ G, ρ p.1 = (p.1, 0) ∧ p.1 ≠ b ∧ GmAt W p.1 (fun g => ρ g = (p.1, 1)) (fun g => ρ g = (p.1, 2)) p.2
  nd : (G.map (·.1)).Nodup
  kn : (G.map (·.2.kd)).Nodup
  len : G.length ≤ 4
section
variable {ρ : Nat → Nat × Nat} {W W' : World} {b : Nat} {G : List (Nat × Gm)} {K : Nat → Prop}
theorem FrAt.lt (h : FrAt ρ W b G) : b < W.heap.size := by
  obtain ⟨v, h1, _⟩ := h.row
  exact World.block_lt_of_cell? W _ h1
theorem FrAt.but (h : FrAt ρ W b G) (hb : But K W W') (hk : ∀ g, g < W.heap.size → K g → ρ g = (0, 9)) : FrAt ρ W' b G := by
  have hl := h.lt
  obtain ⟨v, h1, h2⟩ := h.row
  have kb : ¬ K b := fun e => by have := hk b hl e; rw [h.me] at this; simp at this
  refine ⟨⟨v, (hb.cell (p := ⟨b, 0, none⟩) hl kb).trans h1, ?_⟩, (hb.frozen (p := ⟨b, 0, none⟩) hl kb).trans h.fz, h.me, fun p hp => ?_, h.nd, h.kn, h.len⟩
  · have h3 := (h2.own (O' := fun g => ρ g = (b, 3) ∧ g < W.heap.size) (fun g hg e => ⟨e, hg⟩)).but hb (fun g e e2 => by have := hk g e.2 e2; rw [e.1] at this; simp at this)
    exact h3.own (fun g _ e => e.1)
  · obtain ⟨p1, p2, p3⟩ := h.gm p hp
    have lp := p3.lt
    refine ⟨p1, p2, ?_⟩
    have q := (p3.own (RO' := fun g => ρ g = (p.1, 1) ∧ g < W.heap.size) (CO' := fun g => ρ g = (p.1, 2) ∧ g < W.heap.size) (fun g hg e => ⟨e, hg⟩) (fun g hg e => ⟨e, hg⟩)).but hb (fun g e e2 => by
      rcases e with e | e | e
      · subst e; have := hk _ lp e2; rw [p1] at this; simp at this
      · have := hk g e.2 e2; rw [e.1] at this; simp at this
      · have := hk g e.2 e2; rw [e.1] at this; simp at this)
    exact q.own (fun g _ e => e.1) (fun g _ e => e.1)
theorem FrAt.later (h : FrAt ρ W b G) (hb : Below W.heap.size W W') : FrAt ρ W' b G := h.but (K := fun _ => False) (But.of_below hb) (fun _ _ e => e.elim)
end
/-- the datagram of a kind -/
def fndK (k : Kd) (G : List (Nat × Gm)) : Option (Nat × Gm) := G.find? (fun p => eqKd p.2.kd k)
theorem GmAt.kd {W : World} {b : Nat} {RO CO : Nat → Prop} {m : Gm} (h : GmAt W b RO CO m) : CellsAt W b 0 m.kd.cells := fun j v hv => h.c j v (by rw [List.getElem?_append_left (List.getElem?_eq_some_iff.1 hv).1]; exact hv)
theorem onePd (w : World) : (isAgg 65).run Try.prog w = .ok false w := by kernel_rfl
set_option maxRecDepth 100000 in
set_option maxHeartbeats 4000000 in
theorem find_any {ρ : Nat → Nat × Nat} {w : World} {b : Nat} {G : List (Nat × Gm)} (h : FrAt ρ w b G) (k : Kd) : Calls Try.prog 34 #[.pointer (some ⟨b, 0, none⟩), .agg k.cells.toArray] w fun e w' => e = .returned (.pointer ((fndK k G).map fun p => ⟨p.1, 0, none⟩)) ∧ Below w.heap.size w w' := by
  obtain ⟨X, hX⟩ : ∃ X, X = k.cells := ⟨_, rfl⟩
  have LX : Hid (X.length = 10) := by rw [hX]; exact rfl
  rw [show (Value.agg k.cells.toArray) = .agg #[.int .u8 k.src.a, .int .u8 k.src.b, .int .u8 k.src.c, .int .u8 k.src.d, .int .u8 k.dst.a, .int .u8 k.dst.b, .int .u8 k.dst.c, .int .u8 k.dst.d, .int .i64 k.proto, .int .i64 k.id] from rfl]
  obtain ⟨s, hs⟩ : ∃ s, s = w.heap.size := ⟨_, rfl⟩
  obtain ⟨w1, hw1⟩ : ∃ w1, w1 = w.alloc (.cells k.cells.toArray 68) := ⟨_, rfl⟩
  have b1 : Below w.heap.size w w1 := by rw [hw1]; exact later_alloc _ _
  have c1 : CellsAt w1 s 0 X := by rw [hw1, hs, hX]; exact CellsAt.new w _ _
  have l1 : s < w1.heap.size := c1.lt (by rw [LX.out]; decide)
  have H1 := h.later b1
  obtain ⟨v, cv, rv⟩ := H1.row
  obtain ⟨va, vc, rfl⟩ := rv.shape
  obtain ⟨n, hn⟩ : ∃ n, n = G.length := ⟨_, rfl⟩
  rw [← hn] at cv rv
  have n4 : n ≤ 4 := by rw [hn]; exact h.len
  have nz : (n : Int) ≤ 4 := by omega
  have GA : Hid (∀ i p, G[i]? = some p → ∃ ga, va = some ⟨ga, 0, none⟩ ∧ ∀ W, Below w1.heap.size w1 W → W.cell? ⟨ga, i, none⟩ = some (.pointer (some ⟨p.1, 0, none⟩)) ∧ CellsAt W p.1 0 p.2.kd.cells) := fun i p hp => by
    have hi := (List.getElem?_eq_some_iff.1 hp).1
    obtain ⟨ga, e1, e2, _, _, e5⟩ := rv.at (by omega)
    have gk := (H1.gm p (List.mem_of_getElem? hp)).2.2
    refine ⟨ga, e1, fun W hW => ⟨?_, gk.kd.later gk.lt hW⟩⟩
    have h5 := (e5 i (by omega)).later e2 hW
    have := h5 0 (.pointer (some ⟨p.1, 0, none⟩)) (by rw [hp]; rfl)
    rw [Nat.mul_one, Nat.add_zero] at this
    exact this
  have CX : Hid (∀ W, Below w1.heap.size w1 W → CellsAt W s 0 X) := fun W hW => c1.later l1 hW
  have BW : Hid (∀ W, Below w1.heap.size w1 W → Below w.heap.size w W ∧ Below s w W) := fun W hW => ⟨later b1 hW, by rw [hs]; exact later b1 hW⟩
  have hw1' : w.alloc (.cells #[.int .u8 k.src.a, .int .u8 k.src.b, .int .u8 k.src.c, .int .u8 k.src.d, .int .u8 k.dst.a, .int .u8 k.dst.b, .int .u8 k.dst.c, .int .u8 k.dst.d, .int .i64 k.proto, .int .i64 k.id] 68) = w1 := by rw [hw1]; rfl
  have hs' := hs.symm
  have HX := hide hX
  have HN := hide hn
  clear h H1 rv hw1 hs b1 c1 hX hn
  go_enter Try.func34, Try.ntmps34
  go_wp2
  clear hs' hw1'
  go_loopw [12] (fun vi wr => ∃ i : Nat, vi = .int .i64 (i : Int) ∧ i ≤ n ∧ Hid (∀ j p, j < i → G[j]? = some p → eqKd p.2.kd k = false) ∧ Hid (Below w1.heap.size w1 wr)) (fun vi _ => n - (intOf vi).toNat)
  case atStart => exact ⟨0, rfl, Nat.zero_le _, (fun j y hj => by omega), Below.refl _ _⟩
  case round =>
    obtain ⟨i, rfl, hi, HI, BI⟩ := hrel
    obtain ⟨wk, hwk⟩ : ∃ wk, wk = wr := ⟨_, rfl⟩
    rw [← hwk] at BI ⊢
    clear hwk
    by_cases hlt : i < n
    · obtain ⟨p, hp⟩ : ∃ p, G[i]? = some p := ⟨_, List.getElem?_eq_getElem (by rw [← HN.out]; exact hlt)⟩
      obtain ⟨ga, rfl, hgc⟩ := GA.out i p hp
      have x0 := (hgc wk BI.out).1
      have HGC := hide hgc
      have iz : (i : Int) < (n : Int) := by omega
      obtain ⟨pb, hpb⟩ : ∃ pb, pb = p.1 := ⟨_, rfl⟩
      rw [← hpb] at x0 HGC
      obtain ⟨K, hK⟩ : ∃ K, K = p.2.kd.cells := ⟨_, rfl⟩
      have LK : Hid (K.length = 10) := by rw [hK]; exact rfl
      rw [← hK] at HGC
      obtain ⟨q, hq⟩ : ∃ q, q = eqKd p.2.kd k := ⟨_, rfl⟩
      have EQ : Hid (∀ (o : Oper) (ev : Operand → Value) (W : World) (x y : Operand) (t : TypeId), o.op = .binOp .eql 68 x y t → ev x = .agg K.toArray → ev y = .agg X.toArray → (execOp ev o).run Try.prog W = .ok (.value (.bool q)) W) := fun o ev W x y t ho hx hy => by
        rw [hK] at hx
        rw [HX.out] at hy
        exact exec_eqKd x y t _ _ q ho hx hy hq.symm
      have HP := hide hp
      have HQ := hide hq
      have HPB := hide hpb
      clear hgc hp hpb hK hq
      go_upto_region 4 with fail
      clear x0
      refine regionJ (fun _ => true) (fun W => Below w1.heap.size w1 W) (by kernel_rfl) ?_
      refine takeJ (i := 0) (v := .pointer (some ⟨pb, 0, none⟩)) 16 rfl rfl (by kernel_rfl) (by kernel_rfl) (by kernel_rfl) (by kernel_rfl) (fun _ _ _ h => h) (.inl ⟨by rfl, fun W hW => exec_move _ _ rfl rfl⟩) ((later BI.out (later_drew wk))) ?_
      try simp only [Act.put, List.setIfInBounds_toArray, List.set_cons_zero, List.set_cons_succ]
      refine takeJ (i := 1) (v := .pointer (some ⟨pb, 0, none⟩)) 17 rfl rfl (by kernel_rfl) (by kernel_rfl) (by kernel_rfl) (by kernel_rfl) (fun _ _ _ h => h) (.inl ⟨by rfl, fun W hW => exec_nil _ _ rfl rfl⟩) ((later BI.out (later_drew wk))) ?_
      try simp only [Act.put, List.setIfInBounds_toArray, List.set_cons_zero, List.set_cons_succ]
      refine takeJ (i := 2) (v := .pointer (some ⟨pb, 0, none⟩)) 18 rfl rfl (by kernel_rfl) (by kernel_rfl) (by kernel_rfl) (by kernel_rfl) (fun _ _ _ h => h) (.inl ⟨by rfl, fun W hW => exec_fieldO 71 _ 0 pb 0 0 rfl rfl (fun w => by kernel_rfl)⟩) ((later BI.out (later_drew wk))) ?_
      try simp only [Act.put, List.setIfInBounds_toArray, List.set_cons_zero, List.set_cons_succ]
      refine takeJ (i := 3) (v := .agg K.toArray) 19 rfl rfl (by kernel_rfl) (by kernel_rfl) (by kernel_rfl) (by kernel_rfl) (fun _ _ _ h => h) (.inl ⟨by rfl, fun W hW => exec_loadA 68 10 aggKd sizKd _ rfl pb 0 rfl K LK.out (HGC.out W hW).2⟩) ((later BI.out (later_drew wk))) ?_
      try simp only [Act.put, List.setIfInBounds_toArray, List.set_cons_zero, List.set_cons_succ]
      refine takeJ (i := 4) (v := .agg X.toArray) 20 rfl rfl (by kernel_rfl) (by kernel_rfl) (by kernel_rfl) (by kernel_rfl) (fun _ _ _ h => h) (.inl ⟨by rfl, fun W hW => exec_loadA 68 10 aggKd sizKd _ rfl s 0 rfl X LX.out (CX.out W hW)⟩) ((later BI.out (later_drew wk))) ?_
      try simp only [Act.put, List.setIfInBounds_toArray, List.set_cons_zero, List.set_cons_succ]
      refine takeJ (i := 5) (v := .bool q) 21 rfl rfl (by kernel_rfl) (by kernel_rfl) (by kernel_rfl) (by kernel_rfl) (fun _ _ _ h => h) (.inl ⟨by rfl, fun W hW => EQ.out _ _ W _ _ _ rfl rfl rfl⟩) ((later BI.out (later_drew wk))) ?_
      try simp only [Act.put, List.setIfInBounds_toArray, List.set_cons_zero, List.set_cons_succ]
      refine doneJ (by kernel_rfl) ?_ _
      have B2 := hide (later BI.out (later_drew wk))
      have BE := hide (BW.out _ B2.out)
      clear EQ HGC BI
      cases q with
      | true =>
        have FE : Hid (fndK k G = some p) := by
          unfold fndK
          have hp := List.getElem?_eq_some_iff.1 HP.out
          show List.find? _ G = some p
          rw [List.find?_eq_some_iff_getElem]
          refine ⟨HQ.out.symm, i, hp.1, hp.2, fun j hj => ?_⟩
          rw [HI.out j _ hj (List.getElem?_eq_getElem (Nat.lt_trans hj hp.1))]
          rfl
        go_wp2
        go_ret
        first | exact ⟨by rw [FE.out, HPB.out]; rfl, BE.out.1⟩ | exact ⟨by rw [FE.out, HPB.out]; rfl, BE.out.2⟩
      | false =>
        have HI2 : Hid (∀ j p, j < i + 1 → G[j]? = some p → eqKd p.2.kd k = false) := fun j y hj hy => by
          by_cases ej : j = i
          · subst ej; rw [HP.out] at hy; cases hy; exact HQ.out.symm
          · exact HI.out j y (by omega) hy
        go_wp2
        go_roundw
        case rel => exact ⟨i + 1, by go_num, by omega, HI2.out, B2.out⟩
        case measure => simp [intOf]; omega
    · have iz : ¬ (i : Int) < (n : Int) := by omega
      have FE : Hid (fndK k G = none) := by
        unfold fndK
        refine List.find?_eq_none.2 (fun p hp => ?_)
        obtain ⟨j, hj⟩ := List.getElem?_of_mem hp
        rw [HI.out j p (by have := (List.getElem?_eq_some_iff.1 hj).1; have := HN.out; omega) hj]
        decide
      have BE := hide (BW.out _ BI.out)
      clear BI
      go_wp2
      go_ret
      first | exact ⟨by rw [FE.out]; rfl, BE.out.1⟩ | exact ⟨by rw [FE.out]; rfl, BE.out.2⟩

def zPc : List Value := [.int .i64 0, .slice none 0 0, .bool false, .int .i64 0]
theorem info_pc : (Try.prog.info? 80).map (fun i => (i.zero, i.size, i.bytes)) = some (some (.agg zPc.toArray), 4, 48) := by kernel_rfl
theorem Pc.Ok.one {P : Nat → Prop} {W : World} {x : Pc} (h : x.Ok P W) : ∀ u ∈ x.cells, u.oneCell' = true := by
  intro u hu
  simp only [Pc.cells, List.mem_cons, List.not_mem_nil, or_false] at hu
  rcases hu with rfl | rfl | rfl | rfl
  · rfl
  · exact h.d.one
  · rfl
  · rfl
theorem pcc_app (L : List Pc) (x : Pc) (q : Nat) (hq : q < L.length + 1) : pcc (L ++ [x]) q = if q < L.length then pcc L q else x.cells := by
  unfold pcc
  by_cases e : q < L.length
  · rw [if_pos e, List.getElem?_append_left e]
  · rw [if_neg e, show q = L.length by omega]
    simp
/-- one piece more: all its worlds -/
theorem GmAt.push {W : World} {b : Nat} {RO CO : Nat → Prop} {m : Gm} (h : GmAt W b RO CO m) (hro : ∀ g, RO g → g ≠ b ∧ ¬ CO g) (hco : ∀ g, CO g → g ≠ b) (x : Pc) (hx : x.Ok CO W) (hl : m.L.length < 600) :
    ∃ (va a' : Option Addr) (vc c' : Nat) (wE wF wG : World), W.cell? ⟨b, 27, none⟩ = some (.slice va m.L.length vc) ∧ wE = W.alloc (.cells x.cells.toArray 80) ∧ (Builtin.append_ #[69, 69] 69 #[.slice va m.L.length vc, .slice (some ⟨W.heap.size, 0, none⟩) 1 1]).run Try.prog wE = .ok (.slice a' (m.L.length + 1) c') wF ∧ wF.cell? ⟨b, 27, none⟩ = some (.slice va m.L.length vc) ∧ wF.frozen? ⟨b, 27, none⟩ = false ∧ wG = wF.setCell ⟨b, 27, none⟩ (.slice a' (m.L.length + 1) c') ∧ Below W.heap.size W wE ∧ But RO wE wF ∧ But (fun g => g = b ∨ RO g) W wG ∧ GmAt wG b (fun g => RO g ∨ W.heap.size ≤ g) CO { m with L := m.L ++ [x] } := by
  have hb := h.lt
  obtain ⟨v, cv, rv⟩ := h.row
  obtain ⟨va, vc, rfl⟩ := rv.shape
  obtain ⟨wE, hwE⟩ : ∃ z, z = W.alloc (.cells x.cells.toArray 80) := ⟨_, rfl⟩
  have bE : Below W.heap.size W wE := by rw [hwE]; exact later_alloc _ _
  have cE : CellsAt wE W.heap.size 0 x.cells := by rw [hwE]; exact CellsAt.new W x.cells 80
  obtain ⟨i0, hi0, hz0, hz1, hz2⟩ := info_parts info_pc
  obtain ⟨a', c', wF, hrun, rF, hbF⟩ := (rv.later bE).push 69 80 i0 _ Try.underlying69 hi0 hz0 hz1 (by omega) rfl (fun j hj => pcc_len m.L j) (fun q hq => by
    obtain ⟨y, hy⟩ : ∃ y, m.L[q]? = some y := ⟨_, List.getElem?_eq_getElem hq⟩
    rw [pcc_at hy]; exact (h.con y (List.mem_of_getElem? hy)).one) x.cells rfl hx.one W.heap.size cE (by omega)
  have nb : ¬ RO b := fun e => (hro b e).1 rfl
  have lE : b < wE.heap.size := Nat.lt_of_lt_of_le hb bE.size
  have cvF := (hbF.cell (p := ⟨b, 27, none⟩) lE nb).trans ((bE.cell (p := ⟨b, 27, none⟩) hb).trans cv)
  have fvF : ∀ y, wF.frozen? ⟨b, y, none⟩ = false := fun y => (hbF.frozen (p := ⟨b, y, none⟩) lE nb).trans ((bE.frozen (p := ⟨b, y, none⟩) hb).trans (h.fz y))
  obtain ⟨wG, hwG⟩ : ∃ z, z = wF.setCell ⟨b, 27, none⟩ (.slice a' (m.L.length + 1) c') := ⟨_, rfl⟩
  have bG : But (Only b) wF wG := by rw [hwG]; exact (But.refl (Only b) wF).cellb (b := b) rfl 27 _
  have BG : But (fun g => g = b ∨ RO g) W wG := ((But.of_below bE).trans (hbF.mono (fun g e => .inr e))).trans (bG.mono (fun g e => .inl e))
  refine ⟨va, a', vc, c', wE, wF, wG, cv, hwE, hrun, cvF, fvF 27, hwG, bE, hbF, BG, ?_⟩
  refine ⟨?_, ⟨_, by rw [hwG]; exact World.cell?_setCell_same _ _ _ cvF, ?_⟩, fun y => by rw [hwG, World.frozen?_setCell]; exact fvF y, fun y hy => ?_, ?_, by simp; omega⟩
  · intro j u hu
    have hj : j < 27 := by have := (List.getElem?_eq_some_iff.1 hu).1; exact this
    rw [hwG, setCell_out (by omega)]
    exact (hbF.cell (p := ⟨b, 0 + j, none⟩) lE nb).trans ((bE.cell (p := ⟨b, 0 + j, none⟩) hb).trans (h.c j u hu))
  · show RowF 4 _ wG _ (m.L ++ [x]).length (pcc (m.L ++ [x]))
    rw [List.length_append]
    refine RowF.cong (c := fun q => if q < m.L.length then pcc m.L q else x.cells) ((rF.own (O' := fun g => (RO g ∨ W.heap.size ≤ g) ∧ g ≠ b) (fun g hg e => ?_)).but bG (fun g e e2 => e.2 e2) |>.own (fun g _ e => e.1)) (fun j hj => by rw [pcc_app m.L x j hj])
    rcases e with e | e
    · exact ⟨.inl e, (hro g e).1⟩
    · have := bE.size; exact ⟨.inr (by omega), by omega⟩
  · have h2 : ∀ z : Pc, z.Ok CO W → z.Ok CO wG := fun z hz => ⟨hz.d.but BG (fun g e e2 => by
      rcases e2 with e2 | e2
      · exact hco g e e2
      · exact (hro g e2).2 e), hz.lo, hz.hi⟩
    rcases List.mem_append.1 hy with hy | hy
    · exact h2 y (h.con y hy)
    · rw [List.mem_singleton.1 hy]; exact h2 x hx
  · exact h.hok.but BG (fun g e e2 => by
      rcases e2 with e2 | e2
      · exact hco g e e2
      · exact (hro g e2).2 e)
/-- another head -/
theorem GmAt.head {W : World} {b : Nat} {RO CO : Nat → Prop} {m : Gm} (h : GmAt W b RO CO m) (hro : ∀ g, RO g → g ≠ b ∧ ¬ CO g) (hco : ∀ g, CO g → g ≠ b) (p : Pk) (u : Value) (hu : CB CO W u p.opts) : CellsAt W b 11 (m.hd.cells m.hv) ∧ GmAt (W.setCells b 11 (p.cells u)) b RO CO { m with hd := p, hv := u } ∧ But (Only b) W (W.setCells b 11 (p.cells u)) := by
  have hb := h.lt
  have e : m.kd.cells ++ (.int .i64 m.since :: m.hd.cells m.hv) = (m.kd.cells ++ [.int .i64 m.since]) ++ m.hd.cells m.hv := by simp
  have e2 : m.kd.cells ++ (.int .i64 m.since :: p.cells u) = (m.kd.cells ++ [.int .i64 m.since]) ++ p.cells u := by simp
  have hc := h.c
  rw [e, CellsAt.append] at hc
  have c11 : CellsAt W b 11 (m.hd.cells m.hv) := hc.2
  obtain ⟨v, cv, rv⟩ := h.row
  have B := But.cells b (p.cells u) 11 W
  refine ⟨c11, ⟨?_, ⟨v, ?_, rv.but B (fun g e1 e2 => (hro g e1).1 e2)⟩, fun y => by rw [World.frozen?_setCells]; exact h.fz y, fun x hx => ⟨(h.con x hx).d.but B (fun g e1 e2 => hco g e1 e2), (h.con x hx).lo, (h.con x hx).hi⟩, hu.but B (fun g e1 e2 => hco g e1 e2), h.len⟩, B⟩
  · show CellsAt _ b 0 (m.kd.cells ++ (.int .i64 m.since :: p.cells u))
    rw [e2, CellsAt.append]
    exact ⟨hc.1.other (.inl (by show 0 + 11 ≤ 11; omega)), c11.stored rfl⟩
  · rw [setCells_out (by rw [Pk.cells_len]; omega)]
    exact cv

theorem onePcs (w : World) : (isAgg 69).run Try.prog w = .ok false w := by kernel_rfl
theorem s1Pcs (w : World) : (Go.sizeOf 69).run Try.prog w = .ok 1 w := by kernel_rfl
theorem exec_bsPc {o : Oper} {w : World} {ev : Operand → Value} (x : Operand) (a : Int) (ad : Option Addr) (n c : Nat) (l : Bool) (f : Int) (ho : o.op = .buildSlice 69 1 #[(0, x)]) (hx : ev x = .agg #[.int .i64 a, .slice ad n c, .bool l, .int .i64 f]) : (execOp ev o).run Try.prog w = .ok (.value (.slice (some ⟨w.heap.size, 0, none⟩) 1 1)) (w.alloc (.cells #[.int .i64 a, .slice ad n c, .bool l, .int .i64 f] 80)) := by
  unfold execOp
  simp [ho, hx, go_sem]
set_option maxRecDepth 100000 in
set_option maxHeartbeats 4000000 in
/-- not at the beginning: only the list grows -/
theorem add_rest {w : World} {b : Nat} {RO CO : Nat → Prop} {m : Gm} (h : GmAt w b RO CO m) (hro : ∀ g, RO g → g ≠ b ∧ ¬ CO g) (hco : ∀ g, CO g → g ≠ b) (hlt : ∀ g, RO g ∨ CO g → g < w.heap.size) (p : Pk) (ov : Value) (x : Pc) (hx : x.Ok CO w) (h0 : x.at_ ≠ 0) (hl : m.L.length < 600) :
    Calls Try.prog 38 #[.pointer (some ⟨b, 0, none⟩), .agg (p.cells ov).toArray, .agg x.cells.toArray] w fun e w' => e = .returned (.tuple #[]) ∧ ∃ RO', GmAt w' b RO' CO { m with L := m.L ++ [x] } ∧ But (fun g => g = b ∨ RO g) w w' ∧ (∀ g, RO' g → RO g ∨ w.heap.size ≤ g) := by
  obtain ⟨ea, ec, eX⟩ := hx.d.shape
  obtain ⟨en, hen⟩ : ∃ en, en = x.D.length := ⟨_, rfl⟩
  rw [← hen] at eX
  rw [show (Value.agg (p.cells ov).toArray) = .agg #[.int .u8 p.src.a, .int .u8 p.src.b, .int .u8 p.src.c, .int .u8 p.src.d, .int .u8 p.dst.a, .int .u8 p.dst.b, .int .u8 p.dst.c, .int .u8 p.dst.d, .int .i64 p.proto, .int .i64 p.ttl, .int .i64 p.id, .int .i64 p.tos, .bool p.whole, .bool p.more, .int .i64 p.off, ov] from rfl, show (Value.agg x.cells.toArray) = .agg #[.int .i64 x.at_, x.dv, .bool x.last, .int .i64 x.buf] from rfl, eX]
  obtain ⟨w1, s4, hs4, hw1, c1, f1, b1, l1⟩ := boxP w p ov
  obtain ⟨s5, hs5⟩ : ∃ s, s = w1.heap.size := ⟨_, rfl⟩
  obtain ⟨w2, hw2⟩ : ∃ w2, w2 = w1.alloc (.cells #[.int .i64 x.at_, .slice ea en ec, .bool x.last, .int .i64 x.buf] 80) := ⟨_, rfl⟩
  have b2 : Below w1.heap.size w1 w2 := by rw [hw2]; exact later_alloc _ _
  have B2 := later b1 b2
  obtain ⟨Y, hY⟩ : ∃ Y, Y = x.cells := ⟨_, rfl⟩
  have eY : Y = [.int .i64 x.at_, .slice ea en ec, .bool x.last, .int .i64 x.buf] := by rw [hY, ← eX]; rfl
  have LY : Hid (Y.length = 4) := by rw [hY]; exact rfl
  have c2 : CellsAt w2 s5 0 Y := by rw [hw2, hs5, eY]; exact CellsAt.new w1 _ _
  have k0 : w2.cell? ⟨s5, 0, none⟩ = some (.int .i64 x.at_) := c2 0 _ (by rw [eY]; rfl)
  have l5 : s5 < w2.heap.size := c2.lt (by rw [LY.out]; decide)
  have H2 := (h.later B2).later (later_drew w2)
  obtain ⟨va, a', vc, c', wE, wF, wG, cv, eE, hrun, cvF, fvF, eG, bE, bF, bG, gG⟩ := H2.push hro hco x ((hx.later B2).later (later_drew w2)) hl
  have lb : b < w2.heap.size := H2.lt
  have z1 := b1.size
  obtain ⟨n, hn⟩ : ∃ n, n = m.L.length := ⟨_, rfl⟩
  rw [← hn] at cv hrun cvF eG
  have n5 : ¬ RO s5 := fun e => by have := hlt s5 (.inl e); omega
  have Sd : w2.drew.cell? ⟨b, 27, none⟩ = some (.slice va n vc) ∧ CellsAt w2.drew s5 0 Y := ⟨cv, c2⟩
  have SE : wE.cell? ⟨b, 27, none⟩ = some (.slice va n vc) ∧ CellsAt wE s5 0 Y := ⟨(bE.cell (p := ⟨b, 27, none⟩) lb).trans cv, (show CellsAt w2.drew s5 0 Y from c2).later (show s5 < w2.drew.heap.size from l5) bE⟩
  have SF : wF.cell? ⟨b, 27, none⟩ = some (.slice va n vc) ∧ CellsAt wF s5 0 Y := ⟨cvF, SE.2.but (Nat.lt_of_lt_of_le (show s5 < w2.drew.heap.size from l5) bE.size) bF n5⟩
  have FIN : Hid (∃ RO', GmAt wG b RO' CO { m with L := m.L ++ [x] } ∧ But (fun g => g = b ∨ RO g) w wG ∧ (∀ g, RO' g → RO g ∨ w.heap.size ≤ g)) :=
    ⟨_, gG, ((But.of_below B2).trans (But.of_below (later_drew w2))).trans bG, fun g e => by
      rcases e with e | e
      · exact .inl e
      · have := B2.size; exact .inr (Nat.le_trans this e)⟩
  have eE' : wE = w2.drew.alloc (.cells #[.int .i64 x.at_, .slice ea en ec, .bool x.last, .int .i64 x.buf] 80) := by rw [eE, show x.cells.toArray = #[.int .i64 x.at_, x.dv, .bool x.last, .int .i64 x.buf] from rfl, eX]
  have RUN := hide hrun
  have HE := hide eE'
  have HG := hide eG
  have HY := hide eY
  have hs4' := hs4.symm
  have hw1' := hw1.symm
  have hs5' := hs5.symm
  have hw2' := hw2.symm
  have q0 : (x.at_ == 0) = false := by simpa using h0
  clear h hx gG bG hrun eE eG eE' bE bF hs4 hw1 hs5 hw2 c1 f1 b1 b2 B2 H2 hY eY eX hen hn hlt hro hco c2 h0
  go_enter Try.func38, Try.ntmps38
  go_upto_region 4 with fail
  clear hs4' hw1' hs5' hw2' k0 q0
  refine regionJ (fun i => i != 10) (fun W => W.cell? ⟨b, 27, none⟩ = some (.slice va n vc) ∧ CellsAt W s5 0 Y) (by kernel_rfl) ?_
  refine takeJ (i := 0) (v := .pointer (some ⟨b, 0, none⟩)) 15 rfl rfl (by kernel_rfl) (by kernel_rfl) (by kernel_rfl) (by kernel_rfl) (fun _ _ _ h => h) (.inl ⟨by rfl, fun W hW => exec_move _ _ rfl rfl⟩) (Sd) ?_
  try simp only [Act.put, List.setIfInBounds_toArray, List.set_cons_zero, List.set_cons_succ]
  refine takeJ (i := 1) (v := .pointer (some ⟨b, 0, none⟩)) 16 rfl rfl (by kernel_rfl) (by kernel_rfl) (by kernel_rfl) (by kernel_rfl) (fun _ _ _ h => h) (.inl ⟨by rfl, fun W hW => exec_move _ _ rfl rfl⟩) (Sd) ?_
  try simp only [Act.put, List.setIfInBounds_toArray, List.set_cons_zero, List.set_cons_succ]
  refine takeJ (i := 2) (v := .pointer (some ⟨b, 0, none⟩)) 17 rfl rfl (by kernel_rfl) (by kernel_rfl) (by kernel_rfl) (by kernel_rfl) (fun _ _ _ h => h) (.inl ⟨by rfl, fun W hW => exec_nil _ _ rfl rfl⟩) (Sd) ?_
  try simp only [Act.put, List.setIfInBounds_toArray, List.set_cons_zero, List.set_cons_succ]
  refine takeJ (i := 3) (v := .pointer (some ⟨b, 27, none⟩)) 18 rfl rfl (by kernel_rfl) (by kernel_rfl) (by kernel_rfl) (by kernel_rfl) (fun _ _ _ h => h) (.inl ⟨by rfl, fun W hW => exec_fieldO 71 _ 3 b 0 27 rfl rfl (fun w => by kernel_rfl)⟩) (Sd) ?_
  try simp only [Act.put, List.setIfInBounds_toArray, List.set_cons_zero, List.set_cons_succ]
  refine takeJ (i := 4) (v := .slice va n vc) 19 rfl rfl (by kernel_rfl) (by kernel_rfl) (by kernel_rfl) (by kernel_rfl) (fun _ _ _ h => h) (.inl ⟨by rfl, fun W hW => exec_load1 69 onePcs _ rfl b 27 rfl (.slice va n vc) (hW.1)⟩) (Sd) ?_
  try simp only [Act.put, List.setIfInBounds_toArray, List.set_cons_zero, List.set_cons_succ]
  refine takeJ (i := 5) (v := .agg Y.toArray) 20 rfl rfl (by kernel_rfl) (by kernel_rfl) (by kernel_rfl) (by kernel_rfl) (fun _ _ _ h => h) (.inl ⟨by rfl, fun W hW => exec_loadA 80 4 aggPc sizPc _ rfl s5 0 rfl Y LY.out hW.2⟩) (Sd) ?_
  try simp only [Act.put, List.setIfInBounds_toArray, List.set_cons_zero, List.set_cons_succ]
  refine nextJ (w' := wE) 6 21 (.slice (some ⟨w2.drew.heap.size, 0, none⟩) 1 1) (by kernel_rfl) rfl rfl (by rfl) (by rw [HE.out, HY.out]; exact exec_bsPc _ _ _ _ _ _ _ rfl rfl) (SE) ?_
  try simp only [Act.put, List.setIfInBounds_toArray, List.set_cons_zero, List.set_cons_succ]
  refine nextJ (w' := wF) 7 22 (.slice a' (n + 1) c') (by kernel_rfl) rfl rfl (by rfl) (exec_app _ _ 69 69 rfl (.slice va n vc) (.slice (some ⟨w2.drew.heap.size, 0, none⟩) 1 1) rfl rfl 69 rfl RUN.out) (SF) ?_
  try simp only [Act.put, List.setIfInBounds_toArray, List.set_cons_zero, List.set_cons_succ]
  refine nextJ (w' := wF) 8 23 (.pointer (some ⟨b, 0, none⟩)) (by kernel_rfl) rfl rfl (by rfl) (exec_nil _ _ rfl rfl) (SF) ?_
  try simp only [Act.put, List.setIfInBounds_toArray, List.set_cons_zero, List.set_cons_succ]
  refine nextJ (w' := wF) 9 24 (.pointer (some ⟨b, 27, none⟩)) (by kernel_rfl) rfl rfl (by rfl) (exec_fieldO 71 _ 3 b 0 27 rfl rfl (fun w => by kernel_rfl)) (SF) ?_
  try simp only [Act.put, List.setIfInBounds_toArray, List.set_cons_zero, List.set_cons_succ]
  refine storeJ (w' := wG) 10 (by kernel_rfl) rfl rfl (by rfl) (by rw [HG.out]; exact exec_store1 69 s1Pcs _ _ rfl b 27 rfl _ _ rfl cvF fvF rfl) ((fun e => by simp at e)) ?_
  try simp only [Act.put, List.setIfInBounds_toArray, List.set_cons_zero, List.set_cons_succ]
  refine doneJ (by kernel_rfl) ?_ _
  clear Sd SE SF cv cvF fvF
  go_wp2
  go_end0
  exact ⟨rfl, FIN.out⟩

set_option maxRecDepth 100000 in
set_option maxHeartbeats 8000000 in
/-- at the beginning: the whole one's head is taken, too -/
theorem add_head {w : World} {b : Nat} {RO CO P : Nat → Prop} {m : Gm} (h : GmAt w b RO CO m) (hro : ∀ g, RO g → g ≠ b ∧ ¬ CO g) (hco : ∀ g, CO g → g ≠ b) (hlt : ∀ g, RO g ∨ CO g → g < w.heap.size) (p : Pk) (ov : Value) (ho : CB P w ov p.opts) (hol : p.opts.length ≤ 140737488355328) (x : Pc) (hx : x.Ok CO w) (h0 : x.at_ = 0) (hl : m.L.length < 600) :
    Calls Try.prog 38 #[.pointer (some ⟨b, 0, none⟩), .agg (p.cells ov).toArray, .agg x.cells.toArray] w fun e w' => e = .returned (.tuple #[]) ∧ ∃ u RO' CO', GmAt w' b RO' CO' ⟨m.kd, m.since, { p with more := false }, u, m.L ++ [x]⟩ ∧ But (fun g => g = b ∨ RO g) w w' ∧ (∀ g, RO' g → (RO g ∨ w.heap.size ≤ g) ∧ ¬ CO' g) ∧ (∀ g, CO' g → CO g ∨ w.heap.size ≤ g) := by
  obtain ⟨ea, ec, eX⟩ := hx.d.shape
  obtain ⟨en, hen⟩ : ∃ en, en = x.D.length := ⟨_, rfl⟩
  rw [← hen] at eX
  rw [show (Value.agg (p.cells ov).toArray) = .agg #[.int .u8 p.src.a, .int .u8 p.src.b, .int .u8 p.src.c, .int .u8 p.src.d, .int .u8 p.dst.a, .int .u8 p.dst.b, .int .u8 p.dst.c, .int .u8 p.dst.d, .int .i64 p.proto, .int .i64 p.ttl, .int .i64 p.id, .int .i64 p.tos, .bool p.whole, .bool p.more, .int .i64 p.off, ov] from rfl, show (Value.agg x.cells.toArray) = .agg #[.int .i64 x.at_, x.dv, .bool x.last, .int .i64 x.buf] from rfl, eX]
  obtain ⟨w1, s4, hs4, hw1, c1, f1, b1, l1⟩ := boxP w p ov
  obtain ⟨s5, hs5⟩ : ∃ s, s = w1.heap.size := ⟨_, rfl⟩
  obtain ⟨w2, hw2⟩ : ∃ w2, w2 = w1.alloc (.cells #[.int .i64 x.at_, .slice ea en ec, .bool x.last, .int .i64 x.buf] 80) := ⟨_, rfl⟩
  have b2 : Below w1.heap.size w1 w2 := by rw [hw2]; exact later_alloc _ _
  have B2 := later b1 b2
  obtain ⟨Y, hY⟩ : ∃ Y, Y = x.cells := ⟨_, rfl⟩
  have eY : Y = [.int .i64 x.at_, .slice ea en ec, .bool x.last, .int .i64 x.buf] := by rw [hY, ← eX]; rfl
  have LY : Hid (Y.length = 4) := by rw [hY]; exact rfl
  have c2 : CellsAt w2 s5 0 Y := by rw [hw2, hs5, eY]; exact CellsAt.new w1 _ _
  have k0 : w2.cell? ⟨s5, 0, none⟩ = some (.int .i64 0) := by rw [← h0]; exact c2 0 _ (by rw [eY]; rfl)
  have l5 : s5 < w2.heap.size := c2.lt (by rw [LY.out]; decide)
  have c12 := c1.later l1 b2
  have l4 : s4 < w2.heap.size := Nat.lt_of_lt_of_le l1 b2.size
  have k13 : w2.cell? ⟨s4, 13, none⟩ = some (.bool p.more) := c12 13 _ rfl
  have g13 : w2.frozen? ⟨s4, 13, none⟩ = false := (b2.frozen (p := ⟨s4, 13, none⟩) l1).trans (f1 13)
  obtain ⟨p', hp'⟩ : ∃ p' : Pk, p' = { p with more := false } := ⟨_, rfl⟩
  obtain ⟨w3, hw3⟩ : ∃ w3, w3 = w2.setCell ⟨s4, 13, none⟩ (.bool false) := ⟨_, rfl⟩
  have b3 : But (Only s4) w2 w3 := by rw [hw3]; exact (But.refl (Only s4) w2).cellb (b := s4) rfl 13 _
  obtain ⟨X, hX⟩ : ∃ X, X = p'.cells ov := ⟨_, rfl⟩
  have LX : Hid (X.length = 16) := by rw [hX]; exact rfl
  have C3 : Hid (CellsAt w3 s4 0 X) := by
    have := c12.set 13 (.bool false)
    rw [hw3, hX, hp']
    exact this
  have s45 : s5 ≠ s4 := by omega
  have z1 := b1.size
  have z2 := b2.size
  have z3 := b3.size
  have B3 : Below w.heap.size w w3 := B2.trans (b3.below B2.size (fun g hg e => by have e : g = s4 := e; omega))
  have c3 : CellsAt w3 s5 0 Y := c2.but l5 b3 s45
  have l53 : s5 < w3.heap.size := Nat.lt_of_lt_of_le l5 b3.size
  have AN := another_any (P := P) p' ov w3 (by rw [hp']; exact ho.later B3) (by rw [hp']; exact hol)
  rw [← hX] at AN
  have HAN := hide AN
  have H3 := hide (h.later B3)
  have HX3 := hide (hx.later B3)
  have HRO := hide hro
  have HCO := hide hco
  have HLT := hide hlt
  have HB3 := hide B3
  have HEX := hide eX
  have HY := hide eY
  have HP' := hide hp'
  have lb := h.lt
  have HS : Hid (s4 = w.heap.size ∧ s5 = w1.heap.size ∧ w.heap.size ≤ s5 ∧ b < w.heap.size) := ⟨hs4, hs5, by omega, lb⟩
  have hs4' := hs4.symm
  have hw1' := hw1.symm
  have hs5' := hs5.symm
  have hw2' : w1.alloc (.cells #[.int .i64 0, .slice ea en ec, .bool x.last, .int .i64 x.buf] 80) = w2 := by rw [hw2, h0]
  have hw3' := hw3.symm
  have H0 := hide h0
  rw [h0]
  clear h hx hs4 hw1 hs5 hw2 hw3 c1 f1 b1 b2 B2 b3 B3 hX hY eY eX hen hlt hro hco c2 c12 AN ho z1 z2 z3 h0 hp' lb
  go_enter Try.func38, Try.ntmps38
  go_upto_region 3 with fail
  clear hs4' hw1' hs5' hw2' hw3' k0 k13 g13
  go_wp2_with (refine wpList_loadA rfl 26 16 aggP sizP _ rfl s4 0 rfl X LX.out C3.out ?_)
  refine HAN.out.mono ?_
  rintro _ w4 ⟨u, rfl, cu, b4⟩
  obtain ⟨V, hV⟩ : ∃ V, V = p'.cells u := ⟨_, rfl⟩
  have LV : Hid (V.length = 16) := by rw [hV]; exact rfl
  have OV : Hid (∀ v ∈ V, v.oneCell' = true) := by rw [hV]; exact pkV_one p' u cu.one
  have hS := HS.out
  have zz3 := HB3.out.size
  have zz4 := b4.size
  obtain ⟨CO', hCO'⟩ : ∃ CO' : Nat → Prop, CO' = fun g => CO g ∨ (w3.heap.size ≤ g ∧ g < w4.heap.size) := ⟨_, rfl⟩
  have H4 : GmAt w4 b RO CO' m := (H3.out.later b4).own (fun g _ e => e) (fun g _ e => by rw [hCO']; exact .inl e)
  have hro' : ∀ g, RO g → g ≠ b ∧ ¬ CO' g := fun g e => ⟨(HRO.out g e).1, fun e2 => by
    rw [hCO'] at e2
    rcases e2 with e2 | e2
    · exact (HRO.out g e).2 e2
    · have := HLT.out g (.inl e); omega⟩
  have hco' : ∀ g, CO' g → g ≠ b := fun g e => by
    rw [hCO'] at e
    rcases e with e | e
    · exact HCO.out g e
    · omega
  obtain ⟨c11, H5, b5⟩ := H4.head hro' hco' p' u (cu.own (fun g _ e => by rw [hCO']; exact .inr e))
  obtain ⟨w5, hw5⟩ : ∃ w5, w5 = w4.setCells b 11 (p'.cells u) := ⟨_, rfl⟩
  rw [← hw5] at H5 b5
  have hw5' : w4.setCells b 11 V = w5 := by rw [hV]; exact hw5.symm
  have C11 := hide c11
  have FZ := hide H4.fz
  have c4 := c3.later l53 b4
  have l54 : s5 < w4.heap.size := Nat.lt_of_lt_of_le l53 b4.size
  have c5 : CellsAt w5 s5 0 Y := c4.but l54 b5 (fun e => by have e : s5 = b := e; omega)
  have l55 : s5 < w5.heap.size := Nat.lt_of_lt_of_le l54 b5.size
  have x5 : x.Ok CO' w5 := ⟨((HX3.out.d.later b4).own (fun g _ e => by rw [hCO']; exact .inl e)).but b5 (fun g e e2 => hco' g e e2), HX3.out.lo, HX3.out.hi⟩
  have zz5 := b5.size
  obtain ⟨va, a', vc, c', wE, wF, wG, cv, eE, hrun, cvF, fvF, eG, bE, bF, bG, gG⟩ := (H5.later (later_drew w5)).push hro' hco' x (x5.later (later_drew w5)) hl
  obtain ⟨n, hn⟩ : ∃ n, n = m.L.length := ⟨_, rfl⟩
  have cv : w5.drew.cell? ⟨b, 27, none⟩ = some (.slice va n vc) := by rw [hn]; exact cv
  have hrun : (Builtin.append_ #[69, 69] 69 #[.slice va n vc, .slice (some ⟨w5.drew.heap.size, 0, none⟩) 1 1]).run Try.prog wE = .ok (.slice a' (n + 1) c') wF := by rw [hn]; exact hrun
  have cvF : wF.cell? ⟨b, 27, none⟩ = some (.slice va n vc) := by rw [hn]; exact cvF
  have eG : wG = wF.setCell ⟨b, 27, none⟩ (.slice a' (n + 1) c') := by rw [hn]; exact eG
  have lb5 : b < w5.heap.size := H5.lt
  have n5 : ¬ RO s5 := fun e => by have := HLT.out s5 (.inl e); omega
  have Sd : w5.drew.cell? ⟨b, 27, none⟩ = some (.slice va n vc) ∧ CellsAt w5.drew s5 0 Y := ⟨cv, c5⟩
  have SE : wE.cell? ⟨b, 27, none⟩ = some (.slice va n vc) ∧ CellsAt wE s5 0 Y := ⟨(bE.cell (p := ⟨b, 27, none⟩) lb5).trans cv, (show CellsAt w5.drew s5 0 Y from c5).later (show s5 < w5.drew.heap.size from l55) bE⟩
  have SF : wF.cell? ⟨b, 27, none⟩ = some (.slice va n vc) ∧ CellsAt wF s5 0 Y := ⟨cvF, SE.2.but (Nat.lt_of_lt_of_le (show s5 < w5.drew.heap.size from l55) bE.size) bF n5⟩
  have FIN : Hid (∃ u RO' CO', GmAt wG b RO' CO' ⟨m.kd, m.since, { p with more := false }, u, m.L ++ [x]⟩ ∧ But (fun g => g = b ∨ RO g) w wG ∧ (∀ g, RO' g → (RO g ∨ w.heap.size ≤ g) ∧ ¬ CO' g) ∧ (∀ g, CO' g → CO g ∨ w.heap.size ≤ g)) := by
    refine ⟨u, _, CO', by rw [← HP'.out]; exact gG, (((But.of_below HB3.out).trans (But.of_below b4)).trans (b5.mono (fun g e => .inl e))).trans ((But.of_below (later_drew w5)).trans bG), fun g e => ?_, fun g e => ?_⟩
    · have zd : w5.drew.heap.size = w5.heap.size := rfl
      rcases e with e | e
      · exact ⟨.inl e, (hro' g e).2⟩
      · refine ⟨.inr (by omega), fun e2 => ?_⟩
        rw [hCO'] at e2
        rcases e2 with e2 | e2
        · have := HLT.out g (.inr e2); omega
        · omega
    · rw [hCO'] at e
      rcases e with e | e
      · exact .inl e
      · exact .inr (by omega)
  have eE' : wE = w5.drew.alloc (.cells #[.int .i64 x.at_, .slice ea en ec, .bool x.last, .int .i64 x.buf] 80) := by rw [eE, show x.cells.toArray = #[.int .i64 x.at_, x.dv, .bool x.last, .int .i64 x.buf] from rfl, HEX.out]
  have RUN := hide hrun
  have HE := hide eE'
  have HG := hide eG
  have HV := hide hV
  have CVF := hide cvF
  have FVF := hide fvF
  have SDH := hide Sd
  have SEH := hide SE
  have SFH := hide SF
  rw [← hV]
  clear HAN cu b4 H4 hro' hco' c11 H5 b5 c3 c4 c5 x5 zz3 zz4 zz5 hS gG bG hrun eE eG eE' bE bF cv cvF fvF Sd SE SF hCO' hV hn hw5 n5
  go_upto_region 4 with ((refine wpList_storeA rfl 26 16 sizP _ _ rfl b 11 rfl V (m.hd.cells m.hv) rfl LV.out rfl C11.out FZ.out OV.out ?_; intro _; rw [hw5']))
  clear hw5'
  have cvF := CVF.out
  have fvF := FVF.out
  have Sd := SDH.out
  have SE := SEH.out
  have SF := SFH.out
  refine regionJ (fun i => i != 10) (fun W => W.cell? ⟨b, 27, none⟩ = some (.slice va n vc) ∧ CellsAt W s5 0 Y) (by kernel_rfl) ?_
  refine takeJ (i := 0) (v := .pointer (some ⟨b, 0, none⟩)) 15 rfl rfl (by kernel_rfl) (by kernel_rfl) (by kernel_rfl) (by kernel_rfl) (fun _ _ _ h => h) (.inl ⟨by rfl, fun W hW => exec_move _ _ rfl rfl⟩) (Sd) ?_
  try simp only [Act.put, List.setIfInBounds_toArray, List.set_cons_zero, List.set_cons_succ]
  refine takeJ (i := 1) (v := .pointer (some ⟨b, 0, none⟩)) 16 rfl rfl (by kernel_rfl) (by kernel_rfl) (by kernel_rfl) (by kernel_rfl) (fun _ _ _ h => h) (.inl ⟨by rfl, fun W hW => exec_move _ _ rfl rfl⟩) (Sd) ?_
  try simp only [Act.put, List.setIfInBounds_toArray, List.set_cons_zero, List.set_cons_succ]
  refine takeJ (i := 2) (v := .pointer (some ⟨b, 0, none⟩)) 17 rfl rfl (by kernel_rfl) (by kernel_rfl) (by kernel_rfl) (by kernel_rfl) (fun _ _ _ h => h) (.inl ⟨by rfl, fun W hW => exec_nil _ _ rfl rfl⟩) (Sd) ?_
  try simp only [Act.put, List.setIfInBounds_toArray, List.set_cons_zero, List.set_cons_succ]
  refine takeJ (i := 3) (v := .pointer (some ⟨b, 27, none⟩)) 18 rfl rfl (by kernel_rfl) (by kernel_rfl) (by kernel_rfl) (by kernel_rfl) (fun _ _ _ h => h) (.inl ⟨by rfl, fun W hW => exec_fieldO 71 _ 3 b 0 27 rfl rfl (fun w => by kernel_rfl)⟩) (Sd) ?_
  try simp only [Act.put, List.setIfInBounds_toArray, List.set_cons_zero, List.set_cons_succ]
  refine takeJ (i := 4) (v := .slice va n vc) 19 rfl rfl (by kernel_rfl) (by kernel_rfl) (by kernel_rfl) (by kernel_rfl) (fun _ _ _ h => h) (.inl ⟨by rfl, fun W hW => exec_load1 69 onePcs _ rfl b 27 rfl (.slice va n vc) (hW.1)⟩) (Sd) ?_
  try simp only [Act.put, List.setIfInBounds_toArray, List.set_cons_zero, List.set_cons_succ]
  refine takeJ (i := 5) (v := .agg Y.toArray) 20 rfl rfl (by kernel_rfl) (by kernel_rfl) (by kernel_rfl) (by kernel_rfl) (fun _ _ _ h => h) (.inl ⟨by rfl, fun W hW => exec_loadA 80 4 aggPc sizPc _ rfl s5 0 rfl Y LY.out hW.2⟩) (Sd) ?_
  try simp only [Act.put, List.setIfInBounds_toArray, List.set_cons_zero, List.set_cons_succ]
  refine nextJ (w' := wE) 6 21 (.slice (some ⟨w5.drew.heap.size, 0, none⟩) 1 1) (by kernel_rfl) rfl rfl (by rfl) (by rw [HE.out, HY.out]; exact exec_bsPc _ _ _ _ _ _ _ rfl rfl) (SE) ?_
  try simp only [Act.put, List.setIfInBounds_toArray, List.set_cons_zero, List.set_cons_succ]
  refine nextJ (w' := wF) 7 22 (.slice a' (n + 1) c') (by kernel_rfl) rfl rfl (by rfl) (exec_app _ _ 69 69 rfl (.slice va n vc) (.slice (some ⟨w5.drew.heap.size, 0, none⟩) 1 1) rfl rfl 69 rfl RUN.out) (SF) ?_
  try simp only [Act.put, List.setIfInBounds_toArray, List.set_cons_zero, List.set_cons_succ]
  refine nextJ (w' := wF) 8 23 (.pointer (some ⟨b, 0, none⟩)) (by kernel_rfl) rfl rfl (by rfl) (exec_nil _ _ rfl rfl) (SF) ?_
  try simp only [Act.put, List.setIfInBounds_toArray, List.set_cons_zero, List.set_cons_succ]
  refine nextJ (w' := wF) 9 24 (.pointer (some ⟨b, 27, none⟩)) (by kernel_rfl) rfl rfl (by rfl) (exec_fieldO 71 _ 3 b 0 27 rfl rfl (fun w => by kernel_rfl)) (SF) ?_
  try simp only [Act.put, List.setIfInBounds_toArray, List.set_cons_zero, List.set_cons_succ]
  refine storeJ (w' := wG) 10 (by kernel_rfl) rfl rfl (by rfl) (by rw [HG.out]; exact exec_store1 69 s1Pcs _ _ rfl b 27 rfl _ _ rfl cvF fvF rfl) ((fun e => by simp at e)) ?_
  try simp only [Act.put, List.setIfInBounds_toArray, List.set_cons_zero, List.set_cons_succ]
  refine doneJ (by kernel_rfl) ?_ _
  clear Sd SE SF cvF fvF SDH SEH SFH
  go_wp2
  go_end0
  exact ⟨rfl, FIN.out⟩

/-- all buffers, in order -/
def gbf (G : List (Nat × Gm)) : List Int := G.flatMap (fun p => p.2.L.map (·.buf))
theorem take_moreG {α : Type} {L : List α} {k : Nat} {r : α} (h : L[k]? = some r) : L.take (k + 1) = L.take k ++ [r] := by
  rw [List.take_add_one, h]
  rfl
theorem gbf_more {G : List (Nat × Gm)} {i : Nat} {p : Nat × Gm} (h : G[i]? = some p) : gbf (G.take (i + 1)) = gbf (G.take i) ++ p.2.L.map (·.buf) := by
  rw [take_moreG h]
  simp [gbf]
theorem gbf_len {G : List (Nat × Gm)} (h : ∀ p ∈ G, p.2.L.length ≤ 600) : (gbf G).length ≤ G.length * 600 := by
  induction G with
  | nil => simp [gbf]
  | cons d M ih =>
    have h1 := h d (by simp)
    have h2 := ih (fun m hm => h m (by simp [hm]))
    simp only [gbf, List.flatMap_cons, List.length_append, List.length_cons, List.length_map, Nat.add_mul, Nat.one_mul] at h2 ⊢
    omega
/-- what a loop over the list reads -/
theorem FrAt.at {ρ : Nat → Nat × Nat} {w : World} {b : Nat} {G : List (Nat × Gm)} (h : FrAt ρ w b G) : ∃ va vc, w.cell? ⟨b, 0, none⟩ = some (.slice va G.length vc) ∧ ∀ i p, G[i]? = some p → ∃ ga, va = some ⟨ga, 0, none⟩ ∧ ∀ W, Below w.heap.size w W → W.cell? ⟨ga, i, none⟩ = some (.pointer (some ⟨p.1, 0, none⟩)) := by
  obtain ⟨v, cv, rv⟩ := h.row
  obtain ⟨va, vc, rfl⟩ := rv.shape
  refine ⟨va, vc, cv, fun i p hp => ?_⟩
  have hi := (List.getElem?_eq_some_iff.1 hp).1
  obtain ⟨ga, e1, e2, _, _, e5⟩ := rv.at (by omega)
  refine ⟨ga, e1, fun W hW => ?_⟩
  have h5 := (e5 i hi).later e2 hW
  have := h5 0 (.pointer (some ⟨p.1, 0, none⟩)) (by rw [hp]; rfl)
  rw [Nat.mul_one, Nat.add_zero] at this
  exact this
set_option maxRecDepth 100000 in
set_option maxHeartbeats 4000000 in
theorem fBufs_any {ρ : Nat → Nat × Nat} {w : World} {b : Nat} {G : List (Nat × Gm)} (h : FrAt ρ w b G) : Calls Try.prog 19 #[.pointer (some ⟨b, 0, none⟩)] w fun e w' => ∃ v, e = .returned v ∧ RowN (fun g => w.heap.size ≤ g) w' v (gbf G) ∧ Below w.heap.size w w' := by
  obtain ⟨va, vc, cv, hat⟩ := h.at
  obtain ⟨n, hn⟩ : ∃ n, n = G.length := ⟨_, rfl⟩
  rw [← hn] at cv
  have n4 : n ≤ 4 := by rw [hn]; exact h.len
  have nz : (n : Int) ≤ 4 := by omega
  have HAT := hide hat
  have HN := hide hn
  have HH := hide h
  clear h hat hn
  go_enter Try.func19, Try.ntmps19
  go_wp2
  go_loopw [3, 11] (fun vb vi wr => ∃ (i : Nat) (ba : Option Addr) (bn bc : Nat), vb = .slice ba bn bc ∧ vi = .int .i64 (i : Int) ∧ i ≤ n ∧ Hid (RowN (fun g => w.heap.size ≤ g) wr (.slice ba bn bc) (gbf (G.take i))) ∧ Hid (bn = (gbf (G.take i)).length) ∧ Hid (Below w.heap.size w wr)) (fun _ vi _ => n - (intOf vi).toNat)
  case atStart => exact ⟨0, none, 0, 0, rfl, rfl, Nat.zero_le _, RowN.nil _ _, rfl, Below.refl _ _⟩
  case round =>
    obtain ⟨i, ba, bn, bc, rfl, rfl, hi, RI, BN, BI⟩ := hrel
    obtain ⟨wk, hwk⟩ : ∃ wk, wk = wr := ⟨_, rfl⟩
    rw [← hwk] at RI BI ⊢
    clear hwk
    by_cases hlt : i < n
    · obtain ⟨p, hp⟩ : ∃ p, G[i]? = some p := ⟨_, List.getElem?_eq_getElem (by rw [← HN.out]; exact hlt)⟩
      obtain ⟨ga, rfl, hgc⟩ := HAT.out i p hp
      have x0 := hgc wk BI.out
      have gm := (HH.out.gm p (List.mem_of_getElem? hp)).2.2
      have BF := hide (bufs_any (gm.later BI.out))
      obtain ⟨pb, hpb⟩ : ∃ pb, pb = p.1 := ⟨_, rfl⟩
      rw [← hpb] at x0 BF
      have MORE := hide (gbf_more hp)
      have l0 := gm.len
      have l1 : (gbf (G.take i)).length ≤ 2400 := by
        have h1 := gbf_len (G := G.take i) (fun q hq => (HH.out.gm q (List.mem_of_mem_take hq)).2.2.len)
        have h2 : (G.take i).length ≤ 4 := by rw [List.length_take]; omega
        have := Nat.mul_le_mul_right 600 h2
        omega
      have HL0 := hide l0
      have HL1 := hide l1
      have iz : (i : Int) < (n : Int) := by omega
      clear hgc gm hpb hp l0 l1
      go_wp2_with fail
      clear x0
      refine BF.out.mono ?_
      rintro _ w5 ⟨v5, rfl, r5, b5⟩
      obtain ⟨ua, uc, rfl⟩ := r5.shape
      obtain ⟨a', c', w6, hrun, r6, b6⟩ := appI_run (RI.out.later b5) r5.cn (by rw [List.length_map]; have := HL0.out; have := HL1.out; omega)
      rw [← BN.out] at hrun r6
      obtain ⟨un, hun⟩ : ∃ un, un = (p.2.L.map (·.buf)).length := ⟨_, rfl⟩
      rw [← hun] at hrun r6 ⊢
      obtain ⟨n', hn'⟩ : ∃ n', n' = bn + un := ⟨_, rfl⟩
      rw [← hn'] at hrun r6
      have BI6 : Hid (Below w.heap.size w w6) := (later BI.out b5).trans (b6.below (later BI.out b5).size (fun g hg e => by have e : w.heap.size ≤ g := e; omega))
      have R6 : Hid (RowN (fun g => w.heap.size ≤ g) w6 (.slice a' n' c') (gbf (G.take (i + 1)))) := by
        rw [MORE.out]
        exact r6.own (fun g hg e => by
          rcases e with e | e
          · exact e
          · have := (later BI.out b5).size; exact Nat.le_trans this e.1)
      have N6 : Hid (n' = (gbf (G.take (i + 1))).length) := by rw [MORE.out, List.length_append, ← BN.out, ← hun]; exact hn'
      have RUN := hide hrun
      clear hrun r6 b6 r5 b5 hn' hun BF
      go_upto_region 6 with (at_builtin; refine wpList_appJ rfl _ _ rfl rfl _ _ rfl rfl RUN.out ?_)
      go_wp2
      go_roundw
      case rel => exact ⟨i + 1, a', n', c', rfl, by go_num, by omega, R6.out, N6.out, BI6.out⟩
      case measure => simp [intOf]; omega
    · have ei : G.take i = G := by rw [List.take_of_length_le (by rw [← HN.out]; omega)]
      have iz : ¬ (i : Int) < (n : Int) := by omega
      rw [ei] at RI
      clear ei BN
      go_wp2
      go_ret
      exact ⟨_, rfl, RI.out, BI.out⟩

attribute [local go_sem] Oper.semAt_some

/-- marks of loops over functions that are through: each with its own block from N on, ready to be shut -/
inductive Marks (N : Nat) (W : World) : List Deferred → Prop where
  | nil : Marks N W []
  | cons {D : Nat} {ds : List Deferred} : N ≤ D → W.heap[D]? = some (.deferred (some [])) → (∀ d ∈ ds, d.target ≠ .collected D) → Marks N W ds → Marks N W ({ target := .collected D, args := #[] } :: ds)
theorem Marks.all {N : Nat} {W W' : World} {ds : List Deferred} (h : Marks N W ds) (hk : ∀ D, N ≤ D → W.heap[D]? = some (.deferred (some [])) → (∃ d ∈ ds, d.target = .collected D) → W'.heap[D]? = some (.deferred (some []))) : Marks N W' ds := by
  induction h with
  | nil => exact .nil
  | cons h1 h2 h3 h4 ih => exact .cons h1 (hk _ h1 h2 ⟨_, List.mem_cons_self, rfl⟩) h3 (ih (fun D hD hd ⟨d, hm, hd2⟩ => hk D hD hd ⟨d, List.mem_cons_of_mem _ hm, hd2⟩))
/-- the marks are shut one by one; what is left is as it was below N, and in all blocks of cells -/
theorem leaves_marks {F : Fence} {n : Nat} {fn : Func} {tmps : Array Value} {R : Ending → World → Prop} {N : Nat} : ∀ (ds : List Deferred) (W : World), Marks N W ds → (∀ W', But (fun g => N ≤ g ∧ ¬ Cel W g) W W' → LeavesIn F n Try.prog fn tmps R [] .returning W') → LeavesInM F n Try.prog fn tmps R ds .returning W
  | [], W, _, h => h W (But.refl _ _)
  | _ :: ds, W, .cons (D := D) h1 h2 h3 h4, h => by
    refine ⟨by simp, .inl ⟨D, _, rfl, run_takeDeferred h2, ?_⟩⟩
    have nc : ¬ Cel W D := fun e => e.ne h2 rfl rfl
    have bp : But (fun g => N ≤ g ∧ ¬ Cel W g) W (W.putObj D (.deferred none)) := (put_but W D (.deferred none)).mono (fun g e => by subst e; exact ⟨h1, nc⟩)
    refine leaves_marks ds _ (h4.all (fun E hE he ⟨d, hm, hd⟩ => ?_)) (fun W' hW' => ?_)
    · have ne : E ≠ D := fun e => by subst e; exact h3 d hm hd
      exact (World.putObj_heap_other ne).trans he
    · refine h W' (bp.trans (hW'.mono (fun g e => ⟨e.1, fun c => ?_⟩)))
      exact e.2 (c.but (put_but W D (.deferred none)) (fun e2 => by subst e2; exact nc c))
end Go.Proofs.Ytgempelfamjabaa
