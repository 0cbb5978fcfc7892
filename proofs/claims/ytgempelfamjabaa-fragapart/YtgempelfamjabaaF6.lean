
/-
  Package frag: kindOf, another. Package frag: a datagram's pieces are told in order. Out of A16 A29 A30 A34: Cel, Cel.but, Cel.ne, RowN.cel, keeps_trans, boxes, boxes_below, boxes_at, listV, listS, listC, setCell_one. Package frag: a datagram in memory; its buffers.
-/
import Derived.Test.YtgempelfamjabaaF1
import Derived.Test.YtgempelfamjabaaA2
namespace Go.Proofs.Ytgempelfamjabaa
open Go.RowKit Go.Shelf

/-- what tells datagrams apart -/
structure Kd where
  src : I4
  dst : I4
  proto : Int
  id : Int
  deriving DecidableEq
def Kd.cells (k : Kd) : List Value := k.src.vals ++ (k.dst.vals ++ [.int .i64 k.proto, .int .i64 k.id])
def Pk.kd (p : Pk) : Kd := ⟨p.src, p.dst, p.proto, p.id⟩
theorem aggKd (w : World) : (isAgg 68).run Try.prog w = .ok true w := by kernel_rfl
theorem sizKd (w : World) : (Go.sizeOf 68).run Try.prog w = .ok 10 w := by kernel_rfl
def zKd : Kd := ⟨zI, zI, 0, 0⟩
theorem kd_one (k : Kd) : ∀ u ∈ k.cells, u.oneCell' = true := by
  intro u hu
  simp only [Kd.cells, I4.vals, List.cons_append, List.nil_append, List.mem_cons, List.not_mem_nil, or_false] at hu
  rcases hu with rfl | rfl | rfl | rfl | rfl | rfl | rfl | rfl | rfl | rfl <;> rfl
section
variable {w : World} {ops : Array Oper} {rest : List Oper} {o : Oper} {a : Act} {Q : Exit → Act → World → Prop}
/-- any operation by its run -/
theorem wpList_runV {v : Value} {w' : World} (hgd : o.guard = none) (hr : (execOp a.eval o).run Try.prog w = .ok (.value v) w') (h : wpList Try.prog ops Q rest (a.put o.dst v) w') : wpList Try.prog ops Q (o :: rest) a w := by
  refine wpList_plain hgd fun K hK => ?_
  unfold Oper.wp
  rw [hr]
  exact hK _ _ h
end
theorem exec_bldKd {o : Oper} {w : World} {ev : Operand → Value} (x y u z : Operand) (i0 i1 i2 i3 j0 j1 j2 j3 pr id : Int) (ho : o.op = .build 68 #[(0, x), (1, y), (2, u), (3, z)]) (hx : ev x = .agg #[.int .u8 i0, .int .u8 i1, .int .u8 i2, .int .u8 i3]) (hy : ev y = .agg #[.int .u8 j0, .int .u8 j1, .int .u8 j2, .int .u8 j3]) (hu : ev u = .int .i64 pr) (hz : ev z = .int .i64 id) :
    (execOp ev o).run Try.prog w = .ok (.value (.agg (Kd.cells ⟨⟨i0, i1, i2, i3⟩, ⟨j0, j1, j2, j3⟩, pr, id⟩).toArray)) w := by
  unfold execOp
  rw [ho]
  simp only [List.map_toArray, List.map_cons, List.map_nil, hx, hy, hu, hz]
  kernel_rfl
set_option maxRecDepth 100000 in
set_option maxHeartbeats 4000000 in
theorem kindOf_any (p : Pk) (ov : Value) (w : World) : Calls Try.prog 35 #[.agg (p.cells ov).toArray] w fun e w' => e = .returned (.agg p.kd.cells.toArray) ∧ Below w.heap.size w w' := by
  rw [show (Value.agg (p.cells ov).toArray) = .agg #[.int .u8 p.src.a, .int .u8 p.src.b, .int .u8 p.src.c, .int .u8 p.src.d, .int .u8 p.dst.a, .int .u8 p.dst.b, .int .u8 p.dst.c, .int .u8 p.dst.d, .int .i64 p.proto, .int .i64 p.ttl, .int .i64 p.id, .int .i64 p.tos, .bool p.whole, .bool p.more, .int .i64 p.off, ov] from rfl]
  obtain ⟨w1, s, hs, hw, c1, f1, b1, l1⟩ := boxP w p ov
  obtain ⟨s2, hs2⟩ : ∃ s2, s2 = w1.heap.size := ⟨_, rfl⟩
  obtain ⟨w2, hw2⟩ : ∃ w2, w2 = w1.alloc (.cells zKd.cells.toArray 68) := ⟨_, rfl⟩
  have b2 : Below w1.heap.size w1 w2 := by rw [hw2]; exact later_alloc _ _
  have c2 : CellsAt w2 s2 0 zKd.cells := by rw [hw2, hs2]; exact CellsAt.new w1 _ _
  have f2 : ∀ y, w2.frozen? ⟨s2, y, none⟩ = false := by rw [hw2, hs2]; exact fun y => frozen_new w1 _ _ _
  have c12 := c1.later l1 b2
  have k0 : w2.cell? ⟨s, 0, none⟩ = some (.int .u8 p.src.a) := c12 0 _ rfl
  have k1 : w2.cell? ⟨s, 1, none⟩ = some (.int .u8 p.src.b) := c12 1 _ rfl
  have k2 : w2.cell? ⟨s, 2, none⟩ = some (.int .u8 p.src.c) := c12 2 _ rfl
  have k3 : w2.cell? ⟨s, 3, none⟩ = some (.int .u8 p.src.d) := c12 3 _ rfl
  have k4 : w2.cell? ⟨s, 4, none⟩ = some (.int .u8 p.dst.a) := c12 4 _ rfl
  have k5 : w2.cell? ⟨s, 5, none⟩ = some (.int .u8 p.dst.b) := c12 5 _ rfl
  have k6 : w2.cell? ⟨s, 6, none⟩ = some (.int .u8 p.dst.c) := c12 6 _ rfl
  have k7 : w2.cell? ⟨s, 7, none⟩ = some (.int .u8 p.dst.d) := c12 7 _ rfl
  have k8 : w2.cell? ⟨s, 8, none⟩ = some (.int .i64 p.proto) := c12 8 _ rfl
  have k10 : w2.cell? ⟨s, 10, none⟩ = some (.int .i64 p.id) := c12 10 _ rfl
  obtain ⟨K, hK⟩ : ∃ K, K = p.kd.cells := ⟨_, rfl⟩
  have LK : Hid (K.length = 10) := by rw [hK]; exact rfl
  have OK : Hid (∀ u ∈ K, u.oneCell' = true) := by rw [hK]; exact kd_one _
  obtain ⟨w3, hw3⟩ : ∃ w3, w3 = w2.setCells s2 0 K := ⟨_, rfl⟩
  have C3 : Hid (CellsAt w3 s2 0 K) := by rw [hw3]; exact c2.stored (by rw [LK.out]; rfl)
  have B3 : Hid (Below w.heap.size w w3) := by
    rw [hw3]
    exact (later b1 b2).trans ((But.cells s2 K 0 w2).below (later b1 b2).size (fun g hg e => by have e : g = s2 := e; have := b1.size; omega))
  have BLD : Hid (∀ (o : Oper) (ev : Operand → Value) (x y u z : Operand), o.op = .build 68 #[(0, x), (1, y), (2, u), (3, z)] → ev x = .agg #[.int .u8 p.src.a, .int .u8 p.src.b, .int .u8 p.src.c, .int .u8 p.src.d] → ev y = .agg #[.int .u8 p.dst.a, .int .u8 p.dst.b, .int .u8 p.dst.c, .int .u8 p.dst.d] → ev u = .int .i64 p.proto → ev z = .int .i64 p.id → (execOp ev o).run Try.prog w2 = .ok (.value (.agg K.toArray)) w2) := fun o ev x y u z ho hx hy hu hz => by
    rw [hK]
    exact exec_bldKd x y u z _ _ _ _ _ _ _ _ _ _ ho hx hy hu hz
  have C2 := hide c2
  have F2 := hide f2
  have hw2' : w1.alloc (.cells #[.int .u8 0, .int .u8 0, .int .u8 0, .int .u8 0, .int .u8 0, .int .u8 0, .int .u8 0, .int .u8 0, .int .i64 0, .int .i64 0] 68) = w2 := by rw [hw2]; rfl
  have HK := hide hK
  have hs' := hs.symm
  have hw' := hw.symm
  have hs2' := hs2.symm
  have hw3' := hw3.symm
  have B3' : Hid (Below s w w3) := by rw [hs]; exact B3.out
  clear hs hw hs2 hw2 hw3 c1 f1 b1 b2 c2 f2 c12 hK
  go_enter Try.func35, Try.ntmps35
  go_wp2_with (first | refine wpList_runV rfl (BLD.out _ _ _ _ _ _ rfl rfl rfl rfl rfl) ?_ | (refine wpList_storeA rfl 68 10 sizKd _ _ rfl s2 0 rfl K zKd.cells rfl LK.out rfl C2.out F2.out OK.out ?_; intro _; rw [hw3']))
  refine bodyPost_ret (v := .agg K.toArray) (results_A rfl _ _ s2 _ rfl (run_loadVarA 68 10 aggKd sizKd s2 0 _ LK.out C3.out)) rfl ?_
  first | exact ⟨by rw [HK.out], B3.out⟩ | exact ⟨by rw [HK.out], B3'.out⟩
def zF : Pk := ⟨zI, zI, 0, 0, 0, 0, false, false, 0, []⟩
theorem pkV_one (p : Pk) (ov : Value) (h : ov.oneCell' = true) : ∀ u ∈ p.cells ov, u.oneCell' = true := by
  intro u hu
  simp only [Pk.cells, I4.vals, List.cons_append, List.nil_append, List.mem_cons, List.not_mem_nil, or_false] at hu
  rcases hu with rfl | rfl | rfl | rfl | rfl | rfl | rfl | rfl | rfl | rfl | rfl | rfl | rfl | rfl | rfl | rfl
  all_goals first | rfl | exact h
set_option maxRecDepth 100000 in
set_option maxHeartbeats 4000000 in
/-- the same head in memory of its own -/
theorem another_any {P : Nat → Prop} (p : Pk) (ov : Value) (w : World) (ho : CB P w ov p.opts) (hl : p.opts.length ≤ 140737488355328) : Calls Try.prog 31 #[.agg (p.cells ov).toArray] w fun e w' => ∃ u, e = .returned (.agg (p.cells u).toArray) ∧ CB (fun g => w.heap.size ≤ g ∧ g < w'.heap.size) w' u p.opts ∧ Below w.heap.size w w' := by
  rw [show (Value.agg (p.cells ov).toArray) = .agg #[.int .u8 p.src.a, .int .u8 p.src.b, .int .u8 p.src.c, .int .u8 p.src.d, .int .u8 p.dst.a, .int .u8 p.dst.b, .int .u8 p.dst.c, .int .u8 p.dst.d, .int .i64 p.proto, .int .i64 p.ttl, .int .i64 p.id, .int .i64 p.tos, .bool p.whole, .bool p.more, .int .i64 p.off, ov] from rfl]
  obtain ⟨w1, s, hs, hw, c1, f1, b1, l1⟩ := boxP w p ov
  obtain ⟨s2, hs2⟩ : ∃ s2, s2 = w1.heap.size := ⟨_, rfl⟩
  obtain ⟨w2, hw2⟩ : ∃ w2, w2 = w1.alloc (.cells (zF.cells (.slice none 0 0)).toArray 26) := ⟨_, rfl⟩
  have b2 : Below w1.heap.size w1 w2 := by rw [hw2]; exact later_alloc _ _
  have c2 : CellsAt w2 s2 0 (zF.cells (.slice none 0 0)) := by rw [hw2, hs2]; exact CellsAt.new w1 _ _
  have f2 : ∀ y, w2.frozen? ⟨s2, y, none⟩ = false := by rw [hw2, hs2]; exact fun y => frozen_new w1 _ _ _
  have l2 : s2 < w2.heap.size := c2.lt (by decide)
  have c12 := c1.later l1 b2
  have f12 : ∀ y, w2.frozen? ⟨s, y, none⟩ = false := fun y => (b2.frozen (p := ⟨s, y, none⟩) l1).trans (f1 y)
  have l12 : s < w2.heap.size := Nat.lt_of_lt_of_le l1 b2.size
  have B2 := later b1 b2
  have k15 : w2.cell? ⟨s, 15, none⟩ = some ov := c12 15 _ rfl
  have CL := hide (cloneB_big (ho.later B2) hl)
  have HB2 := hide B2
  have C2 := hide c2
  have F2 := hide f2
  have C12 := hide c12
  have F12 := hide f12
  have hw2' : w1.alloc (.cells #[.int .u8 0, .int .u8 0, .int .u8 0, .int .u8 0, .int .u8 0, .int .u8 0, .int .u8 0, .int .u8 0, .int .i64 0, .int .i64 0, .int .i64 0, .int .i64 0, .bool false, .bool false, .int .i64 0, .slice none 0 0] 26) = w2 := by rw [hw2]; rfl
  have hs' := hs.symm
  have hw' := hw.symm
  have hs2' := hs2.symm
  have HS := hide hs
  have HS2 : Hid (s < s2 ∧ w.heap.size ≤ s2) := ⟨by omega, by have := b1.size; omega⟩
  clear hs hw hs2 hw2 c1 f1 b1 b2 c2 f2 c12 f12 B2 ho
  go_enter Try.func31, Try.ntmps31
  go_wp2_with fail
  clear hs' hw' hs2' hw2' k15
  refine CL.out.mono ?_
  rintro _ w3 ⟨u, rfl, cu, b3⟩
  have ou := cu.one
  obtain ⟨ua, uc, eu⟩ := cu.shape
  obtain ⟨un, hun⟩ : ∃ un, un = p.opts.length := ⟨_, rfl⟩
  rw [← hun] at eu
  subst eu
  have c3 := C12.out.later l12 b3
  have k3 : w3.cell? ⟨s, 15, none⟩ = some ov := c3 15 _ rfl
  have g3 : w3.frozen? ⟨s, 15, none⟩ = false := (b3.frozen (p := ⟨s, 15, none⟩) l12).trans (F12.out 15)
  obtain ⟨w4, hw4⟩ : ∃ w4, w4 = w3.setCell ⟨s, 15, none⟩ (.slice ua un uc) := ⟨_, rfl⟩
  have b4 : But (Only s) w3 w4 := by rw [hw4]; exact (But.refl (Only s) w3).cellb (b := s) rfl 15 _
  obtain ⟨X, hX⟩ : ∃ X, X = p.cells (.slice ua un uc) := ⟨_, rfl⟩
  have C4 : Hid (CellsAt w4 s 0 X) := by rw [hw4, hX]; exact c3.set 15 _
  have LX : Hid (X.length = 16) := by rw [hX]; exact rfl
  have OX : Hid (∀ v ∈ X, v.oneCell' = true) := by rw [hX]; exact pkV_one p _ ou
  have n2 : ¬ Only s s2 := fun e => by have e : s2 = s := e; have := HS2.out.1; omega
  have l23 : s2 < w3.heap.size := Nat.lt_of_lt_of_le l2 b3.size
  have C24 : Hid (CellsAt w4 s2 0 (zF.cells (.slice none 0 0))) := (C2.out.later l2 b3).but l23 b4 n2
  have F24 : Hid (∀ y, w4.frozen? ⟨s2, y, none⟩ = false) := fun y => (b4.frozen (p := ⟨s2, y, none⟩) l23 n2).trans ((b3.frozen (p := ⟨s2, y, none⟩) l2).trans (F2.out y))
  obtain ⟨w5, hw5⟩ : ∃ w5, w5 = w4.setCells s2 0 X := ⟨_, rfl⟩
  have b5 : But (Only s2) w4 w5 := by rw [hw5]; exact But.cells s2 X 0 w4
  have C5 : Hid (CellsAt w5 s2 0 X) := by rw [hw5]; exact C24.out.stored (by rw [LX.out]; rfl)
  have zs := HS.out
  have zs2 := HS2.out
  have z2 := HB2.out.size
  have z3 := b3.size
  have z4 := b4.size
  have z5 := b5.size
  have B5 : Hid (Below w.heap.size w w5) := ((later HB2.out b3).trans (b4.below (by omega) (fun g hg e => by have e : g = s := e; omega))).trans (b5.below (by omega) (fun g hg e => by have e : g = s2 := e; omega))
  have CU : Hid (CB (fun g => w.heap.size ≤ g ∧ g < w5.heap.size) w5 (.slice ua un uc) p.opts) := by
    refine (((cu.own (P' := fun g => w2.heap.size ≤ g) (fun g _ e => e.1)).but b4 (fun g e e2 => by have e2 : g = s := e2; omega)).but b5 (fun g e e2 => by have e2 : g = s2 := e2; omega)).own (fun g hg e => ⟨by omega, hg⟩)
  have hw4' := hw4.symm
  have hw5' := hw5.symm
  have HX := hide hX
  clear CL cu b3 c3 hw4 b4 hX hun ou n2 hw5 b5 zs zs2 z2 z3 z4 z5 HS HS2 HB2 C2 F2 C12 F12
  go_wp2_with (first | refine wpList_loadA rfl 26 16 aggP sizP _ rfl s 0 rfl X LX.out C4.out ?_ | (refine wpList_storeA rfl 26 16 sizP _ _ rfl s2 0 rfl X (zF.cells (.slice none 0 0)) rfl LX.out rfl C24.out F24.out OX.out ?_; intro _; rw [hw5']))
  refine bodyPost_ret (v := .agg X.toArray) (results_A rfl _ _ s2 _ rfl (run_loadVarA 26 16 aggP sizP s2 0 _ LX.out C5.out)) rfl ?_
  exact ⟨_, by rw [HX.out], CU.out, B5.out⟩

attribute [local go_sem] Oper.semAt_some

theorem modify_push {α : Type} (A : Array α) (o : α) (f : α → α) : (A.push o).modify A.size f = A.push (f o) := by
  apply Array.ext
  · simp
  · intro i h1 h2
    have hi : i < A.size + 1 := by simpa using h2
    rw [Array.getElem_modify]
    by_cases e : A.size = i
    · subst e
      simp
    · rw [if_neg e, Array.getElem_push_lt (by omega), Array.getElem_push_lt (by omega)]
theorem setCell_alloc (W : World) (c : Array Value) (t : TypeId) (k : Nat) (v : Value) : (W.alloc (.cells c t)).setCell ⟨W.heap.size, k, none⟩ v = W.alloc (.cells (c.setIfInBounds k v) t) := by
  unfold World.setCell World.alloc
  simp only [modify_push]
  rfl
theorem setCells_alloc4 (W : World) (t : TypeId) (z0 z1 z2 z3 x0 x1 x2 x3 : Value) : (W.alloc (.cells #[z0, z1, z2, z3] t)).setCells W.heap.size 0 [x0, x1, x2, x3] = W.alloc (.cells #[x0, x1, x2, x3] t) := by
  simp [World.setCells, setCell_alloc]
theorem pieces_in (n : Nat) (b : Nat) (w : World) :
    CallsIn Fence.wide n Try.prog 45 #[.pointer (some ⟨b, 0, none⟩)] w fun e w' => e = .returned (.func (.func 51) #[] #[.pointer (some ⟨w.heap.size, 0, none⟩)]) ∧ w' = w.alloc (.cells #[.pointer (some ⟨b, 0, none⟩)] 65) := by
  refine callsIn_of_wp Try.func45 rfl trivial ?_ rfl
  simp only [Try.ntmps45, List.size_toArray, List.length_cons, List.length_nil, Nat.reduceAdd, Nat.reduceSub, Array.replicate_succ, Array.replicate_zero, List.push_toArray, List.append_toArray, List.nil_append, List.cons_append]
  gi_wp2
  go_ret
  exact ⟨rfl, rfl⟩
set_option maxRecDepth 100000 in
set_option maxHeartbeats 2000000 in
/-- the pieces are told in order: all of them -/
theorem pieces_tells (n : Nat) (hn : 1 ≤ n) (Bc b g len c : Nat) (a0 : Option Addr) (ha : 0 < len → a0 = some ⟨g, 0, none⟩) (hlb : (len : Int) ≤ 1000) (L : List Pc) (hL : L.length = len) (hd : ∀ x ∈ L, ∃ a n c, x.dv = .slice a n c) (I : Nat → World → Prop) (hIa : ∀ k W o, I k W → I k (World.alloc W o))
    (hI : ∀ k W, I k W → W.cell? ⟨Bc, 0, none⟩ = some (.pointer (some ⟨b, 0, none⟩)) ∧ W.cell? ⟨b, 27, none⟩ = some (.slice a0 len c) ∧ ∀ j x, L[j]? = some x → CellsAt W g (j * 4) x.cells) :
    Tells n 51 #[.pointer (some ⟨Bc, 0, none⟩)] I (fun k args => ∃ x, L[k]? = some x ∧ args = #[.agg x.cells.toArray]) (fun k _ k' => k' = k + 1) (fun k => k = len) 0 := by
  intro lp B Bx W hBa hXa hBd hXd hY h0 hB0
  obtain ⟨q1, q2, _⟩ := hI 0 W h0
  have KEY := hide hI
  have HY := hide hY
  have HA := hide ha
  have I0 := hide h0
  have B0 := hide hB0
  have HIA := hide hIa
  have HBA := hide hBa
  have HL := hide hL
  have HD := hide hd
  clear hI hY h0 hB0 hBa hXa hBd hXd ha hIa hL hd
  refine callsIn_of_wp Try.func51 rfl trivial ?_ rfl
  simp only [Try.ntmps51, List.size_toArray, List.length_cons, List.length_nil, Nat.reduceAdd, Nat.reduceSub, Array.replicate_succ, Array.replicate_zero, List.push_toArray, List.append_toArray, List.nil_append, List.cons_append]
  gi_wp2
  clear q1 q2
  gi_loopw [10] (fun va wr => ∃ (m : Nat), va = .int .i64 (m : Int) ∧ m ≤ len ∧ Hid (I m wr) ∧ Hid (B wr)) (fun va _ => len - (intOf va).toNat)
  case atStart => exact ⟨0, rfl, Nat.zero_le _, I0.out, B0.out⟩
  case round =>
    obtain ⟨m, rfl, hm, hIm, hBm⟩ := hrel
    by_cases hlt : m < len
    · obtain ⟨q1, q2, q3⟩ := KEY.out _ wr hIm.out
      have ea := HA.out (by omega)
      subst ea
      have hmi : (m : Int) < (len : Int) := by omega
      have hm0 : (0 : Int) ≤ (m : Int) := by omega
      obtain ⟨x, hx⟩ : ∃ x, L[m]? = some x := ⟨_, List.getElem?_eq_getElem (by rw [HL.out]; exact hlt)⟩
      obtain ⟨da, dn, dc, edv⟩ := HD.out x (List.mem_of_getElem? hx)
      have cx := q3 m x hx
      have x0 : wr.cell? ⟨g, m * 4, none⟩ = some (.int .i64 x.at_) := cx 0 _ rfl
      have x1 : wr.cell? ⟨g, m * 4 + 1, none⟩ = some (.slice da dn dc) := by rw [← edv]; exact cx 1 _ rfl
      have x2 : wr.cell? ⟨g, m * 4 + 2, none⟩ = some (.bool x.last) := cx 2 _ rfl
      have x3 : wr.cell? ⟨g, m * 4 + 3, none⟩ = some (.int .i64 x.buf) := cx 3 _ rfl
      have ex : (Value.agg x.cells.toArray) = .agg #[.int .i64 x.at_, .slice da dn dc, .bool x.last, .int .i64 x.buf] := by rw [← edv]; rfl
      obtain ⟨fn, tmps, assign, body, hy, hR⟩ := HY.out m (wr.alloc (.cells #[.int .i64 x.at_, .slice da dn dc, .bool x.last, .int .i64 x.buf] 80)) #[.agg #[.int .i64 x.at_, .slice da dn dc, .bool x.last, .int .i64 x.buf]] (HIA.out _ _ _ hIm.out) (HBA.out _ _ hBm.out) ⟨x, hx, by rw [ex]⟩
      have HRd := hide hR
      clear hR q3 cx ex
      gi_wp2
      refine HRd.out.mono ?_
      rintro e W4 (⟨rfl, s', rfl, hI4, hB4⟩ | ⟨rfl, hX⟩)
      · have HI4 := hide hI4
        have HB4 := hide hB4
        clear hI4 hB4 HRd hy
        gi_wp2
        go_roundw
        case rel => exact ⟨m + 1, by go_num, by omega, HI4.out, HB4.out⟩
        case measure => simp [intOf]; omega
      · have HX := hide hX
        clear hX HRd hy
        gi_wp2
        show bodyPost Try.prog Try.f51 _ Exit.ret _ _
        refine bodyPost_ret (v := .tuple #[]) (results_none rfl _ _ _) rfl ?_
        exact ⟨⟨_, rfl⟩, .inr HX.out⟩
    · have e : m = len := by omega
      subst e
      gi_wp2
      go_end0
      exact ⟨⟨_, rfl⟩, .inl ⟨_, rfl, hIm.out, hBm.out⟩⟩

theorem is_setCells {W : World} {g o : Nat} {cs : List Value} (hc : ∀ j, j < cs.length → (W.cell? ⟨g, o + j, none⟩).isSome = true) (j : Nat) (h : (W.cell? ⟨g, j, none⟩).isSome = true) : ((W.setCells g o cs).cell? ⟨g, j, none⟩).isSome = true := by
  by_cases e : o ≤ j ∧ j < o + cs.length
  · rw [show j = o + (j - o) by omega, World.cell?_setCells_in g cs o W (fun i hi => hc i hi) (j - o) (by omega)]; rfl
  · rw [setCells_out (by omega)]; exact h
theorem setCell_one (W : World) (g o : Nat) (v : Value) : W.setCell ⟨g, o, none⟩ v = W.setCells g o [v] := rfl
theorem CellsAt.is {W : World} {s o : Nat} {vs : List Value} (h : CellsAt W s o vs) (p : Nat) (hp : p < vs.length) : (W.cell? ⟨s, o + p, none⟩).isSome = true := by rw [h p _ (List.getElem?_eq_getElem hp)]; rfl
/-- block h holds cells -/
def Cel (W : World) (h : Nat) : Prop := ∃ o, W.heap[h]? = some o ∧ o.isCells = true
theorem Cel.but {K : Nat → Prop} {W W' : World} {h : Nat} (c : Cel W h) (hb : But K W W') (hk : ¬ K h) : Cel W' h := by
  obtain ⟨o, h1, h2⟩ := c
  exact ⟨o, (hb.block h (Array.getElem?_eq_some_iff.1 h1).1 hk).trans h1, h2⟩
theorem Cel.ne {W : World} {h l : Nat} {o : Obj} (c : Cel W h) (ho : W.heap[l]? = some o) (hc : o.isCells = false) : h ≠ l := by
  rintro rfl
  obtain ⟨o', h1, h2⟩ := c
  rw [ho] at h1
  cases h1
  rw [hc] at h2
  cases h2
theorem RowF.cel {n : Nat} {O : Nat → Prop} {W : World} {v : Value} {len : Nat} {c : Nat → List Value} (h : RowF n O W v len c) (hl : 0 < len) (hn : 0 < n) : RowF n (fun g => O g ∧ Cel W g) W v len c := by
  obtain ⟨a, cap, e, c2, c3, c4, c5⟩ := h
  refine ⟨a, cap, e, c2, c3, c4, fun ad ea => ?_⟩
  obtain ⟨g, d1, d2, d3, d4, rest⟩ := c5 ad ea
  have : 0 < cap * n := Nat.mul_pos (by omega) hn
  obtain ⟨x, hx⟩ := Option.isSome_iff_exists.1 (d4 0 this)
  exact ⟨g, d1, ⟨d2, cells_of_cell hx⟩, d3, d4, rest⟩
theorem RowN.cel {O : Nat → Prop} {W : World} {v : Value} {L : List Int} (h : RowN O W v L) (hl : 0 < L.length) : RowN (fun g => O g ∧ Cel W g) W v L := by
  obtain ⟨a, cap, e, c2, c3, c4, c5⟩ := h
  refine ⟨a, cap, e, c2, c3, c4, fun ad ea => ?_⟩
  obtain ⟨g, off, d1, d2, d3, d4, rest⟩ := c5 ad ea
  obtain ⟨x, hx⟩ := Option.isSome_iff_exists.1 (d4 0 (by omega))
  exact ⟨g, off, ⟨d1, cells_of_cell hx⟩, d2, d3, d4, rest⟩

theorem keeps_trans {B : Nat} {a b c : World} (h : KeepsFrom B a b) (h' : KeepsFrom B b c) : KeepsFrom B a c := ⟨Nat.le_trans h.size h'.size, fun k o hk ho hc => h'.same k o hk (h.same k o hk ho hc) hc⟩
/-- variables that are boxed one behind the other -/
def boxes : List (Value × TypeId) → World → World
  | [], w => w
  | p :: l, w => boxes l (w.alloc (.cells #[p.1] p.2))
theorem boxes_below : ∀ (l : List (Value × TypeId)) (w : World), Below w.heap.size w (boxes l w) ∧ (boxes l w).heap.size = w.heap.size + l.length
  | [], w => ⟨Below.refl _ _, rfl⟩
  | p :: l, w => by
    obtain ⟨h1, h2⟩ := boxes_below l (w.alloc (.cells #[p.1] p.2))
    rw [World.size_alloc] at h1 h2
    exact ⟨((Below.refl _ w).alloc (Nat.le_refl _) _).trans (h1.mono (by omega)), by unfold boxes; rw [h2, List.length_cons]; omega⟩
theorem boxes_at : ∀ (l : List (Value × TypeId)) (w : World) (j : Nat) (v : Value) (t : TypeId), l[j]? = some (v, t) → (boxes l w).cell? ⟨w.heap.size + j, 0, none⟩ = some v ∧ (boxes l w).frozen? ⟨w.heap.size + j, 0, none⟩ = false
  | p :: l, w, 0, v, t, h => by
    cases h
    have hb := (boxes_below l (w.alloc (.cells #[v] t))).1
    have hc := CellsAt.new w [v] t 0 v rfl
    have hf := frozen_new w #[v] t 0
    have hl : w.heap.size < (w.alloc (.cells #[v] t)).heap.size := by simp
    exact ⟨(hb.cell (p := ⟨w.heap.size, 0, none⟩) hl).trans hc, (hb.frozen (p := ⟨w.heap.size, 0, none⟩) hl).trans hf⟩
  | p :: l, w, j + 1, v, t, h => by
    have := boxes_at l (w.alloc (.cells #[p.1] p.2)) j v t (by simpa using h)
    rw [World.size_alloc, show w.heap.size + 1 + j = w.heap.size + (j + 1) by omega] at this
    exact this
section
variable {l n : Nat} {ops : Array Oper} {rest : List Oper} {o : Oper} {a : Act} {w w' : World} {Q : Exit → Act → World → Prop}
/-- an operation of a region that keeps its order, in a round: a value, a store, a call -/
theorem listV (d : Tmp) (v : Value) (hgd : o.guard = none) (hnd : noDefer o = true) (hd : o.dst = some d) (hrun : (execOp a.eval o).run Try.prog w = .ok (.value v) w') (h : wpListIn (Fence.wide.inRound l) n Try.prog ops Q rest (a.put (some d) v) w') : wpListIn (Fence.wide.inRound l) n Try.prog ops Q (o :: rest) a w := by
  refine wpListIn_plain hgd fun K hK => ⟨fun _ _ => trivial, ?_⟩
  rw [Oper.semAt_eq _ _ _ (fun c e => by unfold noDefer at hnd; rw [e] at hnd; cases hnd), hrun]
  simp only [Oper.uponIn, hd]
  exact hK _ _ h
theorem listS (hgd : o.guard = none) (hnd : noDefer o = true) (hd : o.dst = none) (hrun : (execOp a.eval o).run Try.prog w = .ok .skip w') (h : wpListIn (Fence.wide.inRound l) n Try.prog ops Q rest a w') : wpListIn (Fence.wide.inRound l) n Try.prog ops Q (o :: rest) a w := by
  refine wpListIn_plain hgd fun K hK => ⟨fun _ _ => trivial, ?_⟩
  rw [Oper.semAt_eq _ _ _ (fun c e => by unfold noDefer at hnd; rw [e] at hnd; cases hnd), hrun]
  simp only [Oper.uponIn, hd, Act.put]
  exact hK _ _ h
theorem listC (d : Tmp) (F : FuncId) (vals : Array Value) (hgd : o.guard = none) (hnd : noDefer o = true) (hd : o.dst = some d) (hrun : (execOp a.eval o).run Try.prog w = .ok (.enter F vals) w') (R : Value → World → Prop) (hC : Calls Try.prog F vals w' fun e w2 => ∃ v, e = .returned v ∧ R v w2)
    (h : ∀ v w2, R v w2 → wpListIn (Fence.wide.inRound l) n Try.prog ops Q rest (a.put (some d) v) w2) : wpListIn (Fence.wide.inRound l) n Try.prog ops Q (o :: rest) a w := by
  refine wpListIn_plain hgd fun K hK => ⟨fun _ _ => trivial, ?_⟩
  rw [Oper.semAt_eq _ _ _ (fun c e => by unfold noDefer at hnd; rw [e] at hnd; cases hnd), hrun]
  simp only [Oper.uponIn, hd]
  refine ⟨fun h => by simp [Fence.wide] at h, callsIn_round (hC.mono ?_)⟩
  rintro _ w2 ⟨v, rfl, hR⟩
  exact hK _ _ (h v w2 hR)
end

attribute [local go_sem] Oper.semAt_some

theorem oneI (w : World) : (isAgg 46).run Try.prog w = .ok false w := by kernel_rfl
theorem s1I (w : World) : (Go.sizeOf 46).run Try.prog w = .ok 1 w := by kernel_rfl
theorem exec_bsI {o : Oper} {w : World} {ev : Operand → Value} (x : Operand) (v : Int) (ho : o.op = .buildSlice 46 1 #[(0, x)]) (hx : ev x = .int .i64 v) : (execOp ev o).run Try.prog w = .ok (.value (.slice (some ⟨w.heap.size, 0, none⟩) 1 1)) (w.alloc (.cells #[.int .i64 v] 3)) := by
  unfold execOp
  simp [ho, hx, go_sem]
/-- the cells of the j-th piece -/
def pcc (L : List Pc) (j : Nat) : List Value := match L[j]? with | some x => x.cells | none => [.int .i64 0, .slice none 0 0, .bool false, .int .i64 0]
theorem pcc_at {L : List Pc} {j : Nat} {x : Pc} (h : L[j]? = some x) : pcc L j = x.cells := by unfold pcc; rw [h]
theorem pcc_len (L : List Pc) (j : Nat) : (pcc L j).length = 4 := by
  unfold pcc
  split <;> rfl
/-- a datagram of which some is missing yet: its kind, since when, the whole one's head (with the slice of its options), its pieces -/
structure Gm where
  kd : Kd
  since : Int
  hd : Pk
  hv : Value
  L : List Pc
/-- it lies at b: the row of its pieces in blocks of RO, their bytes and the head's options in blocks of CO -/
structure GmAt (W : World) (b : Nat) (RO CO : Nat → Prop) (m : Gm) : Prop where
  c : CellsAt W b 0 (m.kd.cells ++ (.int .i64 m.since :: m.hd.cells m.hv))
  row : ∃ v, W.cell? ⟨b, 27, none⟩ = some v ∧ RowF 4 RO W v m.L.length (pcc m.L)
  fz : ∀ y, W.frozen? ⟨b, y, none⟩ = false
  con : ∀ x ∈ m.L, x.Ok CO W
  hok : CB CO W m.hv m.hd.opts
  len : m.L.length ≤ 600
section
variable {W W' : World} {b : Nat} {RO CO K : Nat → Prop} {m : Gm}
theorem GmAt.lt (h : GmAt W b RO CO m) : b < W.heap.size := by
  obtain ⟨v, h1, _⟩ := h.row
  exact World.block_lt_of_cell? W _ h1
theorem GmAt.but (h : GmAt W b RO CO m) (hb : But K W W') (hk : ∀ g, g = b ∨ RO g ∨ CO g → ¬ K g) : GmAt W' b RO CO m := by
  have hl := h.lt
  obtain ⟨v, h1, h2⟩ := h.row
  have k1 := hk b (.inl rfl)
  exact ⟨h.c.but hl hb k1, ⟨v, (hb.cell (p := ⟨b, 27, none⟩) hl k1).trans h1, h2.but hb (fun g e => hk g (.inr (.inl e)))⟩, fun y => (hb.frozen (p := ⟨b, y, none⟩) hl k1).trans (h.fz y), fun x hx => ⟨(h.con x hx).d.but hb (fun g e => hk g (.inr (.inr e))), (h.con x hx).lo, (h.con x hx).hi⟩, h.hok.but hb (fun g e => hk g (.inr (.inr e))), h.len⟩
theorem GmAt.later (h : GmAt W b RO CO m) (hb : Below W.heap.size W W') : GmAt W' b RO CO m := h.but (K := fun _ => False) (But.of_below hb) (fun _ _ => id)
theorem GmAt.own {RO' CO' : Nat → Prop} (h : GmAt W b RO CO m) (h1 : ∀ g, g < W.heap.size → RO g → RO' g) (h2 : ∀ g, g < W.heap.size → CO g → CO' g) : GmAt W b RO' CO' m := by
  obtain ⟨v, k1, k2⟩ := h.row
  exact ⟨h.c, ⟨v, k1, k2.own h1⟩, h.fz, fun x hx => ⟨(h.con x hx).d.own h2, (h.con x hx).lo, (h.con x hx).hi⟩, h.hok.own h2, h.len⟩
/-- what the iterator looks at -/
theorem GmAt.it (h : GmAt W b RO CO m) : ∃ a0 c g, W.cell? ⟨b, 27, none⟩ = some (.slice a0 m.L.length c) ∧ (0 < m.L.length → a0 = some ⟨g, 0, none⟩ ∧ g < W.heap.size) ∧ (∀ j x, m.L[j]? = some x → CellsAt W g (j * 4) x.cells) ∧ ∀ x ∈ m.L, ∃ a n c, x.dv = .slice a n c := by
  obtain ⟨v, h1, h2⟩ := h.row
  obtain ⟨a0, c, rfl⟩ := h2.shape
  by_cases h0 : 0 < m.L.length
  · obtain ⟨g, e, hg, _, _, hc⟩ := h2.at h0
    exact ⟨a0, c, g, h1, fun _ => ⟨e, hg⟩, fun j x hx => by rw [← pcc_at hx]; exact hc j (List.getElem?_eq_some_iff.1 hx).1, fun x hx => by obtain ⟨a, c, e⟩ := (h.con x hx).d.shape; exact ⟨a, _, c, e⟩⟩
  · have e0 : m.L = [] := List.eq_nil_of_length_eq_zero (by omega)
    exact ⟨a0, c, 0, h1, fun h => absurd h h0, fun j x hx => by rw [e0] at hx; simp at hx, fun x hx => by rw [e0] at hx; cases hx⟩
end
/-- between two rounds of bufs: its variable is at s -/
def BfI (w1 : World) (s : Nat) (L : List Pc) (k : Nat) (W : World) : Prop :=
  But (Only s) w1 W ∧ W.frozen? ⟨s, 0, none⟩ = false ∧ ∃ v, W.cell? ⟨s, 0, none⟩ = some v ∧ RowN (fun g => w1.heap.size ≤ g ∧ Cel W g) W v ((L.take k).map (·.buf))
theorem BfI.keep {w1 : World} {s : Nat} {L : List Pc} {k : Nat} {W W' : World} {K : Nat → Prop} (h : BfI w1 s L k W) (hs : s < w1.heap.size) (hb : But K W W') (hk : ∀ g, K g → w1.heap.size ≤ g ∧ ¬ Cel W g) : BfI w1 s L k W' := by
  obtain ⟨h1, h2, v, h3, h4⟩ := h
  have zs : s < W.heap.size := World.block_lt_of_cell? W _ h3
  have ks : ¬ K s := fun e => by have := (hk s e).1; omega
  refine ⟨h1.trans' hb (fun g hg e => by have := (hk g e).1; omega), (hb.frozen (p := ⟨s, 0, none⟩) zs ks).trans h2, v, (hb.cell (p := ⟨s, 0, none⟩) zs ks).trans h3, ?_⟩
  exact (h4.but hb (fun g e e2 => (hk g e2).2 e.2)).own (fun g hg e => ⟨e.1, e.2.but hb (fun e2 => (hk g e2).2 e.2)⟩)
set_option maxRecDepth 100000 in
set_option maxHeartbeats 4000000 in
theorem bufs_in (n : Nat) (hn : 3 ≤ n) {w : World} {b : Nat} {RO CO : Nat → Prop} {m : Gm} (h : GmAt w b RO CO m) :
    CallsIn Fence.wide n Try.prog 28 #[.pointer (some ⟨b, 0, none⟩)] w fun e w' => ∃ v, e = .returned v ∧ RowN (fun g => w.heap.size ≤ g) w' v (m.L.map (·.buf)) ∧ Below w.heap.size w w' := by
  have h1 : 1 ≤ n := by omega
  have hblt := h.lt
  obtain ⟨a0, c0, g, cL, hga, hcs, hdv⟩ := h.it
  have hlen := h.len
  obtain ⟨L, hL⟩ : ∃ L, L = m.L := ⟨_, rfl⟩
  rw [← hL] at cL hga hcs hdv hlen ⊢
  clear hL h
  refine callsIn_of_wp_marks Try.func28 rfl trivial ?_ rfl
  simp only [Try.ntmps28, List.size_toArray, List.length_cons, List.length_nil, Nat.reduceAdd, Nat.reduceSub, Array.replicate_succ, Array.replicate_zero, List.push_toArray, List.append_toArray, List.nil_append, List.cons_append]
  have HGA := hide hga
  have HCS := hide hcs
  have HDV := hide hdv
  clear hga hcs hdv
  gi_wp2_with fail
  refine ⟨trivial, ?_⟩
  refine (pieces_in (n - 1) b _).mono ?_
  rintro e w' ⟨rfl, rfl⟩
  simp only [World.size_alloc]
  obtain ⟨s, hs⟩ : ∃ s, s = w.heap.size := ⟨_, rfl⟩
  rw [← hs]
  obtain ⟨w1, hw1⟩ : ∃ w1, w1 = boxes [(.slice none 0 0, 46), (.pointer (some ⟨b, 0, none⟩), 65)] w := ⟨_, rfl⟩
  have hbx := boxes_at [(.slice none 0 0, 46), (.pointer (some ⟨b, 0, none⟩), 65)] w
  obtain ⟨hb1, hz0⟩ := boxes_below [(.slice none 0 0, 46), (.pointer (some ⟨b, 0, none⟩), 65)] w
  rw [← hw1, ← hs] at hbx
  rw [← hw1] at hb1 hz0
  have hz1 : w1.heap.size = s + 2 := by rw [hz0, hs]; rfl
  clear hz0
  have k0 := hbx 0 _ _ rfl
  have cB : w1.cell? ⟨s + 1, 0, none⟩ = some (.pointer (some ⟨b, 0, none⟩)) := (hbx 1 _ _ rfl).1
  have hw1' := hw1.symm
  simp only [boxes] at hw1'
  rw [hw1']
  have cL1 := (hb1.cell (p := ⟨b, 27, none⟩) hblt).trans cL
  have I0 : BfI w1 s L 0 w1 := ⟨But.refl _ _, k0.2, _, k0.1, RowN.nil _ _⟩
  have HB1 := hide hb1
  have HS := hide hs
  have HZ1 := hide hz1
  have HW := hide hblt
  have sl : Hid (s < w1.heap.size) := by unfold Hid; omega
  have CL1 := hide cL1
  have CB := hide cB
  have HLEN := hide hlen
  clear hs hw1 hw1' hbx hb1 k0 cL hz1 hblt cL1 cB hlen
  gi_wp2
  refine wpIn_range h1 (gf := 51) (lb := #[.pointer (some ⟨s + 1, 0, none⟩)]) rfl (enters_of Try.func51 (by kernel_rfl) rfl) (BfI w1 s L) (fun _ _ => False) 0
    (pieces_tells (n - 1) (by omega) (s + 1) b g L.length c0 a0 (fun hl => (HGA.out hl).1) (by have := HLEN.out; omega) L rfl HDV.out _ (fun j W o hI => hI.keep sl.out ((But.refl (fun _ => False) W).alloc o) (fun _ e => e.elim)) (fun j W hI => ⟨(hI.1.cell (p := ⟨s + 1, 0, none⟩) (by have := HZ1.out; show s + 1 < _; omega) (fun e => by have e : s + 1 = s := e; omega)).trans CB.out, (hI.1.cell (p := ⟨b, 27, none⟩) (by have := HS.out; have := HW.out; have := HZ1.out; show b < _; omega) (fun e => by have e : b = s := e; have := HS.out; have := HW.out; omega)).trans CL1.out, fun q x hx => ((HCS.out q x hx).later (HGA.out (by have := (List.getElem?_eq_some_iff.1 hx).1; omega)).2 HB1.out).but (by have := (HGA.out (by have := (List.getElem?_eq_some_iff.1 hx).1; omega)).2; have := HB1.out.size; omega) hI.1 (fun e => by have e : g = s := e; have := (HGA.out (by have := (List.getElem?_eq_some_iff.1 hx).1; omega)).2; have := HS.out; omega)⟩))
    (fun j args ⟨_, _, e⟩ => by rw [e]; rfl) (fun j W o hI => hI.keep sl.out ((But.refl (fun _ => False) W).alloc o) (fun _ e => e.elim)) (fun j W l o o' hl ho hc hI => hI.keep sl.out (put_but W l o') (fun q e => by subst e; exact ⟨hl, fun hcc => hcc.ne ho hc rfl⟩)) (fun c W o h => h.elim) (fun c W l o o' hl ho hc h => h.elim) (fun c W h => h.elim) I0 ?round ?done ?stop
  case stop => intro D c W _ h; exact h.elim
  case done =>
    intro D j W hD hj hI hDW
    subst hj
    obtain ⟨hbW, hfz, v, cv, rv⟩ := hI
    have z1 := HZ1.out
    have hsW := HS.out
    rw [List.take_length] at rv
    obtain ⟨xa, xc, hxv⟩ := rv.shape
    have nD : ¬ Cel W D := fun e => e.ne hDW rfl rfl
    have zW := hbW.size
    have bp := put_but W D (.deferred none)
    have FE : Hid (RowN (fun q => w.heap.size ≤ q) (W.putObj D (.deferred none)) v (L.map (·.buf)) ∧ Below w.heap.size w (W.putObj D (.deferred none))) :=
      ⟨(rv.but bp (fun q e e2 => by rw [e2] at e; exact nD e.2)).own (fun q _ e => by have := e.1; omega), (HB1.out.trans (hbW.below HB1.out.size (fun q hq e => by have e : q = s := e; omega))).trans (bp.below (by have := HB1.out.size; omega) (fun q hq e => by omega))⟩
    have HDW := hide hDW
    rw [hxv] at cv FE
    clear hbW hfz rv hDW nD bp z1 hsW zW hD
    gi_wp2
    refine ⟨by simp, .inl ⟨_, _, rfl, run_takeDeferred HDW.out, ?_⟩⟩
    exact ⟨_, by simp [results, go_sem], _, rfl, FE.out⟩
  case round =>
    rintro l j args W' hlS hI ⟨x, hx, rfl⟩
    obtain ⟨da, dn, dc, edv⟩ := HDV.out x (List.mem_of_getElem? hx)
    have ex : (Value.agg x.cells.toArray) = .agg #[.int .i64 x.at_, .slice da dn dc, .bool x.last, .int .i64 x.buf] := by rw [← edv]; rfl
    rw [ex]
    have HI := hide hI
    clear hI ex
    gi_wp2
    refine ⟨KeepsFrom.of_but ((But.refl (fun _ => False) W').alloc _) (fun _ e => e.elim), ?_⟩
    intro o o' hoo hc
    obtain ⟨p, hp⟩ : ∃ p, p = W'.heap.size := ⟨_, rfl⟩
    rw [← hp]
    have cA : CellsAt (W'.alloc (.cells #[.int .i64 x.at_, .slice da dn dc, .bool x.last, .int .i64 x.buf] 80)) p 0 [.int .i64 x.at_, .slice da dn dc, .bool x.last, .int .i64 x.buf] := by rw [hp]; exact CellsAt.new W' _ _
    have IA : BfI w1 s L j (W'.alloc (.cells #[.int .i64 x.at_, .slice da dn dc, .bool x.last, .int .i64 x.buf] 80)) := HI.out.keep sl.out ((But.refl (fun _ => False) W').alloc _) (fun _ e => e.elim)
    have pz : w1.heap.size ≤ p := by rw [hp]; exact HI.out.1.size
    generalize W'.alloc (.cells #[.int .i64 x.at_, .slice da dn dc, .bool x.last, .int .i64 x.buf] 80) = WA at *
    have pl : p ≠ l := (show Cel WA p from cells_of_cell (cA 0 _ rfl)).ne hoo hc
    have lA : p < WA.heap.size := cA.lt (Nat.zero_lt_succ _)
    have I2 : BfI w1 s L j (WA.putObj l o') := IA.keep sl.out (put_but WA l o') (fun q e => by subst e; exact ⟨hlS, fun hcc => hcc.ne hoo hc rfl⟩)
    have c2 : CellsAt (WA.putObj l o') p 0 [.int .i64 x.at_, .slice da dn dc, .bool x.last, .int .i64 x.buf] := cA.but lA (put_but WA l o') pl
    clear hoo hc HI IA cA lA
    generalize WA.putObj l o' = W2 at *
    refine wpIn_block ?_
    obtain ⟨hbW, hfz, v, cv, rv⟩ := I2
    have z1 := HZ1.out
    have zW := hbW.size
    have hls : s < W2.heap.size := World.block_lt_of_cell? W2 _ cv
    have hjl : ((L.take j).map (·.buf)).length ≤ 600 := by rw [List.length_map, List.length_take]; have := HLEN.out; omega
    have TK : (L.take (j + 1)).map (·.buf) = (L.take j).map (·.buf) ++ [x.buf] := by
      rw [List.take_add_one, hx, List.map_append]
      rfl
    generalize (L.take j).map (·.buf) = Q at *
    obtain ⟨va, vc, rfl⟩ := rv.shape
    obtain ⟨q, hq⟩ : ∃ q, q = Q.length := ⟨_, rfl⟩
    rw [← hq] at cv rv hjl
    obtain ⟨a', c', wF, hrun, rF, hbF⟩ := rv.push x.buf (by omega)
    rw [← hq] at hrun rF
    have b3 : But (fun _ => False) W2 (W2.alloc (.cells #[.int .i64 x.buf] 3)) := (But.refl _ W2).alloc _
    have ns : ¬ (w1.heap.size ≤ s ∧ Cel W2 s) := fun e => by have := e.1; omega
    have cvF : wF.cell? ⟨s, 0, none⟩ = some (.slice va q vc) := (hbF.cell (p := ⟨s, 0, none⟩) hls ns).trans cv
    have fvF : wF.frozen? ⟨s, 0, none⟩ = false := (hbF.frozen (p := ⟨s, 0, none⟩) hls ns).trans hfz
    obtain ⟨wG, hwG⟩ : ∃ z, z = wF.setCell ⟨s, 0, none⟩ (.slice a' (q + 1) c') := ⟨_, rfl⟩
    have nG : But (Only s) wF wG := by rw [hwG]; exact (But.refl (Only s) wF).setCell (p := ⟨s, 0, none⟩) (.inr rfl) _
    have FIN : KeepsFrom w1.heap.size W2 wG ∧ BfI w1 s L (j + 1) wG := by
      refine ⟨keeps_trans (KeepsFrom.of_but hbF (fun q e => e.2)) (KeepsFrom.of_but nG (fun q e => by have e : q = s := e; rw [e]; exact cells_of_cell cvF)), (hbW.trans' hbF (fun q hq e => by have := e.1; omega)).trans nG, by rw [hwG, World.frozen?_setCell]; exact fvF, _, by rw [hwG]; exact World.cell?_setCell_same _ _ _ cvF, ?_⟩
      rw [TK]
      have r1 := (rF.own (O' := fun q => w1.heap.size ≤ q) (fun q hq e => by
        rcases e with e | e
        · exact e.1
        · omega)).but nG (fun q e e2 => by have e2 : q = s := e2; omega)
      exact r1.cel (by simp)
    refine wpIn_region_lit ?_
    refine listV (w' := W2) 8 (.slice va q vc) rfl rfl rfl (exec_load1 46 oneI _ rfl s 0 rfl (.slice va q vc) (cv)) ?_
    try simp only [Act.put, List.setIfInBounds_toArray, List.set_cons_zero, List.set_cons_succ]
    refine listV (w' := W2) 9 (.pointer (some ⟨p, 3, none⟩)) rfl rfl rfl (exec_fieldO 80 _ 3 p 0 3 rfl rfl (fun w => by kernel_rfl)) ?_
    try simp only [Act.put, List.setIfInBounds_toArray, List.set_cons_zero, List.set_cons_succ]
    refine listV (w' := W2) 10 (.int .i64 x.buf) rfl rfl rfl (exec_load1 3 one1 _ rfl p 3 rfl (.int .i64 x.buf) (c2 3 _ rfl)) ?_
    try simp only [Act.put, List.setIfInBounds_toArray, List.set_cons_zero, List.set_cons_succ]
    refine listV (w' := W2.alloc (.cells #[.int .i64 x.buf] 3)) 11 (.slice (some ⟨W2.heap.size, 0, none⟩) 1 1) rfl rfl rfl (exec_bsI _ _ rfl rfl) ?_
    try simp only [Act.put, List.setIfInBounds_toArray, List.set_cons_zero, List.set_cons_succ]
    refine listV (w' := wF) 12 (.slice a' (q + 1) c') rfl rfl rfl (exec_app _ _ 46 46 rfl (.slice va q vc) (.slice (some ⟨W2.heap.size, 0, none⟩) 1 1) rfl rfl 46 rfl hrun) ?_
    try simp only [Act.put, List.setIfInBounds_toArray, List.set_cons_zero, List.set_cons_succ]
    refine listS (w' := wG) rfl rfl rfl (by rw [hwG]; exact exec_store1 46 s1I _ _ rfl s 0 rfl _ _ rfl cvF fvF rfl) ?_
    exact ⟨FIN.1, _, rfl, FIN.2⟩
theorem bufs_any {w : World} {b : Nat} {RO CO : Nat → Prop} {m : Gm} (h : GmAt w b RO CO m) : Calls Try.prog 28 #[.pointer (some ⟨b, 0, none⟩)] w fun e w' => ∃ v, e = .returned v ∧ RowN (fun g => w.heap.size ≤ g) w' v (m.L.map (·.buf)) ∧ Below w.heap.size w w' :=
  callsIn_wide.1 (bufs_in 3 (Nat.le_refl _) h)
end Go.Proofs.Ytgempelfamjabaa
