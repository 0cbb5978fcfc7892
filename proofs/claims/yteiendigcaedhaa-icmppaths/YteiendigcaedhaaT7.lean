
/-
  Package icmp: what is known of addresses: the map, and Find.
-/
import Derived.Test.YteiendigcaedhaaT6
import Derived.Maps.RangeRun
import Derived.WideKeyRuns
import Derived.DeepKeys3
namespace Go.Proofs.Yteiendigcaedhaa
open Go.RowKit Go.Shelf
open Go.ChangeMaps (setBlock)

/-- an address, what is known of it, its entry's stamp -/
structure Pt where
  ip : I4
  mtu : Int
  bn : Nat
def pent (r : Pt) : MapEntry := ⟨.agg r.ip.vals.toArray, .int .i64 r.mtu, r.bn⟩
/-- the map in block b -/
def PmAt (W : World) (b : Nat) (L : List Pt) (ck : Nat) : Prop := W.heap[b]? = some (.map (L.map pent).toArray ck)
theorem PmAt.lt {W : World} {b : Nat} {L : List Pt} {ck : Nat} (h : PmAt W b L ck) : b < W.heap.size := (Array.getElem?_eq_some_iff.1 h).1
theorem PmAt.but {K : Nat → Prop} {W W' : World} {b : Nat} {L : List Pt} {ck : Nat} (h : PmAt W b L ck) (hb : But K W W') (hk : ¬ K b) : PmAt W' b L ck := (hb.block b h.lt hk).trans h
theorem PmAt.later {W W' : World} {b : Nat} {L : List Pt} {ck : Nat} (h : PmAt W b L ck) (hb : Below W.heap.size W W') : PmAt W' b L ck := h.but (K := fun _ => False) (But.of_below hb) id
theorem But.block_ {K : Nat → Prop} {w : World} {b : Nat} (hb : K b) (o : Obj) : But K w (setBlock w b o) :=
  ⟨rfl, rfl, rfl, by simp [setBlock], fun i _ hi => by
    simp only [setBlock]
    rw [Array.getElem?_setIfInBounds_ne]
    rintro rfl; exact hi hb⟩
theorem PmAt.set {W : World} {b : Nat} {L : List Pt} {ck : Nat} (h : PmAt W b L ck) (M : List Pt) (k : Nat) : PmAt (setBlock W b (.map (M.map pent).toArray k)) b M k := by
  unfold PmAt setBlock
  rw [Array.getElem?_setIfInBounds_self]
  simp [h.lt]
theorem peq_row (w : World) (D : Nat) (n : I4) (r : Pt) : (Op.equalIn (D + 2) 35 (.agg n.vals.toArray) (pent r).key).run Try.prog w = .ok (eqI n r.ip) w := by
  obtain ⟨⟨a', b', c', d'⟩, p, s⟩ := r
  obtain ⟨a, b, c, d⟩ := n
  exact eq_ip w D a b c d a' b' c' d'
theorem pchk_key (w : World) (em : Bool) (n : I4) : (Instr.checkKey em 10000 35 (.agg n.vals.toArray)).run Try.prog w = .ok () w := by
  obtain ⟨a, b, c, d⟩ := n
  kernel_rfl
def pfnd (n : I4) : List Pt → Option (Nat × Pt)
  | [] => none
  | r :: L => if eqI n r.ip = true then some (0, r) else (pfnd n L).map (fun p => (p.1 + 1, p.2))
theorem eqI_iff {x y : I4} : eqI x y = true ↔ x = y := by unfold eqI; simp
theorem pfnd_some {n : I4} : ∀ {L : List Pt} {i : Nat} {r : Pt}, pfnd n L = some (i, r) → L[i]? = some r ∧ r.ip = n
  | [], _, _, h => by cases h
  | x :: L, i, r, h => by
    unfold pfnd at h
    split at h
    · rename_i hk
      cases h
      exact ⟨rfl, (eqI_iff.1 hk).symm⟩
    · cases hf : pfnd n L with
      | none => rw [hf] at h; cases h
      | some p =>
        rw [hf] at h
        cases h
        obtain ⟨h1, h2⟩ := pfnd_some (i := p.1) (r := p.2) hf
        exact ⟨by simpa using h1, h2⟩
theorem pfnd_none {n : I4} : ∀ {L : List Pt}, pfnd n L = none → ∀ r ∈ L, r.ip ≠ n
  | [], _, _, h => by cases h
  | x :: L, h, r, hr => by
    unfold pfnd at h
    split at h
    · cases h
    · rename_i hk
      cases hf : pfnd n L with
      | some p => rw [hf] at h; cases h
      | none =>
        rcases List.mem_cons.1 hr with rfl | hr
        · intro e; exact hk (eqI_iff.2 e.symm)
        · exact pfnd_none hf r hr
theorem pask_run (w : World) (n : I4) : ∀ (L : List Pt) (i : Nat), (Instr.findAsking 35 (.agg n.vals.toArray) (L.map pent) i).run Try.prog w = .ok ((pfnd n L).map (fun p => (i + p.1, .int .i64 p.2.mtu))) w
  | [], i => rfl
  | r :: L, i => by
    have h1 : (Op.equal 35 (.agg n.vals.toArray) (pent r).key).run Try.prog w = .ok (eqI n r.ip) w := peq_row w _ n r
    have h2 := pask_run w n L (i + 1)
    unfold pfnd
    simp only [List.map_cons, Instr.findAsking, Sem.run_bind, h1, Result.andThen]
    cases hb : eqI n r.ip with
    | true => rfl
    | false =>
      simp only [Bool.false_eq_true, if_false, h2]
      cases pfnd n L with
      | none => rfl
      | some p => simp; omega
theorem pfind_run (w : World) (n : I4) (L : List Pt) : (Instr.findKey 35 (.agg n.vals.toArray) (L.map pent)).run Try.prog w = .ok ((pfnd n L).map (fun p => (p.1, .int .i64 p.2.mtu))) w := by
  rw [run_findKey_eq w (by rw [Try.underlying35]), pask_run w n L 0]
  simp
theorem pzero (w : World) : (zeroValue 3).run Try.prog w = .ok (.int .i64 0) w := by kernel_rfl
theorem pu_map : Try.prog.underlying 85 = some (.map 35 3) := Try.underlying85
def pgot (n : I4) (L : List Pt) : Int := match pfnd n L with | some p => p.2.mtu | none => 0
theorem plook_run {w : World} {b ck : Nat} {L : List Pt} (h : PmAt w b L ck) (n : I4) : (Instr.lookup 85 (.map (some b)) (.agg n.vals.toArray) true).run Try.prog w = .ok (.tuple #[.int .i64 (pgot n L), .bool (pfnd n L).isSome]) w := by
  have h1 := pfind_run w n L
  have h2 : ∀ em, (Instr.checkKey em 10000 35 (.agg n.vals.toArray)).run Try.prog w = .ok () w := fun em => pchk_key w em _
  unfold pgot
  cases hf : pfnd n L with
  | none =>
    rw [hf] at h1
    simp [Instr.lookup, run_underlying pu_map, MapKept.run_getObj_map h, h2, h1, Result.andThen]
  | some p =>
    rw [hf] at h1
    simp [Instr.lookup, run_underlying pu_map, MapKept.run_getObj_map h, h2, h1, Result.andThen]
theorem pupd_new {w : World} {b ck : Nat} {L : List Pt} (h : PmAt w b L ck) (n : I4) (m : Int) (hf : pfnd n L = none) : (Instr.mapUpdate 85 (.map (some b)) (.agg n.vals.toArray) (.int .i64 m)).run Try.prog w = .ok () (setBlock w b (.map ((L ++ [(⟨n, m, ck⟩ : Pt)]).map pent).toArray (ck + 1))) := by
  have h1 := pfind_run w n L
  have h2 : ∀ em, (Instr.checkKey em 10000 35 (.agg n.vals.toArray)).run Try.prog w = .ok () w := fun em => pchk_key w em _
  rw [hf] at h1
  simp [Instr.mapUpdate, run_underlying pu_map, MapKept.run_getObj_map h, h2, h1, MapKept.run_setObj_map _ h, Result.andThen, setBlock, pent]
theorem pstays_run (w : World) (n : I4) : (Instr.keyThatStays (.agg n.vals.toArray) (.agg n.vals.toArray)).run Try.prog w = .ok (.agg n.vals.toArray) w := by
  have e : Instr.sameBits 10000 (.agg n.vals.toArray) (.agg n.vals.toArray) = true := by
    simp [I4.vals, Instr.sameBits]
  simp [Instr.keyThatStays, e]
theorem pupd_old {w : World} {b ck : Nat} {L : List Pt} (h : PmAt w b L ck) (n : I4) (m : Int) (i : Nat) (r : Pt) (hf : pfnd n L = some (i, r)) : (Instr.mapUpdate 85 (.map (some b)) (.agg n.vals.toArray) (.int .i64 m)).run Try.prog w = .ok () (setBlock w b (.map ((L.set i (⟨n, m, r.bn⟩ : Pt)).map pent).toArray ck)) := by
  have h1 := pfind_run w n L
  have h2 : ∀ em, (Instr.checkKey em 10000 35 (.agg n.vals.toArray)).run Try.prog w = .ok () w := fun em => pchk_key w em _
  have h3 := pstays_run w n
  obtain ⟨q1, q2⟩ := pfnd_some hf
  rw [hf] at h1
  have q4 : (pent r).key = .agg n.vals.toArray := by unfold pent; rw [q2]
  have q5 : ((((L.map pent).toArray[i]?).map (·.key)).getD (.agg n.vals.toArray)) = .agg n.vals.toArray := by
    simp only [List.getElem?_toArray, List.getElem?_map, q1, Option.map_some, Option.getD_some, q4]
  have q6 : (L.map pent).toArray.modify i (fun e => { e with key := .agg n.vals.toArray, val := .int .i64 m }) = ((L.set i (⟨n, m, r.bn⟩ : Pt)).map pent).toArray := by
    apply Array.toList_inj.1
    rw [Array.toList_modify]
    apply List.ext_getElem?
    intro j
    simp only [List.getElem?_modify, List.getElem?_map, List.getElem?_set]
    by_cases hj : i = j
    · subst hj
      have hlt := (List.getElem?_eq_some_iff.1 q1).1
      rw [q1]
      simp [hlt, pent]
    · simp [hj]
  simp only [Instr.mapUpdate, run_underlying pu_map, MapKept.run_getObj_map h, h2, h1, Sem.run_bind, Result.andThen, Option.map_some, q5, h3, q6, MapKept.run_setObj_map _ h]
  rfl
theorem pdel_run {w : World} {b ck : Nat} {L : List Pt} (h : PmAt w b L ck) (n : I4) (i : Nat) (r : Pt) (hf : pfnd n L = some (i, r)) (ty : TypeId) : (Builtin.delete_ #[85, 35] ty #[.map (some b), .agg n.vals.toArray]).run Try.prog w = .ok (.tuple #[]) (setBlock w b (.map ((L.eraseIdx i).map pent).toArray ck)) := by
  have h1 := pfind_run w n L
  have h2 : ∀ em, (Instr.checkKey em 10000 35 (.agg n.vals.toArray)).run Try.prog w = .ok () w := fun em => pchk_key w em _
  rw [hf] at h1
  simp [Builtin.delete_, run_underlying pu_map, MapKept.run_getObj_map h, h2, h1, MapKept.run_setObj_map _ h, Result.andThen, setBlock, Go.ChangeMaps.map_eraseIdx]
theorem plen_run {w : World} {b ck : Nat} {L : List Pt} (h : PmAt w b L ck) (ty : TypeId) : (Builtin.len_ #[85] ty #[.map (some b)]).run Try.prog w = .ok (.int .i64 (L.length : Int)) w := by
  simp [Builtin.len_, run_underlying pu_map, MapKept.run_getObj_map h, Result.andThen, goInt]
/-- the cells of an address in a list -/
def ipc (L : List Pt) (j : Nat) : List Value := (((L[j]?).map (·.ip)).getD zI).vals
/-- Paths at b + 1, its map at b, the row in a block of O -/
structure PsAt (W : World) (b : Nat) (O : Nat → Prop) (L : List Pt) (ck : Nat) : Prop where
  c0 : W.cell? ⟨b + 1, 0, none⟩ = some (.map (some b))
  fz : ∀ y, W.frozen? ⟨b + 1, y, none⟩ = false
  map : PmAt W b L ck
  row : ∃ v, W.cell? ⟨b + 1, 1, none⟩ = some v ∧ RowF 4 O W v L.length (ipc L)
  nb : ¬ O b
  nq : ¬ O (b + 1)
/-- the blocks of Paths -/
def PsK (b : Nat) (O : Nat → Prop) : Nat → Prop := fun g => g = b ∨ g = b + 1 ∨ O g
theorem PsAt.lt {W : World} {b : Nat} {O : Nat → Prop} {L : List Pt} {ck : Nat} (h : PsAt W b O L ck) : b + 1 < W.heap.size := World.block_lt_of_cell? W _ h.c0
theorem PsAt.but {K : Nat → Prop} {W W' : World} {b : Nat} {O : Nat → Prop} {L : List Pt} {ck : Nat} (h : PsAt W b O L ck) (hb : But K W W') (hk : ∀ g, PsK b O g → ¬ K g) : PsAt W' b O L ck := by
  have hl := h.lt
  obtain ⟨v, h1, h2⟩ := h.row
  have k1 := hk (b + 1) (.inr (.inl rfl))
  exact ⟨(hb.cell (p := ⟨b + 1, 0, none⟩) hl k1).trans h.c0, fun y => (hb.frozen (p := ⟨b + 1, y, none⟩) hl k1).trans (h.fz y), h.map.but hb (hk b (.inl rfl)), ⟨v, (hb.cell (p := ⟨b + 1, 1, none⟩) hl k1).trans h1, h2.but hb (fun g e => hk g (.inr (.inr e)))⟩, h.nb, h.nq⟩
theorem PsAt.later {W W' : World} {b : Nat} {O : Nat → Prop} {L : List Pt} {ck : Nat} (h : PsAt W b O L ck) (hb : Below W.heap.size W W') : PsAt W' b O L ck := h.but (K := fun _ => False) (But.of_below hb) (fun _ _ => id)
theorem PsAt.own {W : World} {b : Nat} {O O' : Nat → Prop} {L : List Pt} {ck : Nat} (h : PsAt W b O L ck) (ho : ∀ g, g < W.heap.size → O g → O' g) (h1 : ¬ O' b) (h2 : ¬ O' (b + 1)) : PsAt W b O' L ck := by
  obtain ⟨v, k1, k2⟩ := h.row
  exact ⟨h.c0, h.fz, h.map, ⟨v, k1, k2.own ho⟩, h1, h2⟩
theorem onePm (w : World) : (isAgg 85).run Try.prog w = .ok false w := by kernel_rfl
theorem oneIs (w : World) : (isAgg 86).run Try.prog w = .ok false w := by kernel_rfl
theorem exec_look {o : Oper} {w : World} {ev : Operand → Value} (x k : Operand) (c : Bool) (T : TypeId) (m kv v : Value) (ho : o.op = .lookup T x k c) (hx : ev x = m) (hk : ev k = kv) (hrun : (Instr.lookup T m kv c).run Try.prog w = .ok v w) : (execOp ev o).run Try.prog w = .ok (.value v) w := by
  unfold execOp
  simp only [ho, hx, hk, Sem.run_bind, hrun, Result.andThen_ok]
  rfl
/-- what is told of an address -/
def pfE (n : I4) (L : List Pt) : Int := if (pfnd n L).isSome then pgot n L else 256
theorem icNewP_any (w : World) : Calls Try.prog 24 #[] w fun e w' => e = .returned (.pointer (some ⟨w.heap.size + 1, 0, none⟩)) ∧ PsAt w' w.heap.size (fun _ => False) [] 0 ∧ Below w.heap.size w w' := by
  obtain ⟨w1, hw1⟩ : ∃ w1, w1 = w.alloc (.map #[] 0) := ⟨_, rfl⟩
  obtain ⟨w2, hw2⟩ : ∃ w2, w2 = w1.alloc (.cells #[.map (some w.heap.size), .slice none 0 0] 88) := ⟨_, rfl⟩
  have s1 : w1.heap.size = w.heap.size + 1 := by rw [hw1]; simp
  have b2 : Below w.heap.size w w2 := by rw [hw2, hw1]; exact ((Below.refl _ w).alloc (Nat.le_refl _) _).alloc (by simp) _
  have c2 : CellsAt w2 (w.heap.size + 1) 0 [.map (some w.heap.size), .slice none 0 0] := by rw [hw2, ← s1]; exact CellsAt.new w1 _ _
  have P : Hid (PsAt w2 w.heap.size (fun _ => False) [] 0) := by
    refine ⟨c2 0 _ rfl, fun y => by rw [hw2, ← s1]; exact frozen_new w1 _ _ _, ?_, ⟨_, c2 1 _ rfl, RowF.nil _ _ _ _⟩, id, id⟩
    have h1 : PmAt w1 w.heap.size [] 0 := by rw [hw1]; exact heap_alloc_new w _
    exact h1.later (by rw [hw2]; exact later_alloc _ _)
  have B2 := hide b2
  have hw1' := hw1.symm
  have hw2' := hw2.symm
  clear hw1 hw2 b2 c2
  have hmm := @run_makeMap Try.prog
  go_enter Try.func24, Try.ntmps24
  go_wp2
  go_ret
  exact ⟨by simp, P.out, B2.out⟩
set_option maxRecDepth 100000 in
set_option maxHeartbeats 4000000 in
theorem icFindP_any {w : World} {b ck : Nat} {O : Nat → Prop} {L : List Pt} (h : PsAt w b O L ck) (n : I4) : Calls Try.prog 25 #[.pointer (some ⟨b + 1, 0, none⟩), .agg n.vals.toArray] w fun e w' => e = .returned (.int .i64 (pfE n L)) ∧ Below w.heap.size w w' := by
  obtain ⟨s, hs⟩ : ∃ s, s = w.heap.size := ⟨_, rfl⟩
  obtain ⟨V, hV⟩ : ∃ V, V = n.vals := ⟨_, rfl⟩
  obtain ⟨w1, hw1⟩ : ∃ w1, w1 = w.alloc (.cells V.toArray 35) := ⟨_, rfl⟩
  have b1 : Below w.heap.size w w1 := by rw [hw1]; exact (Below.refl _ w).alloc (Nat.le_refl _) _
  have c1 : CellsAt w1 s 0 n.vals := by rw [hw1, hs, ← hV]; exact CellsAt.new w V 35
  have l1 : s < w1.heap.size := c1.lt (by simp [I4.vals])
  have H1 := hide (h.later b1)
  have B1 := hide b1
  have C1 := hide c1
  obtain ⟨G, hG⟩ : ∃ G, G = pgot n L := ⟨_, rfl⟩
  obtain ⟨q, hq⟩ : ∃ q, q = (pfnd n L).isSome := ⟨_, rfl⟩
  have lk : ∀ W, PmAt W b L ck → (Instr.lookup 85 (.map (some b)) (.agg n.vals.toArray) true).run Try.prog W = .ok (.tuple #[.int .i64 G, .bool q]) W := fun W hW => by rw [hG, hq]; exact plook_run hW n
  have LK := hide lk
  have E : Hid (pfE n L = if q = true then G else 256) := by rw [hG, hq]; exact rfl
  have hw1' := hw1.symm
  have hs' := hs.symm
  have lb := h.lt
  rw [← hV]
  clear hw1 hs hV b1 c1 hG hq lk h
  go_enter Try.func25, Try.ntmps25
  go_upto_region 1 with fail
  clear hw1' hs'
  refine region_quiet_C (fun W => Below w1.heap.size w1 W) (by kernel_rfl) (by kernel_rfl) (later_drew _) ?_
  go_big_quiet_step (fail)
  go_big_quiet_want
  refine quiet_pure (.pointer (some ⟨b + 1, 0, none⟩)) (fun W hW => exec_nil _ _ rfl rfl) ?_
  go_big_quiet_on
  simp only [Act.put, List.setIfInBounds_toArray, List.set_cons_succ, List.set_cons_zero]
  go_big_quiet_want
  refine quiet_pure (.pointer (some ⟨b + 1, 0, none⟩)) (fun W hW => exec_fieldO 88 _ 0 (b + 1) 0 0 rfl rfl (fun w => by kernel_rfl)) ?_
  go_big_quiet_on
  simp only [Act.put, List.setIfInBounds_toArray, List.set_cons_succ, List.set_cons_zero]
  go_big_quiet_want
  refine quiet_pure (.map (some b)) (fun W hW => exec_load1 85 onePm _ rfl (b + 1) 0 rfl (.map (some b)) ((H1.out.later hW).c0)) ?_
  go_big_quiet_on
  simp only [Act.put, List.setIfInBounds_toArray, List.set_cons_succ, List.set_cons_zero]
  go_big_quiet_want
  refine quiet_pure (.agg (n.vals).toArray) (fun W hW => exec_loadA 35 4 aggI sizI _ rfl s 0 rfl (n.vals) rfl (C1.out.later l1 hW)) ?_
  go_big_quiet_on
  simp only [Act.put, List.setIfInBounds_toArray, List.set_cons_succ, List.set_cons_zero]
  go_big_quiet_want
  refine quiet_pure (.tuple #[.int .i64 G, .bool q]) (fun W hW => exec_look _ _ _ _ _ _ _ rfl rfl rfl (LK.out W (H1.out.later hW).map)) ?_
  go_big_quiet_on
  simp only [Act.put, List.setIfInBounds_toArray, List.set_cons_succ, List.set_cons_zero]
  go_big_quiet_step (fail)
  go_big_quiet_want
  refine quiet_pure (.int .i64 G) (fun W hW => exec_ext _ _ [.int .i64 G, .bool q] _ rfl rfl rfl) ?_
  go_big_quiet_on
  simp only [Act.put, List.setIfInBounds_toArray, List.set_cons_succ, List.set_cons_zero]
  go_big_quiet_want
  refine quiet_pure (.bool q) (fun W hW => exec_ext _ _ [.int .i64 G, .bool q] _ rfl rfl rfl) ?_
  go_big_quiet_on
  simp only [Act.put, List.setIfInBounds_toArray, List.set_cons_succ, List.set_cons_zero]
  go_big_quiet_step (fail)
  go_big_quiet_step (fail)
  refine wpQuiet_nil ?_
  intro wq bq
  have B2 := hide (later B1.out bq)
  clear bq
  cases q with
  | true =>
    go_wp2
    go_ret
    exact ⟨by rw [E.out]; rfl, B2.out⟩
  | false =>
    go_wp2
    go_ret
    exact ⟨by rw [E.out]; rfl, B2.out⟩
set_option maxRecDepth 100000 in
theorem icLenP_any {w : World} {b ck : Nat} {O : Nat → Prop} {L : List Pt} (h : PsAt w b O L ck) : Calls Try.prog 29 #[.pointer (some ⟨b + 1, 0, none⟩)] w fun e w' => e = .returned (.int .i64 (L.length : Int)) ∧ w' = w := by
  have c0 := h.c0
  have pl : ∀ ty, (Builtin.len_ #[85] ty #[.map (some b)]).run Try.prog w = .ok (.int .i64 (L.length : Int)) w := fun ty => plen_run h.map ty
  obtain ⟨n, hn⟩ : ∃ n, n = L.length := ⟨_, rfl⟩
  rw [← hn] at pl ⊢
  clear h hn
  go_enter Try.func29, Try.ntmps29
  go_wp2
  go_ret
  exact ⟨rfl, rfl⟩
end Go.Proofs.Yteiendigcaedhaa
