
/-
  Package icmp: what is known of addresses: the map, and Find.
-/
import Derived.Test.YtgempelfamjabaaT6
import Derived.Maps.RangeRun
import Derived.WideKeyRuns
import Derived.DeepKeys3
namespace Go.Proofs.Ytgempelfamjabaa
open Go.RowKit Go.Shelf
open Go.ChangeMaps (setBlock)

/-- an address, what is known of it, its entry's stamp -/
structure Pt where
  ip : I4
  mtu : Int
  bn : Nat
def pent (r : Pt) : MapEntry := ⟨.agg r.ip.vals.toArray, .int .i64 r.mtu, r.bn⟩
/-- the map in block b -/
def PmAt (W : World) (b : Nat) (L : List Pt) (ck : Nat) : Prop := W.heap[b]? = some (.map (L.map pent).toArray ck)
theorem PmAt.lt {W : World} {b : Nat} {L : List Pt} {ck : Nat} (h : PmAt W b L ck) : b < W.heap.size := (Array.getElem?_eq_some_iff.1 h).1
theorem PmAt.but {K : Nat → Prop} {W W' : World} {b : Nat} {L : List Pt} {ck : Nat} (h : PmAt W b L ck) (hb : But K W W') (hk : ¬ K b) : PmAt W' b L ck := (hb.block b h.lt hk).trans h
theorem PmAt.later {W W' : World} {b : Nat} {L : List Pt} {ck : Nat} (h : PmAt W b L ck) (hb : Below W.heap.size W W') : PmAt W' b L ck := h.but (K := fun _ => False) (But.of_below hb) id
theorem But.block_ {K : Nat → Prop} {w : World} {b : Nat} (hb : K b) (o : Obj) : But K w (setBlock w b o) :=
  ⟨rfl, rfl, rfl, by simp [setBlock], fun i _ hi => by
    simp only [setBlock]
    rw [Array.getElem?_setIfInBounds_ne]
    rintro rfl; exact hi hb⟩
theorem PmAt.set {W : World} {b : Nat} {L : List Pt} {ck : Nat} (h : PmAt W b L ck) (M : List Pt) (k : Nat) : PmAt (setBlock W b (.map (M.map pent).toArray k)) b M k := by
  unfold PmAt setBlock
  rw [Array.getElem?_setIfInBounds_self]
  simp [h.lt]
theorem peq_row (w : World) (D : Nat) (n : I4) (r : Pt) : (Op.equalIn (D + 2) 23 (.agg n.vals.toArray) (pent r).key).run Try.prog w = .ok (eqI n r.ip) w := by
  obtain ⟨⟨a', b', c', d'⟩, p, s⟩ := r
  obtain ⟨a, b, c, d⟩ := n
  exact eq_ip w D a b c d a' b' c' d'
theorem pchk_key (w : World) (em : Bool) (n : I4) : (Instr.checkKey em 10000 23 (.agg n.vals.toArray)).run Try.prog w = .ok () w := by
  obtain ⟨a, b, c, d⟩ := n
  kernel_rfl
def pfnd (n : I4) : List Pt → Option (Nat × Pt)
  | [] => none
  | r :: L => if eqI n r.ip = true then some (0, r) else (pfnd n L).map (fun p => (p.1 + 1, p.2))
theorem eqI_iff {x y : I4} : eqI x y = true ↔ x = y := by unfold eqI; simp
theorem pfnd_some {n : I4} : ∀ {L : List Pt} {i : Nat} {r : Pt}, pfnd n L = some (i, r) → L[i]? = some r ∧ r.ip = n
  | [], _, _, h => by cases h
  | x :: L, i, r, h => by
    unfold pfnd at h
    split at h
    · rename_i hk
      cases h
      exact ⟨rfl, (eqI_iff.1 hk).symm⟩
    · cases hf : pfnd n L with
      | none => rw [hf] at h; cases h
      | some p =>
        rw [hf] at h
        cases h
        obtain ⟨h1, h2⟩ := pfnd_some (i := p.1) (r := p.2) hf
        exact ⟨by simpa using h1, h2⟩
theorem pfnd_none {n : I4} : ∀ {L : List Pt}, pfnd n L = none → ∀ r ∈ L, r.ip ≠ n
  | [], _, _, h => by cases h
  | x :: L, h, r, hr => by
    unfold pfnd at h
    split at h
    · cases h
    · rename_i hk
      cases hf : pfnd n L with
      | some p => rw [hf] at h; cases h
      | none =>
        rcases List.mem_cons.1 hr with rfl | hr
        · intro e; exact hk (eqI_iff.2 e.symm)
        · exact pfnd_none hf r hr
theorem pask_run (w : World) (n : I4) : ∀ (L : List Pt) (i : Nat), (Instr.findAsking 23 (.agg n.vals.toArray) (L.map pent) i).run Try.prog w = .ok ((pfnd n L).map (fun p => (i + p.1, .int .i64 p.2.mtu))) w
  | [], i => rfl
  | r :: L, i => by
    have h1 : (Op.equal 23 (.agg n.vals.toArray) (pent r).key).run Try.prog w = .ok (eqI n r.ip) w := peq_row w _ n r
    have h2 := pask_run w n L (i + 1)
    unfold pfnd
    simp only [List.map_cons, Instr.findAsking, Sem.run_bind, h1, Result.andThen]
    cases hb : eqI n r.ip with
    | true => rfl
    | false =>
      simp only [Bool.false_eq_true, if_false, h2]
      cases pfnd n L with
      | none => rfl
      | some p => simp; omega
theorem pfind_run (w : World) (n : I4) (L : List Pt) : (Instr.findKey 23 (.agg n.vals.toArray) (L.map pent)).run Try.prog w = .ok ((pfnd n L).map (fun p => (p.1, .int .i64 p.2.mtu))) w := by
  rw [run_findKey_eq w (by rw [Try.underlying23]), pask_run w n L 0]
  simp
theorem pzero (w : World) : (zeroValue 3).run Try.prog w = .ok (.int .i64 0) w := by kernel_rfl
def pgot (n : I4) (L : List Pt) : Int := match pfnd n L with | some p => p.2.mtu | none => 0
theorem pstays_run (w : World) (n : I4) : (Instr.keyThatStays (.agg n.vals.toArray) (.agg n.vals.toArray)).run Try.prog w = .ok (.agg n.vals.toArray) w := by
  have e : Instr.sameBits 10000 (.agg n.vals.toArray) (.agg n.vals.toArray) = true := by
    simp [I4.vals, Instr.sameBits]
  simp [Instr.keyThatStays, e]
/-- the cells of an address in a list -/
def ipc (L : List Pt) (j : Nat) : List Value := (((L[j]?).map (·.ip)).getD zI).vals
/-- Paths at b + 1, its map at b, the row in a block of O -/
structure PsAt (W : World) (b : Nat) (O : Nat → Prop) (L : List Pt) (ck : Nat) : Prop where
  c0 : W.cell? ⟨b + 1, 0, none⟩ = some (.map (some b))
  fz : ∀ y, W.frozen? ⟨b + 1, y, none⟩ = false
  map : PmAt W b L ck
  row : ∃ v, W.cell? ⟨b + 1, 1, none⟩ = some v ∧ RowF 4 O W v L.length (ipc L)
  nb : ¬ O b
  nq : ¬ O (b + 1)
/-- the blocks of Paths -/
def PsK (b : Nat) (O : Nat → Prop) : Nat → Prop := fun g => g = b ∨ g = b + 1 ∨ O g
theorem PsAt.lt {W : World} {b : Nat} {O : Nat → Prop} {L : List Pt} {ck : Nat} (h : PsAt W b O L ck) : b + 1 < W.heap.size := World.block_lt_of_cell? W _ h.c0
theorem PsAt.but {K : Nat → Prop} {W W' : World} {b : Nat} {O : Nat → Prop} {L : List Pt} {ck : Nat} (h : PsAt W b O L ck) (hb : But K W W') (hk : ∀ g, PsK b O g → ¬ K g) : PsAt W' b O L ck := by
  have hl := h.lt
  obtain ⟨v, h1, h2⟩ := h.row
  have k1 := hk (b + 1) (.inr (.inl rfl))
  exact ⟨(hb.cell (p := ⟨b + 1, 0, none⟩) hl k1).trans h.c0, fun y => (hb.frozen (p := ⟨b + 1, y, none⟩) hl k1).trans (h.fz y), h.map.but hb (hk b (.inl rfl)), ⟨v, (hb.cell (p := ⟨b + 1, 1, none⟩) hl k1).trans h1, h2.but hb (fun g e => hk g (.inr (.inr e)))⟩, h.nb, h.nq⟩
theorem PsAt.later {W W' : World} {b : Nat} {O : Nat → Prop} {L : List Pt} {ck : Nat} (h : PsAt W b O L ck) (hb : Below W.heap.size W W') : PsAt W' b O L ck := h.but (K := fun _ => False) (But.of_below hb) (fun _ _ => id)
theorem PsAt.own {W : World} {b : Nat} {O O' : Nat → Prop} {L : List Pt} {ck : Nat} (h : PsAt W b O L ck) (ho : ∀ g, g < W.heap.size → O g → O' g) (h1 : ¬ O' b) (h2 : ¬ O' (b + 1)) : PsAt W b O' L ck := by
  obtain ⟨v, k1, k2⟩ := h.row
  exact ⟨h.c0, h.fz, h.map, ⟨v, k1, k2.own ho⟩, h1, h2⟩
theorem exec_look {o : Oper} {w : World} {ev : Operand → Value} (x k : Operand) (c : Bool) (T : TypeId) (m kv v : Value) (ho : o.op = .lookup T x k c) (hx : ev x = m) (hk : ev k = kv) (hrun : (Instr.lookup T m kv c).run Try.prog w = .ok v w) : (execOp ev o).run Try.prog w = .ok (.value v) w := by
  unfold execOp
  simp only [ho, hx, hk, Sem.run_bind, hrun, Result.andThen_ok]
  rfl
/-- what is told of an address -/
def pfE (n : I4) (L : List Pt) : Int := if (pfnd n L).isSome then pgot n L else 256
end Go.Proofs.Ytgempelfamjabaa
