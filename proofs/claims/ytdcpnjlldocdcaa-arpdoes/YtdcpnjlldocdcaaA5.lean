
/-
  Package arp: the contracts of request, answerTo, New.
-/
import Derived.Test.YtdcpnjlldocdcaaA4
import Derived.Deep.RegionHeld3
namespace Go.Proofs.Ytdcpnjlldocdcaa
open Go.RowKit

def zM : M6 := ⟨0, 0, 0, 0, 0, 0⟩
def zI : I4 := ⟨0, 0, 0, 0⟩

section
variable {o : Oper} {w : World} {ev : Operand → Value}
theorem exec_loadA (T : TypeId) (n : Nat) (hag : ∀ W, (isAgg T).run Try.prog W = .ok true W) (hsz : ∀ W, (Go.sizeOf T).run Try.prog W = .ok n W) (x : Operand) (ho : o.op = .load T x)
    (s k : Nat) (hx : ev x = .pointer (some ⟨s, k, none⟩)) (vs : List Value) (hl : vs.length = n) (hg : CellsAt w s k vs) : (execOp ev o).run Try.prog w = .ok (.value (.agg vs.toArray)) w := by
  unfold execOp
  have hg' := hg.loads
  rw [hl] at hg'
  simp only [ho, hx, Instr.loadAt, Instr.sureAddr, loadVar, Sem.run_bind, Sem.run_pure, Result.andThen_ok, hag, hsz, if_true, hg']
theorem exec_storeA (T : TypeId) (n : Nat) (hsz : ∀ W, (Go.sizeOf T).run Try.prog W = .ok n W) (x y : Operand) (ho : o.op = .store T x y)
    (s k : Nat) (hx : ev x = .pointer (some ⟨s, k, none⟩)) (vs ws : List Value) (hy : ev y = .agg vs.toArray) (hl : vs.length = n) (hl2 : ws.length = n) (hg : CellsAt w s k ws) (hf : ∀ j, w.frozen? ⟨s, j, none⟩ = false) (h1 : ∀ u ∈ vs, u.oneCell' = true) :
    (execOp ev o).run Try.prog w = .ok .skip (w.setCells s k vs) := by
  unfold execOp
  have hst := run_storeCells_cells (P := Try.prog) s k vs 0 w (fun j hj => by rw [Nat.add_zero, hg j _ (List.getElem?_eq_getElem (by omega))]; rfl) (fun j hj => hf _) h1
  simp only [Nat.add_zero] at hst
  have hl' : vs.toArray.size = n := by simpa using hl
  simp only [ho, hx, hy, Instr.storeAt, Instr.sureAddr, storeVar, Sem.run_bind, Sem.run_pure, Result.andThen_ok, hsz, Value.cells, hl', ne_eq, not_true, if_false, hst]
theorem run_loadVarA (T : TypeId) (n : Nat) (hag : ∀ W, (isAgg T).run Try.prog W = .ok true W) (hsz : ∀ W, (Go.sizeOf T).run Try.prog W = .ok n W) (s k : Nat) (vs : List Value) (hl : vs.length = n) (hg : CellsAt w s k vs) : (loadVar T ⟨s, k, none⟩).run Try.prog w = .ok (.agg vs.toArray) w := by
  have hg' := hg.loads
  rw [hl] at hg'
  simp only [loadVar, Sem.run_bind, Sem.run_pure, Result.andThen_ok, hag, hsz, if_true, hg']
theorem exec_move (x : Operand) (v : Value) (ho : o.op = .move x) (hx : ev x = v) : (execOp ev o).run Try.prog w = .ok (.value v) w := by
  unfold execOp
  simp only [ho, hx, Sem.run_pure]
theorem exec_nil (x : Operand) (ad : Addr) (ho : o.op = .nilCheck x) (hx : ev x = .pointer (some ad)) : (execOp ev o).run Try.prog w = .ok (.value (.pointer (some ad))) w := by
  unfold execOp
  simp [ho, hx, go_sem]
theorem exec_build3 (x y z : Operand) (m0 m1 m2 m3 m4 m5 i0 i1 i2 i3 p0 p1 p2 p3 : Int) (ho : o.op = .build 27 #[(1, x), (2, y), (4, z)]) (hx : ev x = .agg #[.int .u8 m0, .int .u8 m1, .int .u8 m2, .int .u8 m3, .int .u8 m4, .int .u8 m5]) (hy : ev y = .agg #[.int .u8 i0, .int .u8 i1, .int .u8 i2, .int .u8 i3]) (hz : ev z = .agg #[.int .u8 p0, .int .u8 p1, .int .u8 p2, .int .u8 p3]) :
    (execOp ev o).run Try.prog w = .ok (.value (Ar.val ⟨false, ⟨m0, m1, m2, m3, m4, m5⟩, ⟨i0, i1, i2, i3⟩, zM, ⟨p0, p1, p2, p3⟩⟩)) w := by
  unfold execOp
  rw [ho]
  simp only [List.map_toArray, List.map_cons, List.map_nil, hx, hy, hz]
  kernel_rfl
theorem exec_field (T : TypeId) (x : Operand) (k j : Nat) (b : Nat) (ho : o.op = .fieldAddr T x k) (hx : ev x = .pointer (some ⟨b, 0, none⟩)) (hk : ∀ w, (Instr.fieldAt T (.pointer (some ⟨b, 0, none⟩)) k).run Try.prog w = .ok (.pointer (some ⟨b, j, none⟩)) w) : (execOp ev o).run Try.prog w = .ok (.value (.pointer (some ⟨b, j, none⟩))) w := by
  unfold execOp
  simp only [ho, hx, Sem.run_bind, Sem.run_pure, Result.andThen_ok, hk]
theorem fa0 (b : Nat) (w : World) : (Instr.fieldAt 75 (.pointer (some ⟨b, 0, none⟩)) 0).run Try.prog w = .ok (.pointer (some ⟨b, 0, none⟩)) w := by kernel_rfl
theorem fa1 (b : Nat) (w : World) : (Instr.fieldAt 75 (.pointer (some ⟨b, 0, none⟩)) 1).run Try.prog w = .ok (.pointer (some ⟨b, 6, none⟩)) w := by kernel_rfl
end

/-- a function's one result, a struct that lies in a cell's block -/
theorem results_A {fn : Func} {p : Tmp} {T : TypeId} (h : fn.results = #[.cell p T]) (tmps : Array Value) (w : World) (s : Nat) (v : Value) (hp : tmps.getD p undef = .pointer (some ⟨s, 0, none⟩)) (hL : (loadVar T ⟨s, 0, none⟩).run Try.prog w = .ok v w) : (results fn tmps).run Try.prog w = .ok v w := by
  have ha : (asAddr (tmps.getD p undef)).run Try.prog w = .ok ⟨s, 0, none⟩ w := by rw [hp]; rfl
  simp only [results, h]
  have ha' : (asAddr (tmps[p]?.getD undef)).run Try.prog w = .ok ⟨s, 0, none⟩ w := by simpa using ha
  simp [Sem.run_bind, Result.andThen, ha', hL]

/-- an operation of a drawn region is taken first -/
theorem takeD {ops : Array Oper} {Q : Exit → Act → World → Prop} {md : Region.Mode} {S : World → Prop} {i : Nat} {oi : Oper} {v : Value} (d : Tmp) {fuel : Nat} {listed : Array Bool} {a : Act} {w : World} (hi : ops[i]? = some oi) (hd : oi.dst = some d)
    (hs : Region.noSelect ops = true) (hf : Region.free md ops listed i = true) (hr : (Region.ready md ops listed).contains i = true)
    (hQ : ∀ c a w, Q (.panic c) (a.put (some d) v) w → Q (.panic c) a w) (hy : YieldsIf Try.prog ops S oi v a) (hS : S w)
    (h : wpAnyH Try.prog md ops Q S fuel (listed.setIfInBounds i true) (a.put (some d) v) w) : wpAnyH Try.prog md ops Q S (fuel + 1) listed a w :=
  wpAnyH_take hi hs hf hr (by rw [hd]; exact hQ) hy hS (by rw [hd]; exact h)
/-- a store comes last -/
theorem lastD {ops : Array Oper} {Q : Exit → Act → World → Prop} {md : Region.Mode} {S : World → Prop} (i : Nat) {oi : Oper} {fuel : Nat} {listed : Array Bool} {a : Act} {w w' : World} (hr : Region.ready md ops listed = [i]) (hi : ops[i]? = some oi) (hd : oi.dst = none) (hw : Region.wanted oi (yielded ops a.tmps) = true)
    (hrun : (execOp a.eval oi).run Try.prog w = .ok .skip w') (hS : S w') (hr2 : Region.ready md ops (listed.setIfInBounds i true) = []) (h : Q .normal a w') : wpAnyH Try.prog md ops Q S (fuel + 1) listed a w := by
  refine wpAnyH_all hr (by simp) (fun k hk => ?_)
  obtain rfl : k = i := by simpa using hk
  unfold Go.wpOp
  simp only [hi, hw, if_true, Oper.wp, hrun, Oper.upon, hd, Act.put]
  exact .inl ⟨hS, wpAnyH_done hr2 h _⟩

set_option maxHeartbeats 400000 in
theorem request_any {w : World} (b : Nat) (m : M6) (i ip : I4) (h : CellsAt w b 0 (m.vals ++ i.vals)) :
    Calls Try.prog 33 #[.pointer (some ⟨b, 0, none⟩), ip.val] w fun e w' => e = .returned (Ar.val ⟨false, m, i, zM, ip⟩) ∧ Below w.heap.size w w' := by
  obtain ⟨p0, p1, p2, p3⟩ := ip
  have hlt := h.lt (by simp [M6.vals])
  simp only [I4.val]
  go_enter Try.func33, Try.ntmps33
  go_wp2_with fail
  obtain ⟨z, hz⟩ : ∃ z : Ar, z = ⟨false, zM, zI, zM, zI⟩ := ⟨_, rfl⟩
  obtain ⟨s, hs⟩ : ∃ s, s = w.heap.size := ⟨_, rfl⟩
  obtain ⟨w1, hw1⟩ : ∃ w1, w1 = (w.alloc (.cells #[.int .u8 p0, .int .u8 p1, .int .u8 p2, .int .u8 p3] 25)).alloc (.cells z.vals.toArray 27) := ⟨_, rfl⟩
  have hb : Below w.heap.size w w1 := by rw [hw1]; exact ((Below.refl _ w).alloc (Nat.le_refl _) _).alloc (by simp) _
  have cb : CellsAt w1 b 0 (m.vals ++ i.vals) := h.later hlt hb
  have ci : CellsAt w1 s 0 (I4.vals ⟨p0, p1, p2, p3⟩) := by
    rw [hw1, hs]
    exact (CellsAt.new w [.int .u8 p0, .int .u8 p1, .int .u8 p2, .int .u8 p3] 25).but (by simp) ((But.refl (fun _ => False) _).alloc _) id
  have cz : CellsAt w1 (s + 1) 0 z.vals := by
    have := CellsAt.new (w.alloc (.cells #[.int .u8 p0, .int .u8 p1, .int .u8 p2, .int .u8 p3] 25)) z.vals 27
    rw [← hw1, World.size_alloc, ← hs] at this
    exact this
  have fz : ∀ j, w1.frozen? ⟨s + 1, j, none⟩ = false := fun j => by
    have := frozen_new (w.alloc (.cells #[.int .u8 p0, .int .u8 p1, .int .u8 p2, .int .u8 p3] 25)) z.vals.toArray 27 j
    rw [← hw1, World.size_alloc, ← hs] at this
    exact this
  rw [hz] at hw1
  simp only [Ar.vals, zM, zI, M6.vals, I4.vals, List.cons_append, List.nil_append] at hw1
  rw [← hw1, ← hs]
  have h0 : CellsAt w1.drew b 0 (m.vals ++ i.vals) ∧ CellsAt w1.drew s 0 (I4.vals ⟨p0, p1, p2, p3⟩) := ⟨cb, ci⟩
  have h1 : CellsAt w1.drew (s + 1) 0 z.vals ∧ ∀ j, w1.drew.frozen? ⟨s + 1, j, none⟩ = false := ⟨cz, fz⟩
  clear cb ci cz fz hw1
  refine wp_region_held (S := fun W => CellsAt W b 0 (m.vals ++ i.vals) ∧ CellsAt W s 0 (I4.vals ⟨p0, p1, p2, p3⟩)) (by kernel_rfl) ?_
  refine takeD (i := 0) (v := (.pointer (some ⟨b, 0, none⟩))) 5 rfl rfl (by kernel_rfl) (by kernel_rfl) (by kernel_rfl) (fun _ _ _ h => h) (.inl ⟨by rfl, (fun W _ => exec_move _ _ rfl rfl)⟩) h0 ?_
  try simp only [Act.put, List.setIfInBounds_toArray, List.set_cons_zero, List.set_cons_succ]
  refine takeD (i := 1) (v := (.pointer (some ⟨b, 0, none⟩))) 6 rfl rfl (by kernel_rfl) (by kernel_rfl) (by kernel_rfl) (fun _ _ _ h => h) (.inl ⟨by rfl, (fun W _ => exec_nil _ _ rfl rfl)⟩) h0 ?_
  try simp only [Act.put, List.setIfInBounds_toArray, List.set_cons_zero, List.set_cons_succ]
  refine takeD (i := 2) (v := (.pointer (some ⟨b, 0, none⟩))) 7 rfl rfl (by kernel_rfl) (by kernel_rfl) (by kernel_rfl) (fun _ _ _ h => h) (.inl ⟨by rfl, (fun W _ => exec_field _ _ _ _ _ rfl rfl (fa0 b))⟩) h0 ?_
  try simp only [Act.put, List.setIfInBounds_toArray, List.set_cons_zero, List.set_cons_succ]
  refine takeD (i := 3) (v := (.agg m.vals.toArray)) 8 rfl rfl (by kernel_rfl) (by kernel_rfl) (by kernel_rfl) (fun _ _ _ h => h) (.inl ⟨by rfl, (fun W hW => exec_loadA 23 6 aggM sizM _ rfl b 0 rfl _ rfl (CellsAt.append.1 hW.1).1)⟩) h0 ?_
  try simp only [Act.put, List.setIfInBounds_toArray, List.set_cons_zero, List.set_cons_succ]
  refine takeD (i := 4) (v := (.pointer (some ⟨b, 0, none⟩))) 9 rfl rfl (by kernel_rfl) (by kernel_rfl) (by kernel_rfl) (fun _ _ _ h => h) (.inl ⟨by rfl, (fun W _ => exec_move _ _ rfl rfl)⟩) h0 ?_
  try simp only [Act.put, List.setIfInBounds_toArray, List.set_cons_zero, List.set_cons_succ]
  refine takeD (i := 5) (v := (.pointer (some ⟨b, 0, none⟩))) 10 rfl rfl (by kernel_rfl) (by kernel_rfl) (by kernel_rfl) (fun _ _ _ h => h) (.inl ⟨by rfl, (fun W _ => exec_nil _ _ rfl rfl)⟩) h0 ?_
  try simp only [Act.put, List.setIfInBounds_toArray, List.set_cons_zero, List.set_cons_succ]
  refine takeD (i := 6) (v := (.pointer (some ⟨b, 6, none⟩))) 11 rfl rfl (by kernel_rfl) (by kernel_rfl) (by kernel_rfl) (fun _ _ _ h => h) (.inl ⟨by rfl, (fun W _ => exec_field _ _ _ _ _ rfl rfl (fa1 b))⟩) h0 ?_
  try simp only [Act.put, List.setIfInBounds_toArray, List.set_cons_zero, List.set_cons_succ]
  refine takeD (i := 7) (v := (.agg i.vals.toArray)) 12 rfl rfl (by kernel_rfl) (by kernel_rfl) (by kernel_rfl) (fun _ _ _ h => h) (.inl ⟨by rfl, (fun W hW => exec_loadA 25 4 aggI sizI _ rfl b 6 rfl _ rfl (CellsAt.append.1 hW.1).2)⟩) h0 ?_
  try simp only [Act.put, List.setIfInBounds_toArray, List.set_cons_zero, List.set_cons_succ]
  refine takeD (i := 8) (v := (.agg (I4.vals ⟨p0, p1, p2, p3⟩).toArray)) 13 rfl rfl (by kernel_rfl) (by kernel_rfl) (by kernel_rfl) (fun _ _ _ h => h) (.inl ⟨by rfl, (fun W hW => exec_loadA 25 4 aggI sizI _ rfl s 0 rfl _ rfl hW.2)⟩) h0 ?_
  try simp only [Act.put, List.setIfInBounds_toArray, List.set_cons_zero, List.set_cons_succ]
  refine takeD (i := 9) (v := (Ar.val ⟨false, m, i, zM, ⟨p0, p1, p2, p3⟩⟩)) 14 rfl rfl (by kernel_rfl) (by kernel_rfl) (by kernel_rfl) (fun _ _ _ h => h) (.inl ⟨by rfl, (fun W hW => exec_build3 _ _ _ _ _ _ _ _ _ _ _ _ _ _ _ _ _ rfl rfl rfl rfl)⟩) h0 ?_
  try simp only [Act.put, List.setIfInBounds_toArray, List.set_cons_zero, List.set_cons_succ]
  have cE := h1.1.stored (vs := Ar.vals ⟨false, m, i, zM, ⟨p0, p1, p2, p3⟩⟩) rfl
  have bE : Below w.heap.size w (w1.drew.setCells (s + 1) 0 (Ar.vals ⟨false, m, i, zM, ⟨p0, p1, p2, p3⟩⟩)) := (hb.drew).trans ((But.cells (s + 1) _ 0 w1.drew).below (by have : w1.drew.heap.size = w1.heap.size := rfl; rw [this]; exact hb.size) (fun g hg e => by have e : g = s + 1 := e; omega))
  refine lastD 10 (w' := w1.drew.setCells (s + 1) 0 (Ar.vals ⟨false, m, i, zM, ⟨p0, p1, p2, p3⟩⟩)) (by kernel_rfl) rfl rfl rfl (exec_storeA 27 21 sizA _ _ rfl (s + 1) 0 rfl _ z.vals rfl rfl rfl h1.1 h1.2 ?_) ?_ (by kernel_rfl) ?_
  · intro u hu
    simp only [Ar.vals, M6.vals, I4.vals, zM, List.cons_append, List.nil_append, List.mem_cons, List.not_mem_nil, or_false] at hu
    rcases hu with rfl | rfl | rfl | rfl | rfl | rfl | rfl | rfl | rfl | rfl | rfl | rfl | rfl | rfl | rfl | rfl | rfl | rfl | rfl | rfl | rfl <;> rfl
  · have bO := But.cells (s + 1) (Ar.vals ⟨false, m, i, zM, ⟨p0, p1, p2, p3⟩⟩) 0 w1.drew
    exact ⟨h0.1.but (h0.1.lt (by simp [M6.vals])) bO (fun e => by have e : b = s + 1 := e; omega), h0.2.but (h0.2.lt (by simp [I4.vals])) bO (fun e => by have e : s = s + 1 := e; omega)⟩
  · go_wp2
    refine bodyPost_ret (v := Ar.val ⟨false, m, i, zM, ⟨p0, p1, p2, p3⟩⟩) ?_ rfl ⟨rfl, bE⟩
    have hL := run_loadVarA 27 21 aggA sizA (s + 1) 0 _ rfl cE
    exact results_A rfl _ _ (s + 1) _ rfl hL
end Go.Proofs.Ytdcpnjlldocdcaa
