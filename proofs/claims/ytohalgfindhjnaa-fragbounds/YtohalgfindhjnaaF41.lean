
/-
  FragBounds: which buffers were told; their list of signs.
-/
import Derived.Test.YtohalgfindhjnaaF40
namespace Go.Proofs.Ytohalgfindhjnaa
open Go.RowKit Go.Shelf

theorem info_bo : (Try.prog.info? 4).map (fun i => (i.zero, i.size, i.bytes)) = some (some (.bool false), 1, 1) := by kernel_rfl
/-- 'make([]bool, n)' -/
theorem mkT (w : World) (n : Nat) (hn : n ≤ 2000000000000) : ∃ w', (Instr.makeSlice 56 (.int .i64 (n : Int)) (.int .i64 (n : Int))).run Try.prog w = .ok (.slice (some ⟨w.heap.size, 0, none⟩) n n) w' ∧ CellsAt w' w.heap.size 0 (List.replicate n (.bool false)) ∧ (∀ y, w'.frozen? ⟨w.heap.size, y, none⟩ = false) ∧ Below w.heap.size w w' ∧ w.heap.size < w'.heap.size := by
  obtain ⟨i0, hi, hz0, hz1, hz2⟩ := info_parts info_bo
  obtain ⟨w', hr, ho, hg⟩ := run_make_full (P := Try.prog) w w.heap.size 56 4 i0 (.bool false) 1 Try.underlying56 hi hz0 hz1 .i64 .i64 n (by rw [hz2]; omega) (by unfold maxLen; omega) (Nat.le_refl _)
  have b : Below w.heap.size w w' := (Below.refl _ w).grown hg (Nat.le_refl _) (fun r e => by cases e)
  have e : (madeCells (Value.bool false).cells (n * 1)).toList = List.replicate n (.bool false) := by
    rw [Nat.mul_one, show (Value.bool false).cells = #[.bool false] from rfl, toList_madeCells_one]
  rw [e] at ho
  have lt : w.heap.size < w'.heap.size := by
    obtain ⟨_, ⟨e, _⟩ | ⟨g, cap, cur, e, hg, hh, _⟩⟩ := ho
    · cases e
    · simp only [Value.slice.injEq, Option.some.injEq, Addr.mk.injEq] at e
      rw [e.1.1]
      exact (Array.getElem?_eq_some_iff.1 hh).1
  refine ⟨w', hr, fun j v hv => ?_, fun j => World.ownsRow.frozenAt ho j, b, lt⟩
  have hj : j < n := by have := (List.getElem?_eq_some_iff.1 hv).1; simpa using this
  rw [Nat.zero_add, World.ownsRow.cellAt ho j (by omega)]
  exact hv
theorem exec_mkT {o : Oper} {w w' : World} {ev : Operand → Value} (x y : Operand) (n : Nat) (v : Value) (ho : o.op = .makeSlice 56 x y) (hx : ev x = .int .i64 (n : Int)) (hy : ev y = .int .i64 (n : Int)) (h : (Instr.makeSlice 56 (.int .i64 (n : Int)) (.int .i64 (n : Int))).run Try.prog w = .ok v w') : (execOp ev o).run Try.prog w = .ok (.value v) w' := by
  unfold execOp
  simp [ho, hx, hy, h]
/-- those below i that were not told -/
def unt (i : Nat) (T : List Bool) : List Int := ((List.range i).filter (fun k => !(T[k]?.getD true))).map (fun k : Nat => (k : Int))
theorem unt_succ (i : Nat) (T : List Bool) : unt (i + 1) T = unt i T ++ (if T[i]?.getD true = true then [] else [(i : Int)]) := by
  unfold unt
  rw [List.range_succ, List.filter_append, List.map_append]
  congr 1
  by_cases h : T[i]?.getD true = true
  · rw [if_pos h]; simp [h]
  · rw [if_neg h]; simp [h]
theorem unt_mem {i : Nat} {T : List Bool} {b : Int} (h : b ∈ unt i T) : ∃ j : Nat, b = (j : Int) ∧ j < i ∧ T[j]? = some false := by
  unfold unt at h
  obtain ⟨j, hj, rfl⟩ := List.mem_map.1 h
  obtain ⟨h1, h2⟩ := List.mem_filter.1 hj
  refine ⟨j, rfl, List.mem_range.1 h1, ?_⟩
  cases hT : T[j]? with
  | none => rw [hT] at h2; simp at h2
  | some q => rw [hT] at h2; simp at h2; rw [h2]
theorem unt_ge {i j : Nat} {T : List Bool} (h : i ≤ j) (v : Bool) : unt i (T.set j v) = unt i T := by
  unfold unt
  congr 1
  apply List.filter_congr
  intro k hk
  have := List.mem_range.1 hk
  rw [List.getElem?_set_ne (by omega)]
/-- one more is told -/
theorem unt_set {T : List Bool} {j : Nat} (hj : T[j]? = some false) : ∀ i : Nat, j < i → (unt i T).Perm ((j : Int) :: unt i (T.set j true))
  | 0, h => by omega
  | i + 1, h => by
    have jl : j < T.length := (List.getElem?_eq_some_iff.1 hj).1
    rw [unt_succ, unt_succ]
    by_cases e : j = i
    · subst e
      rw [unt_ge (Nat.le_refl _), hj, List.getElem?_set_self jl]
      simp
    · have ih := unt_set hj i (by omega)
      rw [List.getElem?_set_ne e]
      exact ih.append_right _
/-- what is told and what is held, one told -/
theorem told_step {i : Nat} {T : List Bool} {b : Int} {A : List Int} (h : (b :: A).Perm (unt i T)) : ∃ j : Nat, b = (j : Int) ∧ j < i ∧ T[j]? = some false ∧ A.Perm (unt i (T.set j true)) := by
  obtain ⟨j, rfl, hj, hT⟩ := unt_mem (h.mem_iff.1 List.mem_cons_self)
  exact ⟨j, rfl, hj, hT, (h.trans (unt_set hT i hj)).cons_inv⟩
theorem OkS.sub {S S' : List Gm} (h : OkS S) (hs : S'.Sublist S) : OkS S' := by
  refine ⟨fun m hm => h.m m (hs.subset hm), Nat.le_trans ?_ h.sz⟩
  have key : ∀ {A B : List Gm}, A.Sublist B → szS A ≤ szS B := by
    intro A B hAB
    induction hAB with
    | slnil => exact Nat.le_refl _
    | cons a _ ih => simp only [szS, List.map_cons, List.sum_cons] at ih ⊢; omega
    | cons_cons a _ ih => simp only [szS, List.map_cons, List.sum_cons] at ih ⊢; omega
  exact key hs
theorem bfS_filter (q : Gm → Bool) : ∀ S : List Gm, (bfS (S.filter q) ++ bfS (S.filter (fun m => !q m))).Perm (bfS S)
  | [] => List.Perm.refl _
  | a :: S => by
    have ih := bfS_filter q S
    by_cases h : q a = true
    · rw [List.filter_cons_of_pos h, List.filter_cons_of_neg (by simp [h])]
      show (a.L.map (·.buf) ++ bfS (S.filter q) ++ bfS (S.filter (fun m => !q m))).Perm (a.L.map (·.buf) ++ bfS S)
      rw [List.append_assoc]
      exact ih.append_left _
    · rw [List.filter_cons_of_neg h, List.filter_cons_of_pos (by simpa using h)]
      show (bfS (S.filter q) ++ (a.L.map (·.buf) ++ bfS (S.filter (fun m => !q m)))).Perm (a.L.map (·.buf) ++ bfS S)
      refine List.Perm.trans ?_ (ih.append_left _)
      rw [← List.append_assoc, ← List.append_assoc]
      exact List.perm_append_comm.append_right _
def oldS (now : Int) (m : Gm) : Bool := hpB m.since now 16
theorem abs_old (now : Int) (G : List (Nat × Gm)) : absG (G.filter (oldG now)) = (absG G).filter (oldS now) := by
  unfold absG
  rw [List.filter_map]
  rfl
theorem abs_young (now : Int) (G : List (Nat × Gm)) : absG (G.filter (youngG now)) = (absG G).filter (fun m => !oldS now m) := by
  unfold absG
  rw [List.filter_map]
  rfl
/-- when they began -/
def SiS (now : Int) (S : List Gm) : Prop := ∀ m ∈ S, 0 ≤ m.since ∧ m.since ≤ now
theorem SiS.put {S : List Gm} {now : Int} (ha : SiS now S) (h0 : 0 ≤ now) (p : Pk) (D : List Int) (buf : Int) : SiS now (putS p D buf now S).2.2 := by
  by_cases hf : frg p = true
  case neg =>
    unfold putS
    rw [if_pos (by simpa using hf)]
    exact ha
  by_cases hm : myb p D.length = true
  case neg =>
    unfold putS
    rw [if_neg (by rw [hf]; decide), if_pos (by simpa using hm)]
    exact ha
  have er : ∀ i, SiS now (S.eraseIdx i) := fun i m hm => ha m ((List.eraseIdx_sublist S i).subset hm)
  cases hi : fndI p.kd S with
  | some i =>
    obtain ⟨m, hS, _⟩ := fndI_at hi
    rw [putS_some hf hm hi hS]
    have hmem := List.mem_of_getElem? hS
    split
    · exact er i
    · split
      · exact ha
      · unfold finS
        split
        · intro m' hm'
          rcases List.mem_or_eq_of_mem_set hm' with h1 | h1
          · exact ha m' h1
          · rw [h1, addG_since]
            exact ha m hmem
        · exact er i
  | none =>
    rw [putS_none hf hm hi]
    split
    · exact ha
    · unfold finS
      split
      · intro m' hm'
        rcases List.mem_append.1 hm' with h1 | h1
        · exact ha m' h1
        · rw [List.mem_singleton.1 h1, addG_since]
          exact ⟨h0, Int.le_refl _⟩
      · exact ha
theorem old_all {S : List Gm} {now : Int} (h : SiS now S) (_hn : now ≤ 1000000000000000) : S.filter (fun m => !oldS (now + 16) m) = [] := by
  rw [List.filter_eq_nil_iff]
  intro m hm
  have := h m hm
  unfold oldS hpB
  simp
  omega
end Go.Proofs.Ytohalgfindhjnaa
