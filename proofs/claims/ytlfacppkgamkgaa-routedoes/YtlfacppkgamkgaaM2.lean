
/-
  The map's operations, run.
-/
import Derived.Test.YtlfacppkgamkgaaM1
namespace Go.Proofs.Ytlfacppkgamkgaa
open Go.RowKit Go.Shelf
open Go.ChangeMaps (setBlock)

def fnd (n : I4) (k : Int) : List Rw → Option (Nat × Rw)
  | [] => none
  | r :: L => if isK n k r = true then some (0, r) else (fnd n k L).map (fun p => (p.1 + 1, p.2))
theorem fnd_some {n : I4} {k : Int} : ∀ {L : List Rw} {i : Nat} {r : Rw}, fnd n k L = some (i, r) → L[i]? = some r ∧ r.w.net = n ∧ r.w.bits = k
  | [], _, _, h => by cases h
  | x :: L, i, r, h => by
    unfold fnd at h
    split at h
    · rename_i hk
      cases h
      exact ⟨rfl, of_decide_eq_true hk⟩
    · cases hf : fnd n k L with
      | none => rw [hf] at h; cases h
      | some p =>
        rw [hf] at h
        cases h
        obtain ⟨h1, h2⟩ := fnd_some (i := p.1) (r := p.2) hf
        exact ⟨by simpa using h1, h2⟩
theorem fnd_none {n : I4} {k : Int} : ∀ {L : List Rw}, fnd n k L = none → ∀ r ∈ L, ¬ (r.w.net = n ∧ r.w.bits = k)
  | [], _, _, h => by cases h
  | x :: L, h, r, hr => by
    unfold fnd at h
    split at h
    · cases h
    · rename_i hk
      cases hf : fnd n k L with
      | some p => rw [hf] at h; cases h
      | none =>
        rcases List.mem_cons.1 hr with rfl | hr
        · intro e; exact hk (decide_eq_true e)
        · exact fnd_none hf r hr
theorem ask_run (w : World) (n : I4) (k : Int) : ∀ (L : List Rw) (i : Nat), (Instr.findAsking 54 (.agg (keyc n k).toArray) (L.map ent) i).run Try.prog w = .ok ((fnd n k L).map (fun p => (i + p.1, .agg p.2.cells.toArray))) w
  | [], i => rfl
  | r :: L, i => by
    have h1 : (Op.equal 54 (.agg (keyc n k).toArray) (ent r).key).run Try.prog w = .ok (isK n k r) w := eq_row w _ n k r
    have h2 := ask_run w n k L (i + 1)
    unfold fnd
    simp only [List.map_cons, Instr.findAsking, Sem.run_bind, h1, Result.andThen]
    cases hb : isK n k r with
    | true => rfl
    | false =>
      simp only [Bool.false_eq_true, if_false, h2]
      cases fnd n k L with
      | none => rfl
      | some p => simp; omega
theorem find_run (w : World) (n : I4) (k : Int) (L : List Rw) : (Instr.findKey 54 (.agg (keyc n k).toArray) (L.map ent)).run Try.prog w = .ok ((fnd n k L).map (fun p => (p.1, .agg p.2.cells.toArray))) w := by
  rw [run_findKey_eq w (by rw [Try.underlying54]), ask_run w n k L 0]
  simp
def zRw : Rw := ⟨⟨⟨0, 0, 0, 0⟩, 0, ⟨0, 0, 0, 0⟩, false⟩, 0, 0⟩
theorem zero_row (w : World) : (zeroValue 57).run Try.prog w = .ok (.agg zRw.cells.toArray) w := by kernel_rfl
theorem u_map : Try.prog.underlying 48 = some (.map 54 57) := Try.underlying48
theorem look_run {w : World} {b ck : Nat} {L : List Rw} (h : MapAt w b L ck) (n : I4) (k : Int) : (Instr.lookup 48 (.map (some b)) (.agg (keyc n k).toArray) true).run Try.prog w = .ok (.tuple #[.agg (match fnd n k L with | some p => p.2 | none => zRw).cells.toArray, .bool (fnd n k L).isSome]) w := by
  have h1 := find_run w n k L
  have h2 : ∀ em, (Instr.checkKey em 10000 54 (.agg (keyc n k).toArray)).run Try.prog w = .ok () w := fun em => chk_key w em _ _ _ _ _
  cases hf : fnd n k L with
  | none =>
    rw [hf] at h1
    simp [Instr.lookup, run_underlying u_map, MapKept.run_getObj_map h, h2, h1, Result.andThen]
    rfl
  | some p =>
    rw [hf] at h1
    simp [Instr.lookup, run_underlying u_map, MapKept.run_getObj_map h, h2, h1, Result.andThen]
theorem upd_new {w : World} {b ck : Nat} {L : List Rw} (h : MapAt w b L ck) (x : Wy) (p : Int) (hf : fnd x.net x.bits L = none) : (Instr.mapUpdate 48 (.map (some b)) (.agg (keyc x.net x.bits).toArray) (.agg (Rw.cells ⟨x, p, ck⟩).toArray)).run Try.prog w = .ok () (setBlock w b (.map ((L ++ [(⟨x, p, ck⟩ : Rw)]).map ent).toArray (ck + 1))) := by
  have h1 := find_run w x.net x.bits L
  have h2 : ∀ em, (Instr.checkKey em 10000 54 (.agg (keyc x.net x.bits).toArray)).run Try.prog w = .ok () w := fun em => chk_key w em _ _ _ _ _
  rw [hf] at h1
  simp [Instr.mapUpdate, run_underlying u_map, MapKept.run_getObj_map h, h2, h1, MapKept.run_setObj_map _ h, Result.andThen, setBlock, ent]
theorem stays_run (w : World) (n : I4) (k : Int) : (Instr.keyThatStays (.agg (keyc n k).toArray) (.agg (keyc n k).toArray)).run Try.prog w = .ok (.agg (keyc n k).toArray) w := by
  have e : Instr.sameBits 10000 (.agg (keyc n k).toArray) (.agg (keyc n k).toArray) = true := by
    simp [keyc, Instr.sameBits]
  simp [Instr.keyThatStays, e]
theorem upd_old {w : World} {b ck : Nat} {L : List Rw} (h : MapAt w b L ck) (x : Wy) (i : Nat) (r : Rw) (hf : fnd x.net x.bits L = some (i, r)) : (Instr.mapUpdate 48 (.map (some b)) (.agg (keyc x.net x.bits).toArray) (.agg (Rw.cells ⟨x, r.pl, r.bn⟩).toArray)).run Try.prog w = .ok () (setBlock w b (.map ((L.set i (⟨x, r.pl, r.bn⟩ : Rw)).map ent).toArray ck)) := by
  have h1 := find_run w x.net x.bits L
  have h2 : ∀ em, (Instr.checkKey em 10000 54 (.agg (keyc x.net x.bits).toArray)).run Try.prog w = .ok () w := fun em => chk_key w em _ _ _ _ _
  have h3 := stays_run w x.net x.bits
  obtain ⟨q1, q2, q3⟩ := fnd_some hf
  rw [hf] at h1
  have q4 : (ent r).key = .agg (keyc x.net x.bits).toArray := by unfold ent; rw [q2, q3]
  have q5 : ((((L.map ent).toArray[i]?).map (·.key)).getD (.agg (keyc x.net x.bits).toArray)) = .agg (keyc x.net x.bits).toArray := by
    simp only [List.getElem?_toArray, List.getElem?_map, q1, Option.map_some, Option.getD_some, q4]
  have q6 : (L.map ent).toArray.modify i (fun e => { e with key := .agg (keyc x.net x.bits).toArray, val := .agg (Rw.cells ⟨x, r.pl, r.bn⟩).toArray }) = ((L.set i (⟨x, r.pl, r.bn⟩ : Rw)).map ent).toArray := by
    apply Array.toList_inj.1
    rw [Array.toList_modify]
    apply List.ext_getElem?
    intro j
    simp only [List.getElem?_modify, List.getElem?_map, List.getElem?_set]
    by_cases hj : i = j
    · subst hj
      have hlt := (List.getElem?_eq_some_iff.1 q1).1
      rw [q1]
      simp [hlt, ent]
    · simp [hj]
  simp only [Instr.mapUpdate, run_underlying u_map, MapKept.run_getObj_map h, h2, h1, Sem.run_bind, Result.andThen, Option.map_some, q5, h3, q6, MapKept.run_setObj_map _ h]
  rfl
theorem del_run {w : World} {b ck : Nat} {L : List Rw} (h : MapAt w b L ck) (n : I4) (k : Int) (i : Nat) (r : Rw) (hf : fnd n k L = some (i, r)) (ty : TypeId) : (Builtin.delete_ #[48, 54] ty #[.map (some b), .agg (keyc n k).toArray]).run Try.prog w = .ok (.tuple #[]) (setBlock w b (.map ((L.eraseIdx i).map ent).toArray ck)) := by
  have h1 := find_run w n k L
  have h2 : ∀ em, (Instr.checkKey em 10000 54 (.agg (keyc n k).toArray)).run Try.prog w = .ok () w := fun em => chk_key w em _ _ _ _ _
  rw [hf] at h1
  simp [Builtin.delete_, run_underlying u_map, MapKept.run_getObj_map h, h2, h1, MapKept.run_setObj_map _ h, Result.andThen, setBlock, Go.ChangeMaps.map_eraseIdx]
theorem len_run {w : World} {b ck : Nat} {L : List Rw} (h : MapAt w b L ck) (ty : TypeId) : (Builtin.len_ #[48] ty #[.map (some b)]).run Try.prog w = .ok (.int .i64 (L.length : Int)) w := by
  simp [Builtin.len_, run_underlying u_map, MapKept.run_getObj_map h, Result.andThen, goInt]
end Go.Proofs.Ytlfacppkgamkgaa
