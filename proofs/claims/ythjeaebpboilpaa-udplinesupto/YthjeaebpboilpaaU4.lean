
/-
  Package udp: who has which port: the map; New, Who, isTaken, firstFree, bindAny, Bind.
-/
import Derived.Test.YthjeaebpboilpaaU3
namespace Go.Proofs.Ythjeaebpboilpaa
open Go.RowKit Go.Shelf
open Go.ChangeMaps (setBlock)

/-- a port, who has it, its entry's stamp -/
structure Po where
  n : Int
  who : Int
  bn : Nat
def oent (r : Po) : MapEntry := ⟨.int .i64 r.n, .int .i64 r.who, r.bn⟩
def OmAt (W : World) (b : Nat) (L : List Po) (ck : Nat) : Prop := W.heap[b]? = some (.map (L.map oent).toArray ck)
theorem OmAt.lt {W : World} {b : Nat} {L : List Po} {ck : Nat} (h : OmAt W b L ck) : b < W.heap.size := (Array.getElem?_eq_some_iff.1 h).1
theorem OmAt.but {K : Nat → Prop} {W W' : World} {b : Nat} {L : List Po} {ck : Nat} (h : OmAt W b L ck) (hb : But K W W') (hk : ¬ K b) : OmAt W' b L ck := (hb.block b h.lt hk).trans h
theorem OmAt.set {W : World} {b : Nat} {L : List Po} {ck : Nat} (h : OmAt W b L ck) (M : List Po) (k : Nat) : OmAt (setBlock W b (.map (M.map oent).toArray k)) b M k := by
  unfold OmAt setBlock
  rw [Array.getElem?_setIfInBounds_self]
  simp [h.lt]
theorem But.blockP {K : Nat → Prop} {w : World} {b : Nat} (hb : K b) (o : Obj) : But K w (setBlock w b o) :=
  ⟨rfl, rfl, rfl, by simp [setBlock], fun i _ hi => by
    simp only [setBlock]
    rw [Array.getElem?_setIfInBounds_ne]
    rintro rfl; exact hi hb⟩
def ofd (n : Int) : List Po → Option (Nat × Po)
  | [] => none
  | r :: L => if n = r.n then some (0, r) else (ofd n L).map (fun p => (p.1 + 1, p.2))
def otk (n : Int) (L : List Po) : Bool := (ofd n L).isSome
def owh (n : Int) (L : List Po) : Int := match ofd n L with | some p => p.2.who | none => 0
theorem ofd_some {n : Int} : ∀ {L : List Po} {i : Nat} {r : Po}, ofd n L = some (i, r) → L[i]? = some r ∧ r.n = n
  | [], _, _, h => by cases h
  | x :: L, i, r, h => by
    unfold ofd at h
    split at h
    · rename_i hk
      cases h
      exact ⟨rfl, hk.symm⟩
    · cases hf : ofd n L with
      | none => rw [hf] at h; cases h
      | some p =>
        rw [hf] at h
        cases h
        obtain ⟨h1, h2⟩ := ofd_some (i := p.1) (r := p.2) hf
        exact ⟨by simpa using h1, h2⟩
theorem ofd_none {n : Int} : ∀ {L : List Po}, ofd n L = none → ∀ r ∈ L, r.n ≠ n
  | [], _, _, h => by cases h
  | x :: L, h, r, hr => by
    unfold ofd at h
    split at h
    · cases h
    · rename_i hk
      cases hf : ofd n L with
      | some p => rw [hf] at h; cases h
      | none =>
        rcases List.mem_cons.1 hr with rfl | hr
        · intro e; exact hk e.symm
        · exact ofd_none hf r hr
theorem ofd_not {n : Int} : ∀ {L : List Po}, (∀ r ∈ L, r.n ≠ n) → ofd n L = none
  | [], _ => rfl
  | y :: L, h => by
    unfold ofd
    rw [if_neg (fun e => h y (by simp) e.symm), ofd_not (fun r hr => h r (by simp [hr]))]
    rfl
theorem onow (n : Int) : ∀ (L : List Po) (i : Nat), Instr.findNow (.int .i64) (.int .i64 n) (L.map oent) i = some ((ofd n L).map (fun p => (i + p.1, .int .i64 p.2.who)))
  | [], i => rfl
  | r :: L, i => by
    have h2 := onow n L (i + 1)
    unfold ofd
    simp only [List.map_cons, Instr.findNow, oent, Instr.sameNow]
    by_cases e : n = r.n
    · simp [e]
    · have e' : (n == r.n) = false := by simpa using e
      simp only [e', if_true]
      rw [if_neg e]
      have h3 : (fun r : Po => (⟨.int .i64 r.n, .int .i64 r.who, r.bn⟩ : MapEntry)) = oent := rfl
      rw [show List.map oent L = List.map oent L from rfl] at h2
      cases hf : ofd n L with
      | none => rw [hf] at h2; simpa using h2
      | some p => rw [hf] at h2; simp at h2 ⊢; rw [h2]; simp; omega
theorem ofind_run (w : World) (n : Int) (L : List Po) : (Instr.findKey 3 (.int .i64 n) (L.map oent)).run Try.prog w = .ok ((ofd n L).map (fun p => (p.1, .int .i64 p.2.who))) w := by
  have h := onow n L 0
  simp only [Nat.zero_add] at h
  exact MapKept.run_findKey Try.underlying3 h
theorem ochk (w : World) (em : Bool) (n : Int) : (Instr.checkKey em 10000 3 (.int .i64 n)).run Try.prog w = .ok () w := by kernel_rfl
theorem ozero (w : World) : (zeroValue 3).run Try.prog w = .ok (.int .i64 0) w := by kernel_rfl
theorem ou_map : Try.prog.underlying 74 = some (.map 3 3) := Try.underlying74
theorem olook_run {w : World} {b ck : Nat} {L : List Po} (h : OmAt w b L ck) (n : Int) : (Instr.lookup 74 (.map (some b)) (.int .i64 n) true).run Try.prog w = .ok (.tuple #[.int .i64 (owh n L), .bool (otk n L)]) w := by
  have h1 := ofind_run w n L
  have h2 : ∀ em, (Instr.checkKey em 10000 3 (.int .i64 n)).run Try.prog w = .ok () w := fun em => ochk w em n
  have h3 := ozero w
  unfold owh otk
  cases hf : ofd n L with
  | none =>
    rw [hf] at h1
    simp [Instr.lookup, run_underlying ou_map, MapKept.run_getObj_map h, h2, h1, h3, Result.andThen]
  | some p =>
    rw [hf] at h1
    simp [Instr.lookup, run_underlying ou_map, MapKept.run_getObj_map h, h2, h1, Result.andThen]
theorem oupd_new {w : World} {b ck : Nat} {L : List Po} (h : OmAt w b L ck) (n m : Int) (hf : ofd n L = none) : (Instr.mapUpdate 74 (.map (some b)) (.int .i64 n) (.int .i64 m)).run Try.prog w = .ok () (setBlock w b (.map ((L ++ [(⟨n, m, ck⟩ : Po)]).map oent).toArray (ck + 1))) := by
  have h1 := ofind_run w n L
  have h2 : ∀ em, (Instr.checkKey em 10000 3 (.int .i64 n)).run Try.prog w = .ok () w := fun em => ochk w em n
  rw [hf] at h1
  simp [Instr.mapUpdate, run_underlying ou_map, MapKept.run_getObj_map h, h2, h1, MapKept.run_setObj_map _ h, Result.andThen, setBlock, oent]
/-- Ports at b + 1, its map at b -/
structure PoAt (W : World) (b : Nat) (L : List Po) (ck : Nat) (nx : Int) : Prop where
  c0 : W.cell? ⟨b + 1, 0, none⟩ = some (.map (some b))
  c1 : W.cell? ⟨b + 1, 1, none⟩ = some (.int .i64 nx)
  fz : ∀ y, W.frozen? ⟨b + 1, y, none⟩ = false
  map : OmAt W b L ck
def PoK (b : Nat) : Nat → Prop := fun g => g = b ∨ g = b + 1
theorem PoAt.lt {W : World} {b : Nat} {L : List Po} {ck : Nat} {nx : Int} (h : PoAt W b L ck nx) : b + 1 < W.heap.size := World.block_lt_of_cell? W _ h.c0
theorem PoAt.but {K : Nat → Prop} {W W' : World} {b : Nat} {L : List Po} {ck : Nat} {nx : Int} (h : PoAt W b L ck nx) (hb : But K W W') (hk : ∀ g, PoK b g → ¬ K g) : PoAt W' b L ck nx := by
  have hl := h.lt
  have k1 := hk (b + 1) (.inr rfl)
  exact ⟨(hb.cell (p := ⟨b + 1, 0, none⟩) hl k1).trans h.c0, (hb.cell (p := ⟨b + 1, 1, none⟩) hl k1).trans h.c1, fun y => (hb.frozen (p := ⟨b + 1, y, none⟩) hl k1).trans (h.fz y), h.map.but hb (hk b (.inl rfl))⟩
theorem PoAt.later {W W' : World} {b : Nat} {L : List Po} {ck : Nat} {nx : Int} (h : PoAt W b L ck nx) (hb : Below W.heap.size W W') : PoAt W' b L ck nx := h.but (K := fun _ => False) (But.of_below hb) (fun _ _ => id)
theorem uNew_any (w : World) : Calls Try.prog 13 #[] w fun e w' => e = .returned (.pointer (some ⟨w.heap.size + 1, 0, none⟩)) ∧ PoAt w' w.heap.size [] 0 49152 ∧ Below w.heap.size w w' := by
  obtain ⟨w1, hw1⟩ : ∃ w1, w1 = w.alloc (.map #[] 0) := ⟨_, rfl⟩
  obtain ⟨w2, hw2⟩ : ∃ w2, w2 = w1.alloc (.cells #[.map (some w.heap.size), .int .i64 49152] 76) := ⟨_, rfl⟩
  have s1 : w1.heap.size = w.heap.size + 1 := by rw [hw1]; simp
  have b2 : Below w.heap.size w w2 := by rw [hw2, hw1]; exact ((Below.refl _ w).alloc (Nat.le_refl _) _).alloc (by simp) _
  have c2 : CellsAt w2 (w.heap.size + 1) 0 [.map (some w.heap.size), .int .i64 49152] := by rw [hw2, ← s1]; exact CellsAt.new w1 _ _
  have P : Hid (PoAt w2 w.heap.size [] 0 49152) := by
    refine ⟨c2 0 _ rfl, c2 1 _ rfl, fun y => by rw [hw2, ← s1]; exact frozen_new w1 _ _ _, ?_⟩
    have h1 : OmAt w1 w.heap.size [] 0 := by rw [hw1]; exact heap_alloc_new w _
    have hb : Below w1.heap.size w1 w2 := by rw [hw2]; exact later_alloc _ _
    exact h1.but (K := fun _ => False) (But.of_below hb) id
  have B2 := hide b2
  have hw1' := hw1.symm
  have hw2' := hw2.symm
  clear hw1 hw2 b2 c2
  have hmm := @run_makeMap Try.prog
  go_enter Try.func13, Try.ntmps13
  go_wp2
  go_ret
  exact ⟨by simp, P.out, B2.out⟩
set_option maxRecDepth 100000 in
theorem uWho_any {w : World} {b ck : Nat} {L : List Po} {nx : Int} (h : PoAt w b L ck nx) (n : Int) : Calls Try.prog 16 #[.pointer (some ⟨b + 1, 0, none⟩), .int .i64 n] w fun e w' => e = .returned (.tuple #[.int .i64 (owh n L), .bool (otk n L)]) ∧ w' = w := by
  have c0 := h.c0
  have LK := hide (olook_run h.map n)
  obtain ⟨o, ho⟩ : ∃ o, o = owh n L := ⟨_, rfl⟩
  obtain ⟨t, ht⟩ : ∃ t, t = otk n L := ⟨_, rfl⟩
  rw [← ho, ← ht] at LK ⊢
  clear h ho ht
  go_enter Try.func16, Try.ntmps16
  go_wp2_with (refine wpList_val rfl (exec_look _ _ _ _ _ _ _ rfl rfl rfl LK.out) ?_)
  refine bodyPost_ret (v := .tuple #[.int .i64 o, .bool t]) (by simp [results, go_sem]) rfl ?_
  exact ⟨rfl, rfl⟩
set_option maxRecDepth 100000 in
theorem uTaken_any {w : World} {b ck : Nat} {L : List Po} {nx : Int} (h : PoAt w b L ck nx) (n : Int) : Calls Try.prog 38 #[.pointer (some ⟨b + 1, 0, none⟩), .int .i64 n] w fun e w' => e = .returned (.bool (otk n L)) ∧ w' = w := by
  have WH := hide (uWho_any h n)
  clear h
  go_enter Try.func38, Try.ntmps38
  go_wp2_with fail
  refine WH.out.mono ?_
  rintro _ wx ⟨rfl, hw⟩
  rw [hw]
  clear hw wx
  go_wp2
  go_ret
  exact ⟨rfl, rfl⟩
/-- the first free port from nx on, and then around; 0: there is none -/
def FF (nx : Int) (L : List Po) (p : Int) : Prop :=
  (p = 0 ∧ ∀ q, 49152 ≤ q → q ≤ 65535 → otk q L = true) ∨
  (nx ≤ p ∧ p ≤ 65535 ∧ otk p L = false ∧ ∀ q, nx ≤ q → q < p → otk q L = true) ∨
  (49152 ≤ p ∧ p < nx ∧ otk p L = false ∧ (∀ q, nx ≤ q → q ≤ 65535 → otk q L = true) ∧ ∀ q, 49152 ≤ q → q < p → otk q L = true)
set_option maxRecDepth 100000 in
set_option maxHeartbeats 4000000 in
theorem uFirst_any {w : World} {b ck : Nat} {L : List Po} {nx : Int} (h : PoAt w b L ck nx) (n0 : 49152 ≤ nx) (n1 : nx ≤ 65535) : Calls Try.prog 51 #[.pointer (some ⟨b + 1, 0, none⟩)] w fun e w' => (∃ p, e = .returned (.int .i64 p) ∧ FF nx L p) ∧ w' = w := by
  have c1 := h.c1
  have TK := hide (fun n => uTaken_any h n)
  have ix0 : ∀ w, (Instr.index 107 (.agg #[.int .i64 nx, .int .i64 49152]) (.int .i64 0)).run Try.prog w = .ok (.int .i64 nx) w := fun w => by kernel_rfl
  have ix1 : ∀ w, (Instr.index 107 (.agg #[.int .i64 nx, .int .i64 49152]) (.int .i64 1)).run Try.prog w = .ok (.int .i64 49152) w := fun w => by kernel_rfl
  clear h
  go_enter Try.func51, Try.ntmps51
  go_wp2
  go_step3
  go_wp2
  go_step3
  go_wp2
  go_loopw [3, 12] (fun v3 v12 wr => ∃ k : Nat, v3 = .int .i64 0 ∧ v12 = .int .i64 (k : Int) ∧ k ≤ 2 ∧ wr = w ∧ Hid (1 ≤ k → ∀ q, nx ≤ q → q ≤ 65535 → otk q L = true) ∧ Hid (2 ≤ k → ∀ q, 49152 ≤ q → q ≤ 65535 → otk q L = true)) (fun _ v12 _ => 2 - (intOf v12).toNat)
  case atStart => exact ⟨0, rfl, rfl, by omega, rfl, (fun h => by omega), (fun h => by omega)⟩
  case round =>
    obtain ⟨k, rfl, rfl, hk, rfl, K1, K2⟩ := hrel
    rcases (show k = 0 ∨ k = 1 ∨ k = 2 by omega) with rfl | rfl | rfl
    · rw [show ((0 : Nat) : Int) = 0 from rfl]
      go_wp2
      go_loopw [3, 6] (fun v3 v6 wq => ∃ p : Int, v3 = .int .i64 0 ∧ v6 = .int .i64 p ∧ nx ≤ p ∧ p ≤ 65536 ∧ wq = wr ∧ Hid (∀ q, nx ≤ q → q < p → otk q L = true)) (fun _ v6 _ => (65536 - intOf v6).toNat)
      case atStart => exact ⟨nx, rfl, rfl, by omega, by omega, rfl, fun q _ _ => by omega⟩
      case round =>
        obtain ⟨p, rfl, rfl, p0, p1, hwq, PK⟩ := hrel
        rw [hwq]
        clear hwq
        by_cases hp : p ≤ 65535
        · have T1 := hide (TK.out p)
          go_wp2_with fail
          refine T1.out.mono ?_
          rintro _ wx ⟨rfl, hw⟩
          rw [hw]
          clear hw wx T1
          cases ht : otk p L with
          | true =>
            have PK2 : Hid (∀ q, nx ≤ q → q < p + 1 → otk q L = true) := fun q h1 h2 => by
              by_cases e : q = p
              · rw [e]; exact ht
              · exact PK.out q h1 (by omega)
            clear ht
            go_wp2
            go_roundw
            case rel => exact ⟨p + 1, rfl, by go_num, by omega, by omega, trivial, PK2.out⟩
            case measure => simp [intOf]; omega
          | false =>
            have HT := hide ht
            clear ht
            go_wp2
            rw [Exit.noGoto_ret]
            go_ret
            exact ⟨⟨p, rfl, .inr (.inl ⟨p0, hp, HT.out, PK.out⟩)⟩, rfl⟩
        · have e : p = 65536 := by omega
          subst e
          go_wp2
          go_roundw
          case rel => exact ⟨0 + 1, rfl, rfl, by omega, trivial, (fun _ q h1 h2 => PK.out q h1 (by omega)), (fun h => by omega)⟩
          case measure => simp [intOf]
    · rw [show ((1 : Nat) : Int) = 1 from rfl]
      go_wp2
      go_loopw [3, 6] (fun v3 v6 wq => ∃ p : Int, v3 = .int .i64 0 ∧ v6 = .int .i64 p ∧ 49152 ≤ p ∧ p ≤ 65536 ∧ wq = wr ∧ Hid (∀ q, 49152 ≤ q → q < p → otk q L = true)) (fun _ v6 _ => (65536 - intOf v6).toNat)
      case atStart => exact ⟨49152, rfl, rfl, by omega, by omega, rfl, fun q _ _ => by omega⟩
      case round =>
        obtain ⟨p, rfl, rfl, p0, p1, hwq, PK⟩ := hrel
        rw [hwq]
        clear hwq
        by_cases hp : p ≤ 65535
        · have T1 := hide (TK.out p)
          go_wp2_with fail
          refine T1.out.mono ?_
          rintro _ wx ⟨rfl, hw⟩
          rw [hw]
          clear hw wx T1
          cases ht : otk p L with
          | true =>
            have PK2 : Hid (∀ q, 49152 ≤ q → q < p + 1 → otk q L = true) := fun q h1 h2 => by
              by_cases e : q = p
              · rw [e]; exact ht
              · exact PK.out q h1 (by omega)
            clear ht
            go_wp2
            go_roundw
            case rel => exact ⟨p + 1, rfl, by go_num, by omega, by omega, trivial, PK2.out⟩
            case measure => simp [intOf]; omega
          | false =>
            have HT := hide ht
            clear ht
            go_wp2
            rw [Exit.noGoto_ret]
            go_ret
            exact ⟨⟨p, rfl, .inr (.inr ⟨p0, (by by_cases e : p < nx; exact e; have h1 := K1.out (by omega) p (by omega) hp; have h2 := HT.out; rw [h1] at h2; cases h2), HT.out, K1.out (by omega), PK.out⟩)⟩, rfl⟩
        · have e : p = 65536 := by omega
          subst e
          go_wp2
          go_roundw
          case rel => exact ⟨1 + 1, rfl, rfl, by omega, trivial, (fun _ => K1.out (by omega)), (fun _ q h1 h2 => PK.out q h1 (by omega))⟩
          case measure => simp [intOf]
    · rw [show ((2 : Nat) : Int) = 2 from rfl]
      go_wp2
      try rw [Exit.noGoto_ret]
      go_ret
      exact ⟨⟨0, rfl, .inl ⟨rfl, K2.out (by omega)⟩⟩, rfl⟩
end Go.Proofs.Ythjeaebpboilpaa
