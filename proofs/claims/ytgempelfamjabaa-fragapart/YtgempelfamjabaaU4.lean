
/-
  Package udp: who has which port: the map; New, Who, isTaken, firstFree, bindAny, Bind.
-/
import Derived.Test.YtgempelfamjabaaU3
namespace Go.Proofs.Ytgempelfamjabaa
open Go.RowKit Go.Shelf
open Go.ChangeMaps (setBlock)

/-- a port, who has it, its entry's stamp -/
structure Po where
  n : Int
  who : Int
  bn : Nat
def oent (r : Po) : MapEntry := ⟨.int .i64 r.n, .int .i64 r.who, r.bn⟩
def OmAt (W : World) (b : Nat) (L : List Po) (ck : Nat) : Prop := W.heap[b]? = some (.map (L.map oent).toArray ck)
theorem OmAt.lt {W : World} {b : Nat} {L : List Po} {ck : Nat} (h : OmAt W b L ck) : b < W.heap.size := (Array.getElem?_eq_some_iff.1 h).1
theorem OmAt.but {K : Nat → Prop} {W W' : World} {b : Nat} {L : List Po} {ck : Nat} (h : OmAt W b L ck) (hb : But K W W') (hk : ¬ K b) : OmAt W' b L ck := (hb.block b h.lt hk).trans h
theorem OmAt.set {W : World} {b : Nat} {L : List Po} {ck : Nat} (h : OmAt W b L ck) (M : List Po) (k : Nat) : OmAt (setBlock W b (.map (M.map oent).toArray k)) b M k := by
  unfold OmAt setBlock
  rw [Array.getElem?_setIfInBounds_self]
  simp [h.lt]
theorem But.blockP {K : Nat → Prop} {w : World} {b : Nat} (hb : K b) (o : Obj) : But K w (setBlock w b o) :=
  ⟨rfl, rfl, rfl, by simp [setBlock], fun i _ hi => by
    simp only [setBlock]
    rw [Array.getElem?_setIfInBounds_ne]
    rintro rfl; exact hi hb⟩
def ofd (n : Int) : List Po → Option (Nat × Po)
  | [] => none
  | r :: L => if n = r.n then some (0, r) else (ofd n L).map (fun p => (p.1 + 1, p.2))
def otk (n : Int) (L : List Po) : Bool := (ofd n L).isSome
def owh (n : Int) (L : List Po) : Int := match ofd n L with | some p => p.2.who | none => 0
theorem ofd_some {n : Int} : ∀ {L : List Po} {i : Nat} {r : Po}, ofd n L = some (i, r) → L[i]? = some r ∧ r.n = n
  | [], _, _, h => by cases h
  | x :: L, i, r, h => by
    unfold ofd at h
    split at h
    · rename_i hk
      cases h
      exact ⟨rfl, hk.symm⟩
    · cases hf : ofd n L with
      | none => rw [hf] at h; cases h
      | some p =>
        rw [hf] at h
        cases h
        obtain ⟨h1, h2⟩ := ofd_some (i := p.1) (r := p.2) hf
        exact ⟨by simpa using h1, h2⟩
theorem ofd_none {n : Int} : ∀ {L : List Po}, ofd n L = none → ∀ r ∈ L, r.n ≠ n
  | [], _, _, h => by cases h
  | x :: L, h, r, hr => by
    unfold ofd at h
    split at h
    · cases h
    · rename_i hk
      cases hf : ofd n L with
      | some p => rw [hf] at h; cases h
      | none =>
        rcases List.mem_cons.1 hr with rfl | hr
        · intro e; exact hk e.symm
        · exact ofd_none hf r hr
theorem ofd_not {n : Int} : ∀ {L : List Po}, (∀ r ∈ L, r.n ≠ n) → ofd n L = none
  | [], _ => rfl
  | y :: L, h => by
    unfold ofd
    rw [if_neg (fun e => h y (by simp) e.symm), ofd_not (fun r hr => h r (by simp [hr]))]
    rfl
theorem onow (n : Int) : ∀ (L : List Po) (i : Nat), Instr.findNow (.int .i64) (.int .i64 n) (L.map oent) i = some ((ofd n L).map (fun p => (i + p.1, .int .i64 p.2.who)))
  | [], i => rfl
  | r :: L, i => by
    have h2 := onow n L (i + 1)
    unfold ofd
    simp only [List.map_cons, Instr.findNow, oent, Instr.sameNow]
    by_cases e : n = r.n
    · simp [e]
    · have e' : (n == r.n) = false := by simpa using e
      simp only [e', if_true]
      rw [if_neg e]
      have h3 : (fun r : Po => (⟨.int .i64 r.n, .int .i64 r.who, r.bn⟩ : MapEntry)) = oent := rfl
      rw [show List.map oent L = List.map oent L from rfl] at h2
      cases hf : ofd n L with
      | none => rw [hf] at h2; simpa using h2
      | some p => rw [hf] at h2; simp at h2 ⊢; rw [h2]; simp; omega
theorem ofind_run (w : World) (n : Int) (L : List Po) : (Instr.findKey 3 (.int .i64 n) (L.map oent)).run Try.prog w = .ok ((ofd n L).map (fun p => (p.1, .int .i64 p.2.who))) w := by
  have h := onow n L 0
  simp only [Nat.zero_add] at h
  exact MapKept.run_findKey Try.underlying3 h
theorem ochk (w : World) (em : Bool) (n : Int) : (Instr.checkKey em 10000 3 (.int .i64 n)).run Try.prog w = .ok () w := by kernel_rfl
theorem ozero (w : World) : (zeroValue 3).run Try.prog w = .ok (.int .i64 0) w := by kernel_rfl
/-- Ports at b + 1, its map at b -/
structure PoAt (W : World) (b : Nat) (L : List Po) (ck : Nat) (nx : Int) : Prop where
  c0 : W.cell? ⟨b + 1, 0, none⟩ = some (.map (some b))
  c1 : W.cell? ⟨b + 1, 1, none⟩ = some (.int .i64 nx)
  fz : ∀ y, W.frozen? ⟨b + 1, y, none⟩ = false
  map : OmAt W b L ck
def PoK (b : Nat) : Nat → Prop := fun g => g = b ∨ g = b + 1
theorem PoAt.lt {W : World} {b : Nat} {L : List Po} {ck : Nat} {nx : Int} (h : PoAt W b L ck nx) : b + 1 < W.heap.size := World.block_lt_of_cell? W _ h.c0
theorem PoAt.but {K : Nat → Prop} {W W' : World} {b : Nat} {L : List Po} {ck : Nat} {nx : Int} (h : PoAt W b L ck nx) (hb : But K W W') (hk : ∀ g, PoK b g → ¬ K g) : PoAt W' b L ck nx := by
  have hl := h.lt
  have k1 := hk (b + 1) (.inr rfl)
  exact ⟨(hb.cell (p := ⟨b + 1, 0, none⟩) hl k1).trans h.c0, (hb.cell (p := ⟨b + 1, 1, none⟩) hl k1).trans h.c1, fun y => (hb.frozen (p := ⟨b + 1, y, none⟩) hl k1).trans (h.fz y), h.map.but hb (hk b (.inl rfl))⟩
theorem PoAt.later {W W' : World} {b : Nat} {L : List Po} {ck : Nat} {nx : Int} (h : PoAt W b L ck nx) (hb : Below W.heap.size W W') : PoAt W' b L ck nx := h.but (K := fun _ => False) (But.of_below hb) (fun _ _ => id)
/-- the first free port from nx on, and then around; 0: there is none -/
def FF (nx : Int) (L : List Po) (p : Int) : Prop :=
  (p = 0 ∧ ∀ q, 49152 ≤ q → q ≤ 65535 → otk q L = true) ∨
  (nx ≤ p ∧ p ≤ 65535 ∧ otk p L = false ∧ ∀ q, nx ≤ q → q < p → otk q L = true) ∨
  (49152 ≤ p ∧ p < nx ∧ otk p L = false ∧ (∀ q, nx ≤ q → q ≤ 65535 → otk q L = true) ∧ ∀ q, 49152 ≤ q → q < p → otk q L = true)
end Go.Proofs.Ytgempelfamjabaa
