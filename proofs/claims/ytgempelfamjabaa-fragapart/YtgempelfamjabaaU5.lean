
/-
  Package udp: behind, bindAny, Bind.
-/
import Derived.Test.YtgempelfamjabaaU4
namespace Go.Proofs.Ytgempelfamjabaa
open Go.RowKit Go.Shelf
open Go.ChangeMaps (setBlock)

def nxt (p : Int) : Int := if p = 65535 then 49152 else p + 1
theorem FF.bd {nx : Int} {L : List Po} {p : Int} (h : FF nx L p) (hp : p ≠ 0) (n0 : 49152 ≤ nx) (n1 : nx ≤ 65535) : 49152 ≤ p ∧ p ≤ 65535 ∧ otk p L = false := by
  rcases h with h | h | h
  · exact absurd h.1 hp
  · exact ⟨by have := h.1; omega, h.2.1, h.2.2.1⟩
  · exact ⟨h.1, by have := h.2.1; omega, h.2.2.1⟩
theorem otk_none {n : Int} {L : List Po} (h : otk n L = false) : ofd n L = none := by
  unfold otk at h
  cases hf : ofd n L with
  | none => rfl
  | some p => rw [hf] at h; cases h
/-- a map's entry more -/
theorem PoAt.more {w : World} {b ck : Nat} {L : List Po} {nx : Int} (h : PoAt w b L ck nx) (M : List Po) (k : Nat) : PoAt (setBlock w b (.map (M.map oent).toArray k)) b M k nx ∧ But (PoK b) w (setBlock w b (.map (M.map oent).toArray k)) := by
  have hb : But (Only b) w (setBlock w b (.map (M.map oent).toArray k)) := But.blockP (K := Only b) rfl _
  have hl := h.lt
  have k1 : ¬ Only b (b + 1) := fun e => by have e : b + 1 = b := e; omega
  exact ⟨⟨(hb.cell (p := ⟨b + 1, 0, none⟩) hl k1).trans h.c0, (hb.cell (p := ⟨b + 1, 1, none⟩) hl k1).trans h.c1, fun y => (hb.frozen (p := ⟨b + 1, y, none⟩) hl k1).trans (h.fz y), h.map.set M k⟩, hb.mono (fun g e => .inl e)⟩
theorem wpList_updP {w w' : World} {ops : Array Oper} {rest : List Oper} {o : Oper} {a : Act} {Q : Exit → Act → World → Prop} (hgd : o.guard = none) (T : TypeId) (x k v : Operand) (ho : o.op = .mapUpdate T x k v) (hd : o.dst = none) (mv kv vv : Value) (hx : a.eval x = mv) (hk : a.eval k = kv) (hv : a.eval v = vv)
    (hrun : (Instr.mapUpdate T mv kv vv).run Try.prog w = .ok () w') (h : wpList Try.prog ops Q rest a w') : wpList Try.prog ops Q (o :: rest) a w := by
  refine wpList_plain hgd fun K hK => ?_
  unfold Oper.wp
  simp only [execOp, ho, hx, hk, hv, Sem.run_bind, hrun, Result.andThen_ok, Sem.run_pure, Oper.upon]
  have := hK a w' (by simpa [Act.put, hd] using h)
  simpa [Act.put, hd] using this
/-- what Bind answers, and what it leaves -/
def Bnd (nx : Int) (L : List Po) (ck : Nat) (who port r err : Int) (L' : List Po) (ck' : Nat) (nx' : Int) : Prop :=
  (((port ≠ 0 ∧ prt port = false) ∨ who < 0) ∧ r = 0 ∧ err = 1 ∧ L' = L ∧ ck' = ck ∧ nx' = nx) ∨
  (port = 0 ∧ 0 ≤ who ∧ r = 0 ∧ FF nx L 0 ∧ err = 130 ∧ L' = L ∧ ck' = ck ∧ nx' = nx) ∨
  (port = 0 ∧ 0 ≤ who ∧ r ≠ 0 ∧ FF nx L r ∧ err = 0 ∧ L' = L ++ [⟨r, who, ck⟩] ∧ ck' = ck + 1 ∧ nx' = nxt r) ∨
  (port ≠ 0 ∧ prt port = true ∧ 0 ≤ who ∧ otk port L = true ∧ r = 0 ∧ err = 130 ∧ L' = L ∧ ck' = ck ∧ nx' = nx) ∨
  (port ≠ 0 ∧ prt port = true ∧ 0 ≤ who ∧ otk port L = false ∧ r = port ∧ err = 0 ∧ L' = L ++ [⟨port, who, ck⟩] ∧ ck' = ck + 1 ∧ nx' = nx)
end Go.Proofs.Ytgempelfamjabaa
