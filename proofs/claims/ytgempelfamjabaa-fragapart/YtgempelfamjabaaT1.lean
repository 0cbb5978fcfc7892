
/-
  Package icmp: the small functions; which messages may be.
-/
import Derived.Test.YtgempelfamjabaaI12
namespace Go.Proofs.Ytgempelfamjabaa
open Go.RowKit Go.Shelf
attribute [local go_sem] Oper.semAt_some

theorem later_drew (w : World) : Below w.heap.size w w.drew := ⟨rfl, rfl, rfl, Nat.le_refl _, fun _ _ => rfl⟩
section
variable {P : Program} {C : World → Prop} {o : Oper} {a : Act} {K : Act → Prop}
theorem region_quiet_C {id : Nat} {Q : Exit → Act → World → Prop} {w : World} {l : List Oper} (C : World → Prop) (hm : P.follows .mixedOrders = true) (hB : Region.lexB .any l.toArray = true) (hC : C w.drew)
    (h : wpQuiet P l.toArray C (fun a' => ∀ w', C w' → Q .normal a' w') l a) : (Code.region id l.toArray true).wp P Q a w :=
  wp_region_quiet (C := C) hm hB hC (by simpa using h)
theorem quiet_pure (v : Value) (hx : ∀ W, C W → (execOp a.eval o).run P W = .ok (.value v) W) (h : K (a.put o.dst v)) : o.quiet P a C K :=
  ⟨v, fun W hW => by unfold Oper.quietAt; rw [hx W hW]; exact ⟨rfl, rfl⟩, h⟩
theorem quiet_call (F : FuncId) (vals : Array Value) (v : Value) (hx : ∀ W, (execOp a.eval o).run P W = .ok (.enter F vals) W) (hC : ∀ W, C W → Calls P F vals W (fun e w' => e = .returned v ∧ C w')) (h : K (a.put o.dst v)) : o.quiet P a C K :=
  ⟨v, fun W hW => by unfold Oper.quietAt; rw [hx W]; exact ⟨rfl, hC W hW⟩, h⟩
end


/-- from 0 up to m -/
def upB (m n : Int) : Bool := decide (0 ≤ n ∧ n ≤ m)
/-- an echo, or its answer -/
def ech (t : Int) : Bool := decide (t = 0 ∨ t = 8)
/-- may a message's numbers be? -/
def mbI (t c i s u : Int) : Bool :=
  if ech t = true then (upB 0 c && (upB 65535 i && (upB 65535 s && upB 0 u)))
  else if t = 3 then (if c = 4 then (upB 15 c && (upB 0 i && (upB 0 s && upB 65535 u))) else (upB 15 c && (upB 0 i && (upB 0 s && upB 0 u))))
  else if t = 11 then (upB 1 c && (upB 0 i && (upB 0 s && upB 0 u)))
  else false
/-- a message, its data as a value -/
def imL (t c i s u : Int) (dv : Value) : List Value := [.int .i64 t, .int .i64 c, .int .i64 i, .int .i64 s, .int .i64 u, dv]
theorem imL_cells {W : World} {q : Nat} {t c i s u : Int} {dv : Value} (h : CellsAt W q 0 (imL t c i s u dv)) : W.cell? ⟨q, 0, none⟩ = some (.int .i64 t) ∧ W.cell? ⟨q, 1, none⟩ = some (.int .i64 c) ∧ W.cell? ⟨q, 2, none⟩ = some (.int .i64 i) ∧ W.cell? ⟨q, 3, none⟩ = some (.int .i64 s) ∧ W.cell? ⟨q, 4, none⟩ = some (.int .i64 u) ∧ W.cell? ⟨q, 5, none⟩ = some dv :=
  ⟨h 0 _ rfl, h 1 _ rfl, h 2 _ rfl, h 3 _ rfl, h 4 _ rfl, h 5 _ rfl⟩
/-- the four bytes behind the sum -/
def nmL (t i s u : Int) : List Int := put16 i ++ put16 (if ech t = true then s else u)
end Go.Proofs.Ytgempelfamjabaa
