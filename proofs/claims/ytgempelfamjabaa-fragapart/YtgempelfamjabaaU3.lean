
/-
  Package udp: isSummed, Decode.
-/
import Derived.Test.YtgempelfamjabaaU2
namespace Go.Proofs.Ytgempelfamjabaa
open Go.RowKit Go.Shelf

theorem drop_addr {g off c k : Nat} : (if c = k then some (⟨g, off, none⟩ : Addr) else Option.map (fun x : Addr => x.add k) (some ⟨g, off, none⟩)) = (if c = k then some ⟨g, off, none⟩ else some ⟨g, off + k, none⟩) := by
  split
  · rfl
  · rw [Option.map_some, Addr.add_lit]
theorem exec_slLH {o : Oper} {w : World} {ev : Operand → Value} (x y : Operand) (g off n c k m : Nat) (kI : Int) (hk : (k : Int) = kI) (ad : Option Addr) (had : ad = if c = k then some (⟨g, off, none⟩ : Addr) else some ⟨g, off + k, none⟩) (ho : o.op = .slice 24 x (some (.const (.int .i64 kI))) (some y) none) (hcs : ∀ v, ev (.const v) = v) (hx : ev x = .slice (some ⟨g, off, none⟩) n c) (hy : ev y = .int .i64 (m : Int)) (h1 : k ≤ m) (h2 : m ≤ c) : (execOp ev o).run Try.prog w = .ok (.value (.slice ad (m - k) (c - k))) w := by
  subst hk
  have h3 : (k : Int) ≤ m := by omega
  have h4 : (m : Int) ≤ c := by omega
  rw [had]
  unfold execOp
  simp [ho, hx, hy, hcs, go_sem, h3, h4]
/-- has it a right sum, or none? -/
def uSm (x y : I4) (b : List Int) : Bool := decide (w16 b 6 = 0) || decide (csum (psB x y 17 (b.length : Int) ++ b) = 0)
/-- what Decode answers -/
def udE (x y : I4) (bs : List Int) : Int :=
  if bs.length < 8 then 3 else
  if w16 bs 4 < 8 ∨ (bs.length : Int) < w16 bs 4 then 4 else
  if uSm x y (bs.take (w16 bs 4).toNat) = false then 5 else
  if prt (w16 bs 0) = false ∨ prt (w16 bs 2) = false then 1 else 0
def udF (x y : I4) (bs : List Int) : Int := if udE x y bs = 0 then w16 bs 0 else 0
def udT (x y : I4) (bs : List Int) : Int := if udE x y bs = 0 then w16 bs 2 else 0
def udD (x y : I4) (bs : List Int) : List Int := if udE x y bs = 0 then (bs.take (w16 bs 4).toNat).drop 8 else []
end Go.Proofs.Ytgempelfamjabaa
