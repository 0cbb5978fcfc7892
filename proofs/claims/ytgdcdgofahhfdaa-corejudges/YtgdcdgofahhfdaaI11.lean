
/-
  Package ip4: the contracts of sizes, of bytes.Clone.
-/
import Derived.Test.YtgdcdgofahhfdaaI9
namespace Go.Proofs.Ytgdcdgofahhfdaa
open Go.RowKit Go.Shelf

/-- a byte, a word -/
def nb (bs : List Int) (k : Nat) : Int := bs[k]?.getD 0
def w16 (bs : List Int) (k : Nat) : Int := 256 * nb bs k + nb bs (k + 1)
theorem rd16_at {bs : List Int} {k : Nat} (h : k + 2 ≤ bs.length) : rd16 bs (k : Int) = w16 bs k := by
  unfold rd16
  rw [if_pos (by simp [stB]; omega), Int.toNat_natCast]
  rfl
theorem nb_bd {bs : List Int} (h : Bytes bs) (k : Nat) : 0 ≤ nb bs k ∧ nb bs k ≤ 255 := h.getD k
theorem w16_bd {bs : List Int} (h : Bytes bs) (k : Nat) : 0 ≤ w16 bs k ∧ w16 bs k ≤ 65535 := by
  have h1 := nb_bd h k
  have h2 := nb_bd h (k + 1)
  unfold w16
  omega
/-- the head's length, the whole one -/
def hsI (bs : List Int) : Int := nb bs 0 % 16 * 4
def szI (bs : List Int) : Int := w16 bs 2
section
variable {o : Oper} {w : World} {ev : Operand → Value}
theorem exec_and15 (x : Operand) (t : TypeId) (n : Int) (ho : o.op = .binOp .and 5 x (.const (.int .u8 15)) t) (hc : ∀ v, ev (.const v) = v) (hx : ev x = .int .u8 n) (h0 : 0 ≤ n) (h1 : n ≤ 255) : (execOp ev o).run Try.prog w = .ok (.value (.int .u8 (n % 16))) w := by
  have e := u8_and15 n h0 h1
  unfold execOp
  simp [ho, hx, hc, go_sem, e]
theorem exec_cvti (x : Operand) (n : Int) (ho : o.op = .convert 5 3 x) (hx : ev x = .int .u8 n) (h0 : 0 ≤ n) (h1 : n ≤ 255) : (execOp ev o).run Try.prog w = .ok (.value (.int .i64 n)) w := by
  have e : IntKind.i64.wrap n = n := wrapI n (by omega) (by omega)
  unfold execOp
  simp [ho, hx, go_sem, e]
theorem exec_mulc (x : Operand) (t : TypeId) (c n : Int) (ho : o.op = .binOp .mul 3 x (.const (.int .i64 c)) t) (hc : ∀ v, ev (.const v) = v) (hx : ev x = .int .i64 n) (h0 : -9223372036854775808 ≤ n * c) (h1 : n * c ≤ 9223372036854775807) : (execOp ev o).run Try.prog w = .ok (.value (.int .i64 (n * c))) w := by
  have e : IntKind.i64.wrap (n * c) = n * c := wrapI _ h0 h1
  unfold execOp
  simp [ho, hx, hc, go_sem, e]
theorem exec_ixC (x : Operand) (c : Int) (g off n cap k : Nat) (hk : (k : Int) = c) (ho : o.op = .indexAddr 26 x (.const (.int .i64 c))) (hc : ∀ v, ev (.const v) = v) (hx : ev x = .slice (some ⟨g, off, none⟩) n cap) (hl : k < n) : (execOp ev o).run Try.prog w = .ok (.value (.pointer (some ⟨g, off + k, none⟩))) w := by
  subst hk
  exact exec_ixU x _ g off n cap k ho hx (hc _) hl
end
end Go.Proofs.Ytgdcdgofahhfdaa
