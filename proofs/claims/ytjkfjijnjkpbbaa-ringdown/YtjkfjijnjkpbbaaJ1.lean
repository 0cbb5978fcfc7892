
/-
  The example's states, reckoned.
-/
import Derived.Test.YtjkfjijnjkpbbaaJ0
namespace Go.Proofs.Ytjkfjijnjkpbbaa
open Go.RowKit

/-- the example: a ring over twenty buffers; one is taken, says x, is sent, is let go; the device takes and gives -/
def aD0 : Dev := (bg0 20).D
def aB0 : Nat → Buf := (bg0 20).B
def aB1 : Nat → Buf := upd aB0 15 ⟨1, [], []⟩
def aB2 : Nat → Buf := stB 20 aB1 15 [120]
def aD3 : Dev := sdD 20 aD0 aB2 sd0 15
def aB3 : Nat → Buf := sdB 20 aD0 aB2 sd0 15
def aS3 : Sd := sdS 20 aD0 aB2 sd0 15
def aB4 : Nat → Buf := frB 20 aB3 15
def aD5 : Dev := aD3.tkD
def aD6 : Dev := aD5.gvD [121] false
def aX : Rg := ⟨aD6, aB4, aS3, (bg0 20).c⟩

theorem a_left : lft aB0 20 = 5 := by decide +kernel
theorem a_c : (bg0 20).c.ids.length = 15 := by decide +kernel
theorem a_get : gt 20 aB0 = some 15 := by decide +kernel
theorem a_set : stE 20 aB1 15 [120] = 0 := by decide +kernel
theorem a_send : sdE 20 aD0 aB2 sd0 15 = 0 := by decide +kernel
theorem a_free : hoE 20 aB3 15 = 0 := by decide +kernel
theorem a_see : hoE 20 aB4 15 = 0 ∧ (seX 20 aB4 15).refs = 1 := by decide +kernel
theorem a_take : aD3.tkE = 0 ∧ aD3.tkF = [120] := by decide +kernel
theorem a_give : aD5.gvE [121] = 0 := by decide +kernel
theorem a_up : aX.D.r 6 / 4 % 2 = 0 := by decide +kernel
theorem a_got : aX.got = 1 ∧ aX.sent = 1 := by decide +kernel
theorem a_rx : (aX.D.rdD 6).rxE (((aX.c.first + 0) % 16 : Nat) : Int) = 0 := by decide +kernel
theorem a_h3 : aX.D.r 3 = (aX.c.nx : Int) := by decide +kernel
theorem a_sp : span aX.c.first (aX.D.r 2).toNat ≤ aX.c.ids.length := by decide +kernel
theorem a_come : aX.come = [(0, false)] := by decide +kernel
theorem a_see2 : hoE 20 (aX.polled 20).B 0 = 0 ∧ (seX 20 (aX.polled 20).B 0).data = [121] := by decide +kernel
theorem a_end : (aX.polled 20).s.ids.length = 0 ∧ (aX.polled 20).c.ids.length = 15 := by decide +kernel
end Go.Proofs.Ytjkfjijnjkpbbaa
