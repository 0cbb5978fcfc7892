
/-
  WheelDoes: its walk, joined.
-/
import Derived.Test.YtglbobobifejmaaQDoes
namespace Go.Proofs.Ytglbobobifejmaa
open Go.RowKit

theorem Does_walk (now : Int) (v : Value) (l : List OpW) (W : World) (_ : -9223372036854775808 ≤ now) (_ : now ≤ 9223372036854775807) (hI : IsO W.heap.size W v l) (hl : l.length ≤ 4398046510976) :
    Calls Try.prog 3 #[.int .i64 now, v] W fun e W' => e = .returned (.bool true) ∧ Below W.heap.size W W' := by
  cases h : neBad now
  · exact Does_good now v l W h hI hl
  · exact Does_bad now v W h
end Go.Proofs.Ytglbobobifejmaa
