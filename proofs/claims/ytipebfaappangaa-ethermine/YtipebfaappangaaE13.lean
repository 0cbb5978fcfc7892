
/-
  The walks as the rows take them.
-/
import Derived.Test.YtipebfaappangaaE12
import Derived.Test.YtipebfaappangaaERow
namespace Go.Proofs.Ytipebfaappangaa
open Go.RowKit

theorem mine_row (f : Fr) (own : M6) (vlan : Int) (w : World) (hf : f.Ok) (_ : own.Ok) (_ : -9223372036854775808 ≤ vlan) (_ : vlan ≤ 9223372036854775807) :
    Calls Try.prog 4 #[f.val, own.val, .int .i64 vlan] w fun e w' => e = .returned (.bool true) ∧ Below w.heap.size w w' := mine_walk f own vlan w hf.src.1.1 hf.src.1.2
theorem apart_row (f : Fr) (a b : M6) (v u : Int) (w : World) (hf : f.Ok) (_ : a.Ok) (_ : b.Ok) (_ : -9223372036854775808 ≤ v) (_ : v ≤ 9223372036854775807) (_ : -9223372036854775808 ≤ u) (_ : u ≤ 9223372036854775807) :
    Calls Try.prog 6 #[f.val, a.val, b.val, .int .i64 v, .int .i64 u] w fun e w' => e = .returned (.bool true) ∧ Below w.heap.size w w' := apart_walk f a b v u w hf.src.1.1 hf.src.1.2

end Go.Proofs.Ytipebfaappangaa
