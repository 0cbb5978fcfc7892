
/-
  Package ip4: the contract of join.
-/
import Derived.Test.YtlhkdjockodneaaI7
namespace Go.Proofs.Ytlhkdjockodneaa
open Go.RowKit Go.Shelf

end Go.Proofs.Ytlhkdjockodneaa
