
/-
  Package ip4: the contract of join.
-/
import Derived.Test.YteiendigcaedhaaI7
namespace Go.Proofs.Yteiendigcaedhaa
open Go.RowKit Go.Shelf

end Go.Proofs.Yteiendigcaedhaa
