
/-
  Package ip4: the contract of join.
-/
import Derived.Test.YtohalgfindhjnaaI7
namespace Go.Proofs.Ytohalgfindhjnaa
open Go.RowKit Go.Shelf

end Go.Proofs.Ytohalgfindhjnaa
