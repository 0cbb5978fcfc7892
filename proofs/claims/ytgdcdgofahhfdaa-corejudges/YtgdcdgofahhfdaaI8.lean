
/-
  Package ip4: the contract of join.
-/
import Derived.Test.YtgdcdgofahhfdaaI7
namespace Go.Proofs.Ytgdcdgofahhfdaa
open Go.RowKit Go.Shelf

end Go.Proofs.Ytgdcdgofahhfdaa
