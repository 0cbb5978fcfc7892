
/-
  Package ip4: the contract of join.
-/
import Derived.Test.YtgempelfamjabaaI7
namespace Go.Proofs.Ytgempelfamjabaa
open Go.RowKit Go.Shelf

end Go.Proofs.Ytgempelfamjabaa
