
/-
  The walk as the row takes it.
-/
import Derived.Test.YtipebfaappangaaE22
import Derived.Test.YtipebfaappangaaERow
namespace Go.Proofs.Ytipebfaappangaa
open Go.RowKit

theorem forms_row (f : Fr) (v : Value) (bs : List Int) (rv : Value) (raw : List Int) (w : World) (_ : f.Ok) (hv : IsF (fun _ => False) w v bs) (_ : Bytes bs) (hl : bs.length ≤ 140737488351232)
    (hr : IsF (fun _ => False) w rv raw) (hR : Bytes raw) (hlr : raw.length ≤ 140737488351232) :
    Calls Try.prog 3 #[f.val, v, rv] w fun e w' => e = .returned (.bool true) ∧ Below w.heap.size w w' := forms_walk f v bs rv raw w hv hl hr hR hlr

end Go.Proofs.Ytipebfaappangaa
