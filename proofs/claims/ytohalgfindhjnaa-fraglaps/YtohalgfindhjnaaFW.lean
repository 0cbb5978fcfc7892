
/-
  FragLaps: the walk over the arguments as they come in.
-/
import Derived.Test.YtohalgfindhjnaaF39
import Derived.Test.YtohalgfindhjnaaFRow
namespace Go.Proofs.Ytohalgfindhjnaa
open Go.RowKit Go.Shelf

theorem laps_row (p : Pk) (ov : Value) (at_ sz_ lap_ : Int) (o : Pk) (uv : Value) (w : World) (hp : IsB w.heap.size w ov p.opts) (kp : p.opts.length ≤ 140737488351232) (_ : -9223372036854775808 ≤ at_) (_ : at_ ≤ 9223372036854775807) (_ : -9223372036854775808 ≤ sz_) (_ : sz_ ≤ 9223372036854775807) (_ : -9223372036854775808 ≤ lap_) (_ : lap_ ≤ 9223372036854775807) (ho : IsB w.heap.size w uv o.opts) (ko : o.opts.length ≤ 140737488351232) :
    Calls Try.prog 8 #[.agg (p.cells ov).toArray, .int .i64 at_, .int .i64 sz_, .int .i64 lap_, .agg (o.cells uv).toArray] w fun e w' => e = .returned (.bool true) ∧ Below w.heap.size w w' :=
  laps_walk p ov at_ sz_ lap_ o uv w (hp.cn (Nat.le_refl _)) (by omega) (ho.cn (Nat.le_refl _)) (by omega)
end Go.Proofs.Ytohalgfindhjnaa
