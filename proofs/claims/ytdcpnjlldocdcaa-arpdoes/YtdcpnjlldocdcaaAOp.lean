
/-
  A slice of calls that came in.
-/
import Derived.Test.YtdcpnjlldocdcaaA6
namespace Go.Proofs.Ytdcpnjlldocdcaa
open Go.RowKit

/-- a call -/
structure Op8 where
  kind : Int
  ip : Int
  buf : Int
  a : Ar
  wait : Int
instance : Inhabited Op8 := ⟨⟨0, 0, 0, ⟨false, ⟨0, 0, 0, 0, 0, 0⟩, ⟨0, 0, 0, 0⟩, ⟨0, 0, 0, 0, 0, 0⟩, ⟨0, 0, 0, 0⟩⟩, 0⟩⟩
def Op8.cells (o : Op8) : List Value := [.int .i64 o.kind, .int .u8 o.ip, .int .i64 o.buf] ++ (o.a.vals ++ [.int .i64 o.wait])
def B8 (n : Int) : Prop := 0 ≤ n ∧ n ≤ 255
def I4.Ok (x : I4) : Prop := B8 x.a ∧ B8 x.b ∧ B8 x.c ∧ B8 x.d
def M6.Okb (m : M6) : Prop := B8 m.a ∧ B8 m.b ∧ B8 m.c ∧ B8 m.d ∧ B8 m.e ∧ B8 m.f
structure Ar.Ok (a : Ar) : Prop where
  sm : a.sm.Okb
  si : a.si.Ok
  dm : a.dm.Okb
  di : a.di.Ok
structure Op8.Ok (o : Op8) : Prop where
  kind : -9223372036854775808 ≤ o.kind ∧ o.kind ≤ 9223372036854775807
  ip : B8 o.ip
  buf : -9223372036854775808 ≤ o.buf ∧ o.buf ≤ 9223372036854775807
  a : o.a.Ok
  wait : -9223372036854775808 ≤ o.wait ∧ o.wait ≤ 9223372036854775807
/-- THE SLICE VALUE v HOLDS THE CALLS l, all of it below n₀ -/
def IsO (n₀ : Nat) (W : World) (v : Value) (l : List Op8) : Prop :=
  ∃ a cap, v = .slice a l.length cap ∧ (0 < l.length → ∃ g off, a = some ⟨g, off, none⟩ ∧ g < n₀ ∧ ∀ i o, l[i]? = some o → CellsAt W g (off + i * 25) o.cells) ∧ ∀ o ∈ l, o.Ok
theorem IsO.below {n₀ : Nat} {W W' : World} {v : Value} {l : List Op8} (h : IsO n₀ W v l) (hb : Below n₀ W W') : IsO n₀ W' v l := by
  obtain ⟨a, cap, e, hc, hf⟩ := h
  refine ⟨a, cap, e, fun h0 => ?_, hf⟩
  obtain ⟨g, off, e1, hg, hcs⟩ := hc h0
  exact ⟨g, off, e1, hg, fun i o hi j v hv => (hb.cell (p := ⟨g, off + i * 25 + j, none⟩) hg).trans (hcs i o hi j v hv)⟩
end Go.Proofs.Ytdcpnjlldocdcaa
