/-
  No cell of these rows narrows 'for every input' (looked for: loops, veiled, ifaces, maps, wideKeys, modest, calm, conditions, laid).
  DERIVED. THE GIVEN ROWS OF THIS SEAT. 5 by the template 'for every input the law returns true; each argument reads behind the call as it read before'; 0 by the template 'total and deterministic' (their statements: YthjeaebpboilpaaTotals.lean).
  GIVEN WITH THE SEED: the statements are not yours to turn. If you find one false, say at which input.
  Laid BY PROGRAM, IN A SANDBOX (cutbox-rows.mjs): the forced cells as the released guide's own fill.sh prints them over the translation d9eb5b30b86b9a24… (all of the seat's roots in one cut). By AI agents, Wed Nov 11 2026. No macro, syntax, notation, axiom, sorry.
-/
import Derived.Test.YthjeaebpboilpaaChecked
import GoSem.Claim
import GoSem.ClaimJoined
import GoSem.ClaimMapViews
import Derived.JoinedTies
import Derived.KernelRfl
namespace Go.Proofs.Ythjeaebpboilpaa
/- THE CELL 'sum', in the pinned program and in every row, IS THE sha256 OF THE DUMP (.gsa) THAT YthjeaebpboilpaaProg.lean LOADS. Nothing in Lean hashes anything: it is a label: what it is worth is what the hold of that sum in a sandbox is worth. -/
noncomputable def Try.pinned : Pinned := { name := "ythjeaebpboilpaa", sum := "d9eb5b30b86b9a246a9f18822dfc5b2abe7335f8f95aa1ee633116cc825081d0", checked := Try.checked }
namespace Rows
def none {H : Type} : Left H := { results := [], args := [] }

/-- 'packhorselaw13.UdpForms': WHATEVER THE INPUT: true; the input reads as it did. -/
def udpFormsSpec : ChangeSpec := { name := "udpForms", fn := fun _ => fun
  | [d1, d2, d3, d4, d5, d6] => { results := [.lit (.bool true)], args := [d1, d2, d3, d4, d5, d6] }
  | _ => none }
def udpFormsRow : OpenClaim := { program := "ythjeaebpboilpaa", sum := "d9eb5b30b86b9a246a9f18822dfc5b2abe7335f8f95aa1ee633116cc825081d0", func := "packhorse/packhorselaw13.UdpForms", spec := "udpForms", unfollowed := true, recurses := true, apart := false }
def UdpFormsSaid : Prop := udpFormsRow.holds Try.pinned (OpenSpec.ofChange udpFormsSpec)

/-- ITS FALSE NEIGHBOUR: 'it returns false'. Refute it at one input. -/
def udpFormsWrong : ChangeSpec := { name := "udpForms", fn := fun _ => fun
  | [d1, d2, d3, d4, d5, d6] => { results := [.lit (.bool false)], args := [d1, d2, d3, d4, d5, d6] }
  | _ => none }
def UdpFormsWrongFalsely : Prop := udpFormsRow.holds Try.pinned (OpenSpec.ofChange udpFormsWrong)

/-- 'packhorselaw13.UdpBack': WHATEVER THE INPUT: true; the input reads as it did. -/
def udpBackSpec : ChangeSpec := { name := "udpBack", fn := fun _ => fun
  | [d1, d2, d3, d4, d5, d6, d7] => { results := [.lit (.bool true)], args := [d1, d2, d3, d4, d5, d6, d7] }
  | _ => none }
def udpBackRow : OpenClaim := { program := "ythjeaebpboilpaa", sum := "d9eb5b30b86b9a246a9f18822dfc5b2abe7335f8f95aa1ee633116cc825081d0", func := "packhorse/packhorselaw13.UdpBack", spec := "udpBack", unfollowed := true, recurses := true, apart := false }
def UdpBackSaid : Prop := udpBackRow.holds Try.pinned (OpenSpec.ofChange udpBackSpec)

/-- ITS FALSE NEIGHBOUR: 'it returns false'. Refute it at one input. -/
def udpBackWrong : ChangeSpec := { name := "udpBack", fn := fun _ => fun
  | [d1, d2, d3, d4, d5, d6, d7] => { results := [.lit (.bool false)], args := [d1, d2, d3, d4, d5, d6, d7] }
  | _ => none }
def UdpBackWrongFalsely : Prop := udpBackRow.holds Try.pinned (OpenSpec.ofChange udpBackWrong)

/-- 'packhorselaw13.UdpPorts': WHATEVER THE INPUT: true; the input reads as it did. -/
def udpPortsSpec : ChangeSpec := { name := "udpPorts", fn := fun _ => fun
  | [d] => { results := [.lit (.bool true)], args := [d] }
  | _ => none }
def udpPortsRow : OpenClaim := { program := "ythjeaebpboilpaa", sum := "d9eb5b30b86b9a246a9f18822dfc5b2abe7335f8f95aa1ee633116cc825081d0", func := "packhorse/packhorselaw13.UdpPorts", spec := "udpPorts", unfollowed := true, recurses := true, apart := false }
def UdpPortsSaid : Prop := udpPortsRow.holds Try.pinned (OpenSpec.ofChange udpPortsSpec)

/-- ITS FALSE NEIGHBOUR: 'it returns false'. Refute it at one input. -/
def udpPortsWrong : ChangeSpec := { name := "udpPorts", fn := fun _ => fun
  | [d] => { results := [.lit (.bool false)], args := [d] }
  | _ => none }
def UdpPortsWrongFalsely : Prop := udpPortsRow.holds Try.pinned (OpenSpec.ofChange udpPortsWrong)

/-- 'packhorselaw13.UdpLines': WHATEVER THE INPUT: true; the input reads as it did. -/
def udpLinesSpec : ChangeSpec := { name := "udpLines", fn := fun _ => fun
  | [d1, d2] => { results := [.lit (.bool true)], args := [d1, d2] }
  | _ => none }
def udpLinesRow : OpenClaim := { program := "ythjeaebpboilpaa", sum := "d9eb5b30b86b9a246a9f18822dfc5b2abe7335f8f95aa1ee633116cc825081d0", func := "packhorse/packhorselaw13.UdpLines", spec := "udpLines", unfollowed := true, recurses := true, apart := false }
def UdpLinesSaid : Prop := udpLinesRow.holds Try.pinned (OpenSpec.ofChange udpLinesSpec)

/-- ITS FALSE NEIGHBOUR: 'it returns false'. Refute it at one input. -/
def udpLinesWrong : ChangeSpec := { name := "udpLines", fn := fun _ => fun
  | [d1, d2] => { results := [.lit (.bool false)], args := [d1, d2] }
  | _ => none }
def UdpLinesWrongFalsely : Prop := udpLinesRow.holds Try.pinned (OpenSpec.ofChange udpLinesWrong)

/-- 'packhorselaw13.UdpFree': WHATEVER THE INPUT: true; the input reads as it did. -/
def udpFreeSpec : ChangeSpec := { name := "udpFree", fn := fun _ => fun
  | [d] => { results := [.lit (.bool true)], args := [d] }
  | _ => none }
def udpFreeRow : OpenClaim := { program := "ythjeaebpboilpaa", sum := "d9eb5b30b86b9a246a9f18822dfc5b2abe7335f8f95aa1ee633116cc825081d0", func := "packhorse/packhorselaw13.UdpFree", spec := "udpFree", unfollowed := true, recurses := true, apart := false }
def UdpFreeSaid : Prop := udpFreeRow.holds Try.pinned (OpenSpec.ofChange udpFreeSpec)

/-- ITS FALSE NEIGHBOUR: 'it returns false'. Refute it at one input. -/
def udpFreeWrong : ChangeSpec := { name := "udpFree", fn := fun _ => fun
  | [d] => { results := [.lit (.bool false)], args := [d] }
  | _ => none }
def UdpFreeWrongFalsely : Prop := udpFreeRow.holds Try.pinned (OpenSpec.ofChange udpFreeWrong)

/- THE SECOND FORM. 'bulk': how many values and letters a reading holds, each counted each time it is reached (what is shared counts as often as it is met; a slice's spare places count too). A statement '..UptoSaid' is the law's where the arguments, and the package variables that the reading takes, are together of bulk at most 1048576: NARROWER than '..Said'. Prove '..Said' where nothing that the law and all that it calls make is longer than what came in: it says more and counts as full. Else prove '..UptoSaid'. A law counts once. -/
mutual
def uptoBulk {H : Type} : DataW H → Nat
  | .lit (.string bytes) => bytes.length + 1
  | .lit _ => 1
  | .nil => 1
  | .ptr d => uptoBulk d + 1
  | .slice elems spare => uptoBulkAll elems + uptoBulkAll spare + 1
  | .agg parts => uptoBulkAll parts + 1
  | .iface _ d => uptoBulk d + 1
  | .map entries => uptoBulkEntries entries + 1
  | .held _ => 1
def uptoBulkAll {H : Type} : List (DataW H) → Nat
  | [] => 0
  | d :: r => uptoBulk d + uptoBulkAll r
def uptoBulkEntries {H : Type} : List (Lit × DataW H) → Nat
  | [] => 0
  | x :: r => uptoBulkEntry x + uptoBulkEntries r
def uptoBulkEntry {H : Type} : Lit × DataW H → Nat
  | (.string bytes, d) => bytes.length + uptoBulk d + 1
  | (_, d) => uptoBulk d + 1
 end
def uptoSmall : (H : Type) → List (DataW H) → Bool := fun _ ds => decide (uptoBulkAll ds ≤ 1048576)
def OpenSpec.upto (s : _root_.Go.ChangeSpec) : _root_.Go.OpenSpec := { _root_.Go.OpenSpec.ofChange s with cond := some uptoSmall }

/-- 'packhorselaw13.UdpForms', WHERE WHAT IT READS IS OF BULK AT MOST 1048576: true; the input reads as it did. -/
def udpFormsUptoRow : OpenClaim := { program := "ythjeaebpboilpaa", sum := "d9eb5b30b86b9a246a9f18822dfc5b2abe7335f8f95aa1ee633116cc825081d0", func := "packhorse/packhorselaw13.UdpForms", spec := "udpForms", unfollowed := true, recurses := true, apart := false, narrowed := true }
def UdpFormsUptoSaid : Prop := udpFormsUptoRow.holds Try.pinned (OpenSpec.upto udpFormsSpec)

/-- 'packhorselaw13.UdpBack', WHERE WHAT IT READS IS OF BULK AT MOST 1048576: true; the input reads as it did. -/
def udpBackUptoRow : OpenClaim := { program := "ythjeaebpboilpaa", sum := "d9eb5b30b86b9a246a9f18822dfc5b2abe7335f8f95aa1ee633116cc825081d0", func := "packhorse/packhorselaw13.UdpBack", spec := "udpBack", unfollowed := true, recurses := true, apart := false, narrowed := true }
def UdpBackUptoSaid : Prop := udpBackUptoRow.holds Try.pinned (OpenSpec.upto udpBackSpec)

/-- 'packhorselaw13.UdpPorts', WHERE WHAT IT READS IS OF BULK AT MOST 1048576: true; the input reads as it did. -/
def udpPortsUptoRow : OpenClaim := { program := "ythjeaebpboilpaa", sum := "d9eb5b30b86b9a246a9f18822dfc5b2abe7335f8f95aa1ee633116cc825081d0", func := "packhorse/packhorselaw13.UdpPorts", spec := "udpPorts", unfollowed := true, recurses := true, apart := false, narrowed := true }
def UdpPortsUptoSaid : Prop := udpPortsUptoRow.holds Try.pinned (OpenSpec.upto udpPortsSpec)

/-- 'packhorselaw13.UdpLines', WHERE WHAT IT READS IS OF BULK AT MOST 1048576: true; the input reads as it did. -/
def udpLinesUptoRow : OpenClaim := { program := "ythjeaebpboilpaa", sum := "d9eb5b30b86b9a246a9f18822dfc5b2abe7335f8f95aa1ee633116cc825081d0", func := "packhorse/packhorselaw13.UdpLines", spec := "udpLines", unfollowed := true, recurses := true, apart := false, narrowed := true }
def UdpLinesUptoSaid : Prop := udpLinesUptoRow.holds Try.pinned (OpenSpec.upto udpLinesSpec)

/-- 'packhorselaw13.UdpFree', WHERE WHAT IT READS IS OF BULK AT MOST 1048576: true; the input reads as it did. -/
def udpFreeUptoRow : OpenClaim := { program := "ythjeaebpboilpaa", sum := "d9eb5b30b86b9a246a9f18822dfc5b2abe7335f8f95aa1ee633116cc825081d0", func := "packhorse/packhorselaw13.UdpFree", spec := "udpFree", unfollowed := true, recurses := true, apart := false, narrowed := true }
def UdpFreeUptoSaid : Prop := udpFreeUptoRow.holds Try.pinned (OpenSpec.upto udpFreeSpec)

end Rows
end Go.Proofs.Ythjeaebpboilpaa
