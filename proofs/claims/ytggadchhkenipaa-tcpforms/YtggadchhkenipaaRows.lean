/-
  No cell of these rows narrows 'for every input' (looked for: loops, veiled, ifaces, maps, wideKeys, modest, calm, conditions, laid).
  DERIVED. THE GIVEN ROWS OF THIS SEAT. 6 by the template 'for every input the law returns true; each argument reads behind the call as it read before'; 0 by the template 'total and deterministic' (their statements: YtggadchhkenipaaTotals.lean).
  GIVEN WITH THE SEED: the statements are not yours to turn. If you find one false, say at which input.
  Laid BY PROGRAM, IN A SANDBOX (cutbox-rows.mjs): the forced cells as the released guide's own fill.sh prints them over the translation e87f3b5f6ac98a5b… (all of the seat's roots in one cut). By AI agents, Wed Nov 11 2026. No macro, syntax, notation, axiom, sorry.
-/
import Derived.Test.YtggadchhkenipaaChecked
import GoSem.Claim
import GoSem.ClaimJoined
import GoSem.ClaimMapViews
import Derived.JoinedTies
import Derived.KernelRfl
namespace Go.Proofs.Ytggadchhkenipaa
/- THE CELL 'sum', in the pinned program and in every row, IS THE sha256 OF THE DUMP (.gsa) THAT YtggadchhkenipaaProg.lean LOADS. Nothing in Lean hashes anything: it is a label: what it is worth is what the hold of that sum in a sandbox is worth. -/
noncomputable def Try.pinned : Pinned := { name := "ytggadchhkenipaa", sum := "e87f3b5f6ac98a5b96b416008e868614309b7bccae08911d18c10097701ad24d", checked := Try.checked }
namespace Rows
def none {H : Type} : Left H := { results := [], args := [] }

/-- 'packhorselaw14.TcpNumbers': WHATEVER THE INPUT: true; the input reads as it did. -/
def tcpNumbersSpec : ChangeSpec := { name := "tcpNumbers", fn := fun _ => fun
  | [d1, d2, d3, d4, d5] => { results := [.lit (.bool true)], args := [d1, d2, d3, d4, d5] }
  | _ => none }
def tcpNumbersRow : OpenClaim := { program := "ytggadchhkenipaa", sum := "e87f3b5f6ac98a5b96b416008e868614309b7bccae08911d18c10097701ad24d", func := "packhorse/packhorselaw14.TcpNumbers", spec := "tcpNumbers", unfollowed := true, recurses := true, apart := false }
def TcpNumbersSaid : Prop := tcpNumbersRow.holds Try.pinned (OpenSpec.ofChange tcpNumbersSpec)

/-- ITS FALSE NEIGHBOUR: 'it returns false'. Refute it at one input. -/
def tcpNumbersWrong : ChangeSpec := { name := "tcpNumbers", fn := fun _ => fun
  | [d1, d2, d3, d4, d5] => { results := [.lit (.bool false)], args := [d1, d2, d3, d4, d5] }
  | _ => none }
def TcpNumbersWrongFalsely : Prop := tcpNumbersRow.holds Try.pinned (OpenSpec.ofChange tcpNumbersWrong)

/-- 'packhorselaw14.TcpOrder': WHATEVER THE INPUT: true; the input reads as it did. -/
def tcpOrderSpec : ChangeSpec := { name := "tcpOrder", fn := fun _ => fun
  | [d1, d2, d3] => { results := [.lit (.bool true)], args := [d1, d2, d3] }
  | _ => none }
def tcpOrderRow : OpenClaim := { program := "ytggadchhkenipaa", sum := "e87f3b5f6ac98a5b96b416008e868614309b7bccae08911d18c10097701ad24d", func := "packhorse/packhorselaw14.TcpOrder", spec := "tcpOrder", unfollowed := true, recurses := true, apart := false }
def TcpOrderSaid : Prop := tcpOrderRow.holds Try.pinned (OpenSpec.ofChange tcpOrderSpec)

/-- ITS FALSE NEIGHBOUR: 'it returns false'. Refute it at one input. -/
def tcpOrderWrong : ChangeSpec := { name := "tcpOrder", fn := fun _ => fun
  | [d1, d2, d3] => { results := [.lit (.bool false)], args := [d1, d2, d3] }
  | _ => none }
def TcpOrderWrongFalsely : Prop := tcpOrderRow.holds Try.pinned (OpenSpec.ofChange tcpOrderWrong)

/-- 'packhorselaw14.TcpForms': WHATEVER THE INPUT: true; the input reads as it did. -/
def tcpFormsSpec : ChangeSpec := { name := "tcpForms", fn := fun _ => fun
  | [d1, d2, d3, d4] => { results := [.lit (.bool true)], args := [d1, d2, d3, d4] }
  | _ => none }
def tcpFormsRow : OpenClaim := { program := "ytggadchhkenipaa", sum := "e87f3b5f6ac98a5b96b416008e868614309b7bccae08911d18c10097701ad24d", func := "packhorse/packhorselaw14.TcpForms", spec := "tcpForms", unfollowed := true, recurses := true, apart := false }
def TcpFormsSaid : Prop := tcpFormsRow.holds Try.pinned (OpenSpec.ofChange tcpFormsSpec)

/-- ITS FALSE NEIGHBOUR: 'it returns false'. Refute it at one input. -/
def tcpFormsWrong : ChangeSpec := { name := "tcpForms", fn := fun _ => fun
  | [d1, d2, d3, d4] => { results := [.lit (.bool false)], args := [d1, d2, d3, d4] }
  | _ => none }
def TcpFormsWrongFalsely : Prop := tcpFormsRow.holds Try.pinned (OpenSpec.ofChange tcpFormsWrong)

/-- 'packhorselaw14.TcpBack': WHATEVER THE INPUT: true; the input reads as it did. -/
def tcpBackSpec : ChangeSpec := { name := "tcpBack", fn := fun _ => fun
  | [d1, d2, d3, d4] => { results := [.lit (.bool true)], args := [d1, d2, d3, d4] }
  | _ => none }
def tcpBackRow : OpenClaim := { program := "ytggadchhkenipaa", sum := "e87f3b5f6ac98a5b96b416008e868614309b7bccae08911d18c10097701ad24d", func := "packhorse/packhorselaw14.TcpBack", spec := "tcpBack", unfollowed := true, recurses := true, apart := false }
def TcpBackSaid : Prop := tcpBackRow.holds Try.pinned (OpenSpec.ofChange tcpBackSpec)

/-- ITS FALSE NEIGHBOUR: 'it returns false'. Refute it at one input. -/
def tcpBackWrong : ChangeSpec := { name := "tcpBack", fn := fun _ => fun
  | [d1, d2, d3, d4] => { results := [.lit (.bool false)], args := [d1, d2, d3, d4] }
  | _ => none }
def TcpBackWrongFalsely : Prop := tcpBackRow.holds Try.pinned (OpenSpec.ofChange tcpBackWrong)

/-- 'packhorselaw14.TcpResets': WHATEVER THE INPUT: true; the input reads as it did. -/
def tcpResetsSpec : ChangeSpec := { name := "tcpResets", fn := fun _ => fun
  | [d] => { results := [.lit (.bool true)], args := [d] }
  | _ => none }
def tcpResetsRow : OpenClaim := { program := "ytggadchhkenipaa", sum := "e87f3b5f6ac98a5b96b416008e868614309b7bccae08911d18c10097701ad24d", func := "packhorse/packhorselaw14.TcpResets", spec := "tcpResets", unfollowed := true, recurses := true, apart := false }
def TcpResetsSaid : Prop := tcpResetsRow.holds Try.pinned (OpenSpec.ofChange tcpResetsSpec)

/-- ITS FALSE NEIGHBOUR: 'it returns false'. Refute it at one input. -/
def tcpResetsWrong : ChangeSpec := { name := "tcpResets", fn := fun _ => fun
  | [d] => { results := [.lit (.bool false)], args := [d] }
  | _ => none }
def TcpResetsWrongFalsely : Prop := tcpResetsRow.holds Try.pinned (OpenSpec.ofChange tcpResetsWrong)

/-- 'packhorselaw14.TcpFirsts': WHATEVER THE INPUT: true; the input reads as it did. -/
def tcpFirstsSpec : ChangeSpec := { name := "tcpFirsts", fn := fun _ => fun
  | [d1, d2, d3] => { results := [.lit (.bool true)], args := [d1, d2, d3] }
  | _ => none }
def tcpFirstsRow : OpenClaim := { program := "ytggadchhkenipaa", sum := "e87f3b5f6ac98a5b96b416008e868614309b7bccae08911d18c10097701ad24d", func := "packhorse/packhorselaw14.TcpFirsts", spec := "tcpFirsts", unfollowed := true, recurses := true, apart := false }
def TcpFirstsSaid : Prop := tcpFirstsRow.holds Try.pinned (OpenSpec.ofChange tcpFirstsSpec)

/-- ITS FALSE NEIGHBOUR: 'it returns false'. Refute it at one input. -/
def tcpFirstsWrong : ChangeSpec := { name := "tcpFirsts", fn := fun _ => fun
  | [d1, d2, d3] => { results := [.lit (.bool false)], args := [d1, d2, d3] }
  | _ => none }
def TcpFirstsWrongFalsely : Prop := tcpFirstsRow.holds Try.pinned (OpenSpec.ofChange tcpFirstsWrong)

/- THE SECOND FORM. 'bulk': how many values and letters a reading holds, each counted each time it is reached (what is shared counts as often as it is met; a slice's spare places count too). A statement '..UptoSaid' is the law's where the arguments, and the package variables that the reading takes, are together of bulk at most 1048576: NARROWER than '..Said'. Prove '..Said' where nothing that the law and all that it calls make is longer than what came in: it says more and counts as full. Else prove '..UptoSaid'. A law counts once. -/
mutual
def uptoBulk {H : Type} : DataW H → Nat
  | .lit (.string bytes) => bytes.length + 1
  | .lit _ => 1
  | .nil => 1
  | .ptr d => uptoBulk d + 1
  | .slice elems spare => uptoBulkAll elems + uptoBulkAll spare + 1
  | .agg parts => uptoBulkAll parts + 1
  | .iface _ d => uptoBulk d + 1
  | .map entries => uptoBulkEntries entries + 1
  | .held _ => 1
def uptoBulkAll {H : Type} : List (DataW H) → Nat
  | [] => 0
  | d :: r => uptoBulk d + uptoBulkAll r
def uptoBulkEntries {H : Type} : List (Lit × DataW H) → Nat
  | [] => 0
  | x :: r => uptoBulkEntry x + uptoBulkEntries r
def uptoBulkEntry {H : Type} : Lit × DataW H → Nat
  | (.string bytes, d) => bytes.length + uptoBulk d + 1
  | (_, d) => uptoBulk d + 1
 end
def uptoSmall : (H : Type) → List (DataW H) → Bool := fun _ ds => decide (uptoBulkAll ds ≤ 1048576)
def OpenSpec.upto (s : _root_.Go.ChangeSpec) : _root_.Go.OpenSpec := { _root_.Go.OpenSpec.ofChange s with cond := some uptoSmall }

/-- 'packhorselaw14.TcpNumbers', WHERE WHAT IT READS IS OF BULK AT MOST 1048576: true; the input reads as it did. -/
def tcpNumbersUptoRow : OpenClaim := { program := "ytggadchhkenipaa", sum := "e87f3b5f6ac98a5b96b416008e868614309b7bccae08911d18c10097701ad24d", func := "packhorse/packhorselaw14.TcpNumbers", spec := "tcpNumbers", unfollowed := true, recurses := true, apart := false, narrowed := true }
def TcpNumbersUptoSaid : Prop := tcpNumbersUptoRow.holds Try.pinned (OpenSpec.upto tcpNumbersSpec)

/-- 'packhorselaw14.TcpOrder', WHERE WHAT IT READS IS OF BULK AT MOST 1048576: true; the input reads as it did. -/
def tcpOrderUptoRow : OpenClaim := { program := "ytggadchhkenipaa", sum := "e87f3b5f6ac98a5b96b416008e868614309b7bccae08911d18c10097701ad24d", func := "packhorse/packhorselaw14.TcpOrder", spec := "tcpOrder", unfollowed := true, recurses := true, apart := false, narrowed := true }
def TcpOrderUptoSaid : Prop := tcpOrderUptoRow.holds Try.pinned (OpenSpec.upto tcpOrderSpec)

/-- 'packhorselaw14.TcpForms', WHERE WHAT IT READS IS OF BULK AT MOST 1048576: true; the input reads as it did. -/
def tcpFormsUptoRow : OpenClaim := { program := "ytggadchhkenipaa", sum := "e87f3b5f6ac98a5b96b416008e868614309b7bccae08911d18c10097701ad24d", func := "packhorse/packhorselaw14.TcpForms", spec := "tcpForms", unfollowed := true, recurses := true, apart := false, narrowed := true }
def TcpFormsUptoSaid : Prop := tcpFormsUptoRow.holds Try.pinned (OpenSpec.upto tcpFormsSpec)

/-- 'packhorselaw14.TcpBack', WHERE WHAT IT READS IS OF BULK AT MOST 1048576: true; the input reads as it did. -/
def tcpBackUptoRow : OpenClaim := { program := "ytggadchhkenipaa", sum := "e87f3b5f6ac98a5b96b416008e868614309b7bccae08911d18c10097701ad24d", func := "packhorse/packhorselaw14.TcpBack", spec := "tcpBack", unfollowed := true, recurses := true, apart := false, narrowed := true }
def TcpBackUptoSaid : Prop := tcpBackUptoRow.holds Try.pinned (OpenSpec.upto tcpBackSpec)

/-- 'packhorselaw14.TcpResets', WHERE WHAT IT READS IS OF BULK AT MOST 1048576: true; the input reads as it did. -/
def tcpResetsUptoRow : OpenClaim := { program := "ytggadchhkenipaa", sum := "e87f3b5f6ac98a5b96b416008e868614309b7bccae08911d18c10097701ad24d", func := "packhorse/packhorselaw14.TcpResets", spec := "tcpResets", unfollowed := true, recurses := true, apart := false, narrowed := true }
def TcpResetsUptoSaid : Prop := tcpResetsUptoRow.holds Try.pinned (OpenSpec.upto tcpResetsSpec)

/-- 'packhorselaw14.TcpFirsts', WHERE WHAT IT READS IS OF BULK AT MOST 1048576: true; the input reads as it did. -/
def tcpFirstsUptoRow : OpenClaim := { program := "ytggadchhkenipaa", sum := "e87f3b5f6ac98a5b96b416008e868614309b7bccae08911d18c10097701ad24d", func := "packhorse/packhorselaw14.TcpFirsts", spec := "tcpFirsts", unfollowed := true, recurses := true, apart := false, narrowed := true }
def TcpFirstsUptoSaid : Prop := tcpFirstsUptoRow.holds Try.pinned (OpenSpec.upto tcpFirstsSpec)

end Rows
end Go.Proofs.Ytggadchhkenipaa
