/-
  No cell of these rows narrows 'for every input' (looked for: loops, veiled, ifaces, maps, wideKeys, modest, calm, conditions, laid).
  DERIVED. THE GIVEN ROWS OF THIS SEAT. 5 by the template 'for every input the law returns true; each argument reads behind the call as it read before'; 0 by the template 'total and deterministic' (their statements: YtdcpnjlldocdcaaTotals.lean).
  GIVEN WITH THE SEED: the statements are not yours to turn. If you find one false, say at which input.
  Laid BY PROGRAM, IN A SANDBOX (cutbox-rows.mjs): the forced cells as the released guide's own fill.sh prints them over the translation 91e8211b8354b316… (all of the seat's roots in one cut). By AI agents, Wed Nov 11 2026. No macro, syntax, notation, axiom, sorry.
-/
import Derived.Test.YtdcpnjlldocdcaaChecked
import GoSem.Claim
import GoSem.ClaimJoined
import GoSem.ClaimMapViews
import Derived.JoinedTies
import Derived.KernelRfl
namespace Go.Proofs.Ytdcpnjlldocdcaa
/- THE CELL 'sum', in the pinned program and in every row, IS THE sha256 OF THE DUMP (.gsa) THAT YtdcpnjlldocdcaaProg.lean LOADS. Nothing in Lean hashes anything: it is a label: what it is worth is what the hold of that sum in a sandbox is worth. -/
noncomputable def Try.pinned : Pinned := { name := "ytdcpnjlldocdcaa", sum := "91e8211b8354b3166e3b0a6274a71bf8e93a55eeffd93a7bccefd92cb0355cab", checked := Try.checked }
namespace Rows
def none {H : Type} : Left H := { results := [], args := [] }

/-- 'packhorselaw08.ArpForms': WHATEVER THE INPUT: true; the input reads as it did. -/
def arpFormsSpec : ChangeSpec := { name := "arpForms", fn := fun _ => fun
  | [d1, d2] => { results := [.lit (.bool true)], args := [d1, d2] }
  | _ => none }
def arpFormsRow : OpenClaim := { program := "ytdcpnjlldocdcaa", sum := "91e8211b8354b3166e3b0a6274a71bf8e93a55eeffd93a7bccefd92cb0355cab", func := "packhorse/packhorselaw08.ArpForms", spec := "arpForms", unfollowed := true, recurses := true, apart := false }
def ArpFormsSaid : Prop := arpFormsRow.holds Try.pinned (OpenSpec.ofChange arpFormsSpec)

/-- ITS FALSE NEIGHBOUR: 'it returns false'. Refute it at one input. -/
def arpFormsWrong : ChangeSpec := { name := "arpForms", fn := fun _ => fun
  | [d1, d2] => { results := [.lit (.bool false)], args := [d1, d2] }
  | _ => none }
def ArpFormsWrongFalsely : Prop := arpFormsRow.holds Try.pinned (OpenSpec.ofChange arpFormsWrong)

/-- 'packhorselaw08.ArpDoes': WHATEVER THE INPUT: true; the input reads as it did. -/
def arpDoesSpec : ChangeSpec := { name := "arpDoes", fn := fun _ => fun
  | [d1, d2] => { results := [.lit (.bool true)], args := [d1, d2] }
  | _ => none }
def arpDoesRow : OpenClaim := { program := "ytdcpnjlldocdcaa", sum := "91e8211b8354b3166e3b0a6274a71bf8e93a55eeffd93a7bccefd92cb0355cab", func := "packhorse/packhorselaw08.ArpDoes", spec := "arpDoes", unfollowed := true, recurses := true, apart := false }
def ArpDoesSaid : Prop := arpDoesRow.holds Try.pinned (OpenSpec.ofChange arpDoesSpec)

/-- ITS FALSE NEIGHBOUR: 'it returns false'. Refute it at one input. -/
def arpDoesWrong : ChangeSpec := { name := "arpDoes", fn := fun _ => fun
  | [d1, d2] => { results := [.lit (.bool false)], args := [d1, d2] }
  | _ => none }
def ArpDoesWrongFalsely : Prop := arpDoesRow.holds Try.pinned (OpenSpec.ofChange arpDoesWrong)

/-- 'packhorselaw08.ArpOnce': WHATEVER THE INPUT: true; the input reads as it did. -/
def arpOnceSpec : ChangeSpec := { name := "arpOnce", fn := fun _ => fun
  | [d] => { results := [.lit (.bool true)], args := [d] }
  | _ => none }
def arpOnceRow : OpenClaim := { program := "ytdcpnjlldocdcaa", sum := "91e8211b8354b3166e3b0a6274a71bf8e93a55eeffd93a7bccefd92cb0355cab", func := "packhorse/packhorselaw08.ArpOnce", spec := "arpOnce", unfollowed := true, recurses := true, apart := false }
def ArpOnceSaid : Prop := arpOnceRow.holds Try.pinned (OpenSpec.ofChange arpOnceSpec)

/-- ITS FALSE NEIGHBOUR: 'it returns false'. Refute it at one input. -/
def arpOnceWrong : ChangeSpec := { name := "arpOnce", fn := fun _ => fun
  | [d] => { results := [.lit (.bool false)], args := [d] }
  | _ => none }
def ArpOnceWrongFalsely : Prop := arpOnceRow.holds Try.pinned (OpenSpec.ofChange arpOnceWrong)

/-- 'packhorselaw08.ArpLearns': WHATEVER THE INPUT: true; the input reads as it did. -/
def arpLearnsSpec : ChangeSpec := { name := "arpLearns", fn := fun _ => fun
  | [d] => { results := [.lit (.bool true)], args := [d] }
  | _ => none }
def arpLearnsRow : OpenClaim := { program := "ytdcpnjlldocdcaa", sum := "91e8211b8354b3166e3b0a6274a71bf8e93a55eeffd93a7bccefd92cb0355cab", func := "packhorse/packhorselaw08.ArpLearns", spec := "arpLearns", unfollowed := true, recurses := true, apart := false }
def ArpLearnsSaid : Prop := arpLearnsRow.holds Try.pinned (OpenSpec.ofChange arpLearnsSpec)

/-- ITS FALSE NEIGHBOUR: 'it returns false'. Refute it at one input. -/
def arpLearnsWrong : ChangeSpec := { name := "arpLearns", fn := fun _ => fun
  | [d] => { results := [.lit (.bool false)], args := [d] }
  | _ => none }
def ArpLearnsWrongFalsely : Prop := arpLearnsRow.holds Try.pinned (OpenSpec.ofChange arpLearnsWrong)

/-- 'packhorselaw08.ArpAges': WHATEVER THE INPUT: true; the input reads as it did. -/
def arpAgesSpec : ChangeSpec := { name := "arpAges", fn := fun _ => fun
  | [d1, d2, d3] => { results := [.lit (.bool true)], args := [d1, d2, d3] }
  | _ => none }
def arpAgesRow : OpenClaim := { program := "ytdcpnjlldocdcaa", sum := "91e8211b8354b3166e3b0a6274a71bf8e93a55eeffd93a7bccefd92cb0355cab", func := "packhorse/packhorselaw08.ArpAges", spec := "arpAges", unfollowed := true, recurses := true, apart := false }
def ArpAgesSaid : Prop := arpAgesRow.holds Try.pinned (OpenSpec.ofChange arpAgesSpec)

/-- ITS FALSE NEIGHBOUR: 'it returns false'. Refute it at one input. -/
def arpAgesWrong : ChangeSpec := { name := "arpAges", fn := fun _ => fun
  | [d1, d2, d3] => { results := [.lit (.bool false)], args := [d1, d2, d3] }
  | _ => none }
def ArpAgesWrongFalsely : Prop := arpAgesRow.holds Try.pinned (OpenSpec.ofChange arpAgesWrong)

/- THE SECOND FORM. 'bulk': how many values and letters a reading holds, each counted each time it is reached (what is shared counts as often as it is met; a slice's spare places count too). A statement '..UptoSaid' is the law's where the arguments, and the package variables that the reading takes, are together of bulk at most 1048576: NARROWER than '..Said'. Prove '..Said' where nothing that the law and all that it calls make is longer than what came in: it says more and counts as full. Else prove '..UptoSaid'. A law counts once. -/
mutual
def uptoBulk {H : Type} : DataW H → Nat
  | .lit (.string bytes) => bytes.length + 1
  | .lit _ => 1
  | .nil => 1
  | .ptr d => uptoBulk d + 1
  | .slice elems spare => uptoBulkAll elems + uptoBulkAll spare + 1
  | .agg parts => uptoBulkAll parts + 1
  | .iface _ d => uptoBulk d + 1
  | .map entries => uptoBulkEntries entries + 1
  | .held _ => 1
def uptoBulkAll {H : Type} : List (DataW H) → Nat
  | [] => 0
  | d :: r => uptoBulk d + uptoBulkAll r
def uptoBulkEntries {H : Type} : List (Lit × DataW H) → Nat
  | [] => 0
  | x :: r => uptoBulkEntry x + uptoBulkEntries r
def uptoBulkEntry {H : Type} : Lit × DataW H → Nat
  | (.string bytes, d) => bytes.length + uptoBulk d + 1
  | (_, d) => uptoBulk d + 1
 end
def uptoSmall : (H : Type) → List (DataW H) → Bool := fun _ ds => decide (uptoBulkAll ds ≤ 1048576)
def OpenSpec.upto (s : _root_.Go.ChangeSpec) : _root_.Go.OpenSpec := { _root_.Go.OpenSpec.ofChange s with cond := some uptoSmall }

/-- 'packhorselaw08.ArpForms', WHERE WHAT IT READS IS OF BULK AT MOST 1048576: true; the input reads as it did. -/
def arpFormsUptoRow : OpenClaim := { program := "ytdcpnjlldocdcaa", sum := "91e8211b8354b3166e3b0a6274a71bf8e93a55eeffd93a7bccefd92cb0355cab", func := "packhorse/packhorselaw08.ArpForms", spec := "arpForms", unfollowed := true, recurses := true, apart := false, narrowed := true }
def ArpFormsUptoSaid : Prop := arpFormsUptoRow.holds Try.pinned (OpenSpec.upto arpFormsSpec)

/-- 'packhorselaw08.ArpDoes', WHERE WHAT IT READS IS OF BULK AT MOST 1048576: true; the input reads as it did. -/
def arpDoesUptoRow : OpenClaim := { program := "ytdcpnjlldocdcaa", sum := "91e8211b8354b3166e3b0a6274a71bf8e93a55eeffd93a7bccefd92cb0355cab", func := "packhorse/packhorselaw08.ArpDoes", spec := "arpDoes", unfollowed := true, recurses := true, apart := false, narrowed := true }
def ArpDoesUptoSaid : Prop := arpDoesUptoRow.holds Try.pinned (OpenSpec.upto arpDoesSpec)

/-- 'packhorselaw08.ArpOnce', WHERE WHAT IT READS IS OF BULK AT MOST 1048576: true; the input reads as it did. -/
def arpOnceUptoRow : OpenClaim := { program := "ytdcpnjlldocdcaa", sum := "91e8211b8354b3166e3b0a6274a71bf8e93a55eeffd93a7bccefd92cb0355cab", func := "packhorse/packhorselaw08.ArpOnce", spec := "arpOnce", unfollowed := true, recurses := true, apart := false, narrowed := true }
def ArpOnceUptoSaid : Prop := arpOnceUptoRow.holds Try.pinned (OpenSpec.upto arpOnceSpec)

/-- 'packhorselaw08.ArpLearns', WHERE WHAT IT READS IS OF BULK AT MOST 1048576: true; the input reads as it did. -/
def arpLearnsUptoRow : OpenClaim := { program := "ytdcpnjlldocdcaa", sum := "91e8211b8354b3166e3b0a6274a71bf8e93a55eeffd93a7bccefd92cb0355cab", func := "packhorse/packhorselaw08.ArpLearns", spec := "arpLearns", unfollowed := true, recurses := true, apart := false, narrowed := true }
def ArpLearnsUptoSaid : Prop := arpLearnsUptoRow.holds Try.pinned (OpenSpec.upto arpLearnsSpec)

/-- 'packhorselaw08.ArpAges', WHERE WHAT IT READS IS OF BULK AT MOST 1048576: true; the input reads as it did. -/
def arpAgesUptoRow : OpenClaim := { program := "ytdcpnjlldocdcaa", sum := "91e8211b8354b3166e3b0a6274a71bf8e93a55eeffd93a7bccefd92cb0355cab", func := "packhorse/packhorselaw08.ArpAges", spec := "arpAges", unfollowed := true, recurses := true, apart := false, narrowed := true }
def ArpAgesUptoSaid : Prop := arpAgesUptoRow.holds Try.pinned (OpenSpec.upto arpAgesSpec)

end Rows
end Go.Proofs.Ytdcpnjlldocdcaa
