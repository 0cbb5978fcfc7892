/-
  No cell of these rows narrows 'for every input' (looked for: loops, veiled, ifaces, maps, wideKeys, modest, calm, conditions, laid).
  DERIVED. THE GIVEN ROWS OF THIS SEAT. 5 by the template 'for every input the law returns true; each argument reads behind the call as it read before'; 0 by the template 'total and deterministic' (their statements: YtipebfaappangaaTotals.lean).
  GIVEN WITH THE SEED: the statements are not yours to turn. If you find one false, say at which input.
  Laid BY PROGRAM, IN A SANDBOX (cutbox-rows.mjs): the forced cells as the released guide's own fill.sh prints them over the translation 3207ba62ba9aefc4… (all of the seat's roots in one cut). By AI agents, Wed Nov 11 2026. No macro, syntax, notation, axiom, sorry.
-/
import Derived.Test.YtipebfaappangaaChecked
import GoSem.Claim
import GoSem.ClaimJoined
import GoSem.ClaimMapViews
import Derived.JoinedTies
import Derived.KernelRfl
namespace Go.Proofs.Ytipebfaappangaa
/- THE CELL 'sum', in the pinned program and in every row, IS THE sha256 OF THE DUMP (.gsa) THAT YtipebfaappangaaProg.lean LOADS. Nothing in Lean hashes anything: it is a label: what it is worth is what the hold of that sum in a sandbox is worth. -/
noncomputable def Try.pinned : Pinned := { name := "ytipebfaappangaa", sum := "3207ba62ba9aefc47bc7d11b09e9b85792d9dcbb0a14e4b200e6bec2d0807fa2", checked := Try.checked }
namespace Rows
def none {H : Type} : Left H := { results := [], args := [] }

/-- 'packhorselaw07.EtherForms': WHATEVER THE INPUT: true; the input reads as it did. -/
def etherFormsSpec : ChangeSpec := { name := "etherForms", fn := fun _ => fun
  | [d1, d2, d3] => { results := [.lit (.bool true)], args := [d1, d2, d3] }
  | _ => none }
def etherFormsRow : OpenClaim := { program := "ytipebfaappangaa", sum := "3207ba62ba9aefc47bc7d11b09e9b85792d9dcbb0a14e4b200e6bec2d0807fa2", func := "packhorse/packhorselaw07.EtherForms", spec := "etherForms", apart := false }
def EtherFormsSaid : Prop := etherFormsRow.holds Try.pinned (OpenSpec.ofChange etherFormsSpec)

/-- ITS FALSE NEIGHBOUR: 'it returns false'. Refute it at one input. -/
def etherFormsWrong : ChangeSpec := { name := "etherForms", fn := fun _ => fun
  | [d1, d2, d3] => { results := [.lit (.bool false)], args := [d1, d2, d3] }
  | _ => none }
def EtherFormsWrongFalsely : Prop := etherFormsRow.holds Try.pinned (OpenSpec.ofChange etherFormsWrong)

/-- 'packhorselaw07.EtherMine': WHATEVER THE INPUT: true; the input reads as it did. -/
def etherMineSpec : ChangeSpec := { name := "etherMine", fn := fun _ => fun
  | [d1, d2, d3] => { results := [.lit (.bool true)], args := [d1, d2, d3] }
  | _ => none }
def etherMineRow : OpenClaim := { program := "ytipebfaappangaa", sum := "3207ba62ba9aefc47bc7d11b09e9b85792d9dcbb0a14e4b200e6bec2d0807fa2", func := "packhorse/packhorselaw07.EtherMine", spec := "etherMine", apart := false }
def EtherMineSaid : Prop := etherMineRow.holds Try.pinned (OpenSpec.ofChange etherMineSpec)

/-- ITS FALSE NEIGHBOUR: 'it returns false'. Refute it at one input. -/
def etherMineWrong : ChangeSpec := { name := "etherMine", fn := fun _ => fun
  | [d1, d2, d3] => { results := [.lit (.bool false)], args := [d1, d2, d3] }
  | _ => none }
def EtherMineWrongFalsely : Prop := etherMineRow.holds Try.pinned (OpenSpec.ofChange etherMineWrong)

/-- 'packhorselaw07.EtherBack': WHATEVER THE INPUT: true; the input reads as it did. -/
def etherBackSpec : ChangeSpec := { name := "etherBack", fn := fun _ => fun
  | [d1, d2, d3] => { results := [.lit (.bool true)], args := [d1, d2, d3] }
  | _ => none }
def etherBackRow : OpenClaim := { program := "ytipebfaappangaa", sum := "3207ba62ba9aefc47bc7d11b09e9b85792d9dcbb0a14e4b200e6bec2d0807fa2", func := "packhorse/packhorselaw07.EtherBack", spec := "etherBack", apart := false }
def EtherBackSaid : Prop := etherBackRow.holds Try.pinned (OpenSpec.ofChange etherBackSpec)

/-- ITS FALSE NEIGHBOUR: 'it returns false'. Refute it at one input. -/
def etherBackWrong : ChangeSpec := { name := "etherBack", fn := fun _ => fun
  | [d1, d2, d3] => { results := [.lit (.bool false)], args := [d1, d2, d3] }
  | _ => none }
def EtherBackWrongFalsely : Prop := etherBackRow.holds Try.pinned (OpenSpec.ofChange etherBackWrong)

/-- 'packhorselaw07.EtherApart': WHATEVER THE INPUT: true; the input reads as it did. -/
def etherApartSpec : ChangeSpec := { name := "etherApart", fn := fun _ => fun
  | [d1, d2, d3, d4, d5] => { results := [.lit (.bool true)], args := [d1, d2, d3, d4, d5] }
  | _ => none }
def etherApartRow : OpenClaim := { program := "ytipebfaappangaa", sum := "3207ba62ba9aefc47bc7d11b09e9b85792d9dcbb0a14e4b200e6bec2d0807fa2", func := "packhorse/packhorselaw07.EtherApart", spec := "etherApart", apart := false }
def EtherApartSaid : Prop := etherApartRow.holds Try.pinned (OpenSpec.ofChange etherApartSpec)

/-- ITS FALSE NEIGHBOUR: 'it returns false'. Refute it at one input. -/
def etherApartWrong : ChangeSpec := { name := "etherApart", fn := fun _ => fun
  | [d1, d2, d3, d4, d5] => { results := [.lit (.bool false)], args := [d1, d2, d3, d4, d5] }
  | _ => none }
def EtherApartWrongFalsely : Prop := etherApartRow.holds Try.pinned (OpenSpec.ofChange etherApartWrong)

/-- 'packhorselaw07.EtherPads': WHATEVER THE INPUT: true; the input reads as it did. -/
def etherPadsSpec : ChangeSpec := { name := "etherPads", fn := fun _ => fun
  | [d1, d2] => { results := [.lit (.bool true)], args := [d1, d2] }
  | _ => none }
def etherPadsRow : OpenClaim := { program := "ytipebfaappangaa", sum := "3207ba62ba9aefc47bc7d11b09e9b85792d9dcbb0a14e4b200e6bec2d0807fa2", func := "packhorse/packhorselaw07.EtherPads", spec := "etherPads", apart := false }
def EtherPadsSaid : Prop := etherPadsRow.holds Try.pinned (OpenSpec.ofChange etherPadsSpec)

/-- ITS FALSE NEIGHBOUR: 'it returns false'. Refute it at one input. -/
def etherPadsWrong : ChangeSpec := { name := "etherPads", fn := fun _ => fun
  | [d1, d2] => { results := [.lit (.bool false)], args := [d1, d2] }
  | _ => none }
def EtherPadsWrongFalsely : Prop := etherPadsRow.holds Try.pinned (OpenSpec.ofChange etherPadsWrong)

/- THE SECOND FORM. 'bulk': how many values and letters a reading holds, each counted each time it is reached (what is shared counts as often as it is met; a slice's spare places count too). A statement '..UptoSaid' is the law's where the arguments, and the package variables that the reading takes, are together of bulk at most 1048576: NARROWER than '..Said'. Prove '..Said' where nothing that the law and all that it calls make is longer than what came in: it says more and counts as full. Else prove '..UptoSaid'. A law counts once. -/
mutual
def uptoBulk {H : Type} : DataW H → Nat
  | .lit (.string bytes) => bytes.length + 1
  | .lit _ => 1
  | .nil => 1
  | .ptr d => uptoBulk d + 1
  | .slice elems spare => uptoBulkAll elems + uptoBulkAll spare + 1
  | .agg parts => uptoBulkAll parts + 1
  | .iface _ d => uptoBulk d + 1
  | .map entries => uptoBulkEntries entries + 1
  | .held _ => 1
def uptoBulkAll {H : Type} : List (DataW H) → Nat
  | [] => 0
  | d :: r => uptoBulk d + uptoBulkAll r
def uptoBulkEntries {H : Type} : List (Lit × DataW H) → Nat
  | [] => 0
  | x :: r => uptoBulkEntry x + uptoBulkEntries r
def uptoBulkEntry {H : Type} : Lit × DataW H → Nat
  | (.string bytes, d) => bytes.length + uptoBulk d + 1
  | (_, d) => uptoBulk d + 1
 end
def uptoSmall : (H : Type) → List (DataW H) → Bool := fun _ ds => decide (uptoBulkAll ds ≤ 1048576)
def OpenSpec.upto (s : _root_.Go.ChangeSpec) : _root_.Go.OpenSpec := { _root_.Go.OpenSpec.ofChange s with cond := some uptoSmall }

/-- 'packhorselaw07.EtherForms', WHERE WHAT IT READS IS OF BULK AT MOST 1048576: true; the input reads as it did. -/
def etherFormsUptoRow : OpenClaim := { program := "ytipebfaappangaa", sum := "3207ba62ba9aefc47bc7d11b09e9b85792d9dcbb0a14e4b200e6bec2d0807fa2", func := "packhorse/packhorselaw07.EtherForms", spec := "etherForms", apart := false, narrowed := true }
def EtherFormsUptoSaid : Prop := etherFormsUptoRow.holds Try.pinned (OpenSpec.upto etherFormsSpec)

/-- 'packhorselaw07.EtherMine', WHERE WHAT IT READS IS OF BULK AT MOST 1048576: true; the input reads as it did. -/
def etherMineUptoRow : OpenClaim := { program := "ytipebfaappangaa", sum := "3207ba62ba9aefc47bc7d11b09e9b85792d9dcbb0a14e4b200e6bec2d0807fa2", func := "packhorse/packhorselaw07.EtherMine", spec := "etherMine", apart := false, narrowed := true }
def EtherMineUptoSaid : Prop := etherMineUptoRow.holds Try.pinned (OpenSpec.upto etherMineSpec)

/-- 'packhorselaw07.EtherBack', WHERE WHAT IT READS IS OF BULK AT MOST 1048576: true; the input reads as it did. -/
def etherBackUptoRow : OpenClaim := { program := "ytipebfaappangaa", sum := "3207ba62ba9aefc47bc7d11b09e9b85792d9dcbb0a14e4b200e6bec2d0807fa2", func := "packhorse/packhorselaw07.EtherBack", spec := "etherBack", apart := false, narrowed := true }
def EtherBackUptoSaid : Prop := etherBackUptoRow.holds Try.pinned (OpenSpec.upto etherBackSpec)

/-- 'packhorselaw07.EtherApart', WHERE WHAT IT READS IS OF BULK AT MOST 1048576: true; the input reads as it did. -/
def etherApartUptoRow : OpenClaim := { program := "ytipebfaappangaa", sum := "3207ba62ba9aefc47bc7d11b09e9b85792d9dcbb0a14e4b200e6bec2d0807fa2", func := "packhorse/packhorselaw07.EtherApart", spec := "etherApart", apart := false, narrowed := true }
def EtherApartUptoSaid : Prop := etherApartUptoRow.holds Try.pinned (OpenSpec.upto etherApartSpec)

/-- 'packhorselaw07.EtherPads', WHERE WHAT IT READS IS OF BULK AT MOST 1048576: true; the input reads as it did. -/
def etherPadsUptoRow : OpenClaim := { program := "ytipebfaappangaa", sum := "3207ba62ba9aefc47bc7d11b09e9b85792d9dcbb0a14e4b200e6bec2d0807fa2", func := "packhorse/packhorselaw07.EtherPads", spec := "etherPads", apart := false, narrowed := true }
def EtherPadsUptoSaid : Prop := etherPadsUptoRow.holds Try.pinned (OpenSpec.upto etherPadsSpec)

end Rows
end Go.Proofs.Ytipebfaappangaa
