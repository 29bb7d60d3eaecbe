/-
  No cell of these rows narrows 'for every input' (looked for: loops, veiled, ifaces, maps, wideKeys, modest, calm, conditions, laid).
  DERIVED. THE GIVEN ROWS OF THIS SEAT. 5 by the template 'for every input the law returns true; each argument reads behind the call as it read before'; 0 by the template 'total and deterministic' (their statements: YtlhdnpakafcbkaaGreatTotals.lean).
  GIVEN WITH THE SEED: the statements are not yours to turn. If you find one false, say at which input.
  Laid BY PROGRAM, IN A SANDBOX (cutbox-rows.mjs): the forced cells as the released guide's own fill.sh prints them over the translation f295e57b71bf8587… (all of the seat's roots in one cut). By AI agents, Wed Nov 11 2026. No macro, syntax, notation, axiom, sorry.
-/
import Derived.Test.YtlhdnpakafcbkaaGreatChecked
import GoSem.Claim
import GoSem.ClaimJoined
import GoSem.ClaimMapViews
import Derived.JoinedTies
import Derived.KernelRfl
namespace Go.Proofs.YtlhdnpakafcbkaaGreat
/- THE CELL 'sum', in the pinned program and in every row, IS THE sha256 OF THE DUMP (.gsa) THAT YtlhdnpakafcbkaaGreatProg.lean LOADS. Nothing in Lean hashes anything: it is a label: what it is worth is what the hold of that sum in a sandbox is worth. -/
noncomputable def Tryz.pinned : Pinned := { name := "ytlhdnpakafcbkaagreat", sum := "f295e57b71bf85870905986b20ddbe67be0b22804e659abd512c777c7c4226a4", checked := Tryz.checked }
namespace Rows
def none {H : Type} : Left H := { results := [], args := [] }

/-- 'prunelaw6.NodeTells': WHATEVER THE INPUT: true; the input reads as it did. -/
def nodeTellsSpec : ChangeSpec := { name := "nodeTells", fn := fun _ => fun
  | [d1, d2, d3, d4, d5, d6] => { results := [.lit (.bool true)], args := [d1, d2, d3, d4, d5, d6] }
  | _ => none }
def nodeTellsRow : OpenClaim := { program := "ytlhdnpakafcbkaagreat", sum := "f295e57b71bf85870905986b20ddbe67be0b22804e659abd512c777c7c4226a4", func := "prunewell/prunelaw6.NodeTells", spec := "nodeTells", inPlace := ["slices.overlaps[prunewell/api.Live]", "slices.overlaps[prunewell/api.Tally]"], unfollowed := true, recurses := true, apart := false }
def NodeTellsSaid : Prop := nodeTellsRow.holds Tryz.pinned (OpenSpec.ofChange nodeTellsSpec)

/-- ITS FALSE NEIGHBOUR: 'it returns false'. Refute it at one input. -/
def nodeTellsWrong : ChangeSpec := { name := "nodeTells", fn := fun _ => fun
  | [d1, d2, d3, d4, d5, d6] => { results := [.lit (.bool false)], args := [d1, d2, d3, d4, d5, d6] }
  | _ => none }
def NodeTellsWrongFalsely : Prop := nodeTellsRow.holds Tryz.pinned (OpenSpec.ofChange nodeTellsWrong)

/-- 'prunelaw6.NodeRight': WHATEVER THE INPUT: true; the input reads as it did. -/
def nodeRightSpec : ChangeSpec := { name := "nodeRight", fn := fun _ => fun
  | [d1, d2, d3, d4] => { results := [.lit (.bool true)], args := [d1, d2, d3, d4] }
  | _ => none }
def nodeRightRow : OpenClaim := { program := "ytlhdnpakafcbkaagreat", sum := "f295e57b71bf85870905986b20ddbe67be0b22804e659abd512c777c7c4226a4", func := "prunewell/prunelaw6.NodeRight", spec := "nodeRight", inPlace := ["slices.overlaps[prunewell/api.Live]", "slices.overlaps[prunewell/api.Tally]"], unfollowed := true, recurses := true, apart := false }
def NodeRightSaid : Prop := nodeRightRow.holds Tryz.pinned (OpenSpec.ofChange nodeRightSpec)

/-- ITS FALSE NEIGHBOUR: 'it returns false'. Refute it at one input. -/
def nodeRightWrong : ChangeSpec := { name := "nodeRight", fn := fun _ => fun
  | [d1, d2, d3, d4] => { results := [.lit (.bool false)], args := [d1, d2, d3, d4] }
  | _ => none }
def NodeRightWrongFalsely : Prop := nodeRightRow.holds Tryz.pinned (OpenSpec.ofChange nodeRightWrong)

/-- 'prunelaw6.NodePrunes': WHATEVER THE INPUT: true; the input reads as it did. -/
def nodePrunesSpec : ChangeSpec := { name := "nodePrunes", fn := fun _ => fun
  | [d1, d2] => { results := [.lit (.bool true)], args := [d1, d2] }
  | _ => none }
def nodePrunesRow : OpenClaim := { program := "ytlhdnpakafcbkaagreat", sum := "f295e57b71bf85870905986b20ddbe67be0b22804e659abd512c777c7c4226a4", func := "prunewell/prunelaw6.NodePrunes", spec := "nodePrunes", inPlace := ["slices.overlaps[prunewell/api.Live]", "slices.overlaps[prunewell/api.Tally]"], unfollowed := true, recurses := true, apart := false }
def NodePrunesSaid : Prop := nodePrunesRow.holds Tryz.pinned (OpenSpec.ofChange nodePrunesSpec)

/-- ITS FALSE NEIGHBOUR: 'it returns false'. Refute it at one input. -/
def nodePrunesWrong : ChangeSpec := { name := "nodePrunes", fn := fun _ => fun
  | [d1, d2] => { results := [.lit (.bool false)], args := [d1, d2] }
  | _ => none }
def NodePrunesWrongFalsely : Prop := nodePrunesRow.holds Tryz.pinned (OpenSpec.ofChange nodePrunesWrong)

/-- 'prunelaw6.NodeTwice': WHATEVER THE INPUT: true; the input reads as it did. -/
def nodeTwiceSpec : ChangeSpec := { name := "nodeTwice", fn := fun _ => fun
  | [d1, d2, d3] => { results := [.lit (.bool true)], args := [d1, d2, d3] }
  | _ => none }
def nodeTwiceRow : OpenClaim := { program := "ytlhdnpakafcbkaagreat", sum := "f295e57b71bf85870905986b20ddbe67be0b22804e659abd512c777c7c4226a4", func := "prunewell/prunelaw6.NodeTwice", spec := "nodeTwice", inPlace := ["slices.overlaps[prunewell/api.Live]", "slices.overlaps[prunewell/api.Tally]"], unfollowed := true, recurses := true, apart := false }
def NodeTwiceSaid : Prop := nodeTwiceRow.holds Tryz.pinned (OpenSpec.ofChange nodeTwiceSpec)

/-- ITS FALSE NEIGHBOUR: 'it returns false'. Refute it at one input. -/
def nodeTwiceWrong : ChangeSpec := { name := "nodeTwice", fn := fun _ => fun
  | [d1, d2, d3] => { results := [.lit (.bool false)], args := [d1, d2, d3] }
  | _ => none }
def NodeTwiceWrongFalsely : Prop := nodeTwiceRow.holds Tryz.pinned (OpenSpec.ofChange nodeTwiceWrong)

/-- 'prunelaw6.NodeIssues': WHATEVER THE INPUT: true; the input reads as it did. -/
def nodeIssuesSpec : ChangeSpec := { name := "nodeIssues", fn := fun _ => fun
  | [d1, d2] => { results := [.lit (.bool true)], args := [d1, d2] }
  | _ => none }
def nodeIssuesRow : OpenClaim := { program := "ytlhdnpakafcbkaagreat", sum := "f295e57b71bf85870905986b20ddbe67be0b22804e659abd512c777c7c4226a4", func := "prunewell/prunelaw6.NodeIssues", spec := "nodeIssues", inPlace := ["slices.overlaps[prunewell/api.Live]", "slices.overlaps[prunewell/api.Tally]"], unfollowed := true, recurses := true, apart := false }
def NodeIssuesSaid : Prop := nodeIssuesRow.holds Tryz.pinned (OpenSpec.ofChange nodeIssuesSpec)

/-- ITS FALSE NEIGHBOUR: 'it returns false'. Refute it at one input. -/
def nodeIssuesWrong : ChangeSpec := { name := "nodeIssues", fn := fun _ => fun
  | [d1, d2] => { results := [.lit (.bool false)], args := [d1, d2] }
  | _ => none }
def NodeIssuesWrongFalsely : Prop := nodeIssuesRow.holds Tryz.pinned (OpenSpec.ofChange nodeIssuesWrong)

/- THE SECOND FORM. 'bulk': how many values and letters a reading holds, each counted each time it is reached (what is shared counts as often as it is met; a slice's spare places count too). A statement '..UptoSaid' is the law's where the arguments, and the package variables that the reading takes, are together of bulk at most 1048576: NARROWER than '..Said'. Prove '..Said' where nothing that the law and all that it calls make is longer than what came in: it says more and counts as full. Else prove '..UptoSaid'. A law counts once. -/
mutual
def uptoBulk {H : Type} : DataW H → Nat
  | .lit (.string bytes) => bytes.length + 1
  | .lit _ => 1
  | .nil => 1
  | .ptr d => uptoBulk d + 1
  | .slice elems spare => uptoBulkAll elems + uptoBulkAll spare + 1
  | .agg parts => uptoBulkAll parts + 1
  | .iface _ d => uptoBulk d + 1
  | .map entries => uptoBulkEntries entries + 1
  | .held _ => 1
def uptoBulkAll {H : Type} : List (DataW H) → Nat
  | [] => 0
  | d :: r => uptoBulk d + uptoBulkAll r
def uptoBulkEntries {H : Type} : List (Lit × DataW H) → Nat
  | [] => 0
  | x :: r => uptoBulkEntry x + uptoBulkEntries r
def uptoBulkEntry {H : Type} : Lit × DataW H → Nat
  | (.string bytes, d) => bytes.length + uptoBulk d + 1
  | (_, d) => uptoBulk d + 1
 end
def uptoSmall : (H : Type) → List (DataW H) → Bool := fun _ ds => decide (uptoBulkAll ds ≤ 1048576)
def OpenSpec.upto (s : _root_.Go.ChangeSpec) : _root_.Go.OpenSpec := { _root_.Go.OpenSpec.ofChange s with cond := some uptoSmall }

/-- 'prunelaw6.NodeTells', WHERE WHAT IT READS IS OF BULK AT MOST 1048576: true; the input reads as it did. -/
def nodeTellsUptoRow : OpenClaim := { program := "ytlhdnpakafcbkaagreat", sum := "f295e57b71bf85870905986b20ddbe67be0b22804e659abd512c777c7c4226a4", func := "prunewell/prunelaw6.NodeTells", spec := "nodeTells", inPlace := ["slices.overlaps[prunewell/api.Live]", "slices.overlaps[prunewell/api.Tally]"], unfollowed := true, recurses := true, apart := false, narrowed := true }
def NodeTellsUptoSaid : Prop := nodeTellsUptoRow.holds Tryz.pinned (OpenSpec.upto nodeTellsSpec)

/-- 'prunelaw6.NodeRight', WHERE WHAT IT READS IS OF BULK AT MOST 1048576: true; the input reads as it did. -/
def nodeRightUptoRow : OpenClaim := { program := "ytlhdnpakafcbkaagreat", sum := "f295e57b71bf85870905986b20ddbe67be0b22804e659abd512c777c7c4226a4", func := "prunewell/prunelaw6.NodeRight", spec := "nodeRight", inPlace := ["slices.overlaps[prunewell/api.Live]", "slices.overlaps[prunewell/api.Tally]"], unfollowed := true, recurses := true, apart := false, narrowed := true }
def NodeRightUptoSaid : Prop := nodeRightUptoRow.holds Tryz.pinned (OpenSpec.upto nodeRightSpec)

/-- 'prunelaw6.NodePrunes', WHERE WHAT IT READS IS OF BULK AT MOST 1048576: true; the input reads as it did. -/
def nodePrunesUptoRow : OpenClaim := { program := "ytlhdnpakafcbkaagreat", sum := "f295e57b71bf85870905986b20ddbe67be0b22804e659abd512c777c7c4226a4", func := "prunewell/prunelaw6.NodePrunes", spec := "nodePrunes", inPlace := ["slices.overlaps[prunewell/api.Live]", "slices.overlaps[prunewell/api.Tally]"], unfollowed := true, recurses := true, apart := false, narrowed := true }
def NodePrunesUptoSaid : Prop := nodePrunesUptoRow.holds Tryz.pinned (OpenSpec.upto nodePrunesSpec)

/-- 'prunelaw6.NodeTwice', WHERE WHAT IT READS IS OF BULK AT MOST 1048576: true; the input reads as it did. -/
def nodeTwiceUptoRow : OpenClaim := { program := "ytlhdnpakafcbkaagreat", sum := "f295e57b71bf85870905986b20ddbe67be0b22804e659abd512c777c7c4226a4", func := "prunewell/prunelaw6.NodeTwice", spec := "nodeTwice", inPlace := ["slices.overlaps[prunewell/api.Live]", "slices.overlaps[prunewell/api.Tally]"], unfollowed := true, recurses := true, apart := false, narrowed := true }
def NodeTwiceUptoSaid : Prop := nodeTwiceUptoRow.holds Tryz.pinned (OpenSpec.upto nodeTwiceSpec)

/-- 'prunelaw6.NodeIssues', WHERE WHAT IT READS IS OF BULK AT MOST 1048576: true; the input reads as it did. -/
def nodeIssuesUptoRow : OpenClaim := { program := "ytlhdnpakafcbkaagreat", sum := "f295e57b71bf85870905986b20ddbe67be0b22804e659abd512c777c7c4226a4", func := "prunewell/prunelaw6.NodeIssues", spec := "nodeIssues", inPlace := ["slices.overlaps[prunewell/api.Live]", "slices.overlaps[prunewell/api.Tally]"], unfollowed := true, recurses := true, apart := false, narrowed := true }
def NodeIssuesUptoSaid : Prop := nodeIssuesUptoRow.holds Tryz.pinned (OpenSpec.upto nodeIssuesSpec)

end Rows
end Go.Proofs.YtlhdnpakafcbkaaGreat
