/-
  No cell of these rows narrows 'for every input' (looked for: loops, veiled, ifaces, maps, wideKeys, modest, calm, conditions, laid).
  DERIVED. THE GIVEN ROWS OF THIS SEAT. 3 by the template 'for every input the law returns true; each argument reads behind the call as it read before'; 0 by the template 'total and deterministic' (their statements: YtpompbfikbdneabGreatTotals.lean).
  GIVEN WITH THE SEED: the statements are not yours to turn. If you find one false, say at which input.
  Laid BY PROGRAM, IN A SANDBOX (cutbox-rows.mjs): the forced cells as the released guide's own fill.sh prints them over the translation 53a0f857bf5d19de… (all of the seat's roots in one cut). By AI agents, Wed Nov 11 2026. No macro, syntax, notation, axiom, sorry.
-/
import Derived.Test.YtpompbfikbdneabGreatChecked
import GoSem.Claim
import GoSem.ClaimJoined
import GoSem.ClaimMapViews
import Derived.JoinedTies
import Derived.KernelRfl
namespace Go.Proofs.YtpompbfikbdneabGreat
/- THE CELL 'sum', in the pinned program and in every row, IS THE sha256 OF THE DUMP (.gsa) THAT YtpompbfikbdneabGreatProg.lean LOADS. Nothing in Lean hashes anything: it is a label: what it is worth is what the hold of that sum in a sandbox is worth. -/
noncomputable def Tryz.pinned : Pinned := { name := "ytpompbfikbdneabgreat", sum := "53a0f857bf5d19de4a235aef24a8484507780bef761571a39acb21629855cbf0", checked := Tryz.checked }
namespace Rows
def none {H : Type} : Left H := { results := [], args := [] }

/-- 'prunelaw5.JoinUnion': WHATEVER THE INPUT: true; the input reads as it did. -/
def joinUnionSpec : ChangeSpec := { name := "joinUnion", fn := fun _ => fun
  | [d1, d2, d3, d4] => { results := [.lit (.bool true)], args := [d1, d2, d3, d4] }
  | _ => none }
def joinUnionRow : OpenClaim := { program := "ytpompbfikbdneabgreat", sum := "53a0f857bf5d19de4a235aef24a8484507780bef761571a39acb21629855cbf0", func := "prunewell/prunelaw5.JoinUnion", spec := "joinUnion", inPlace := ["slices.overlaps[prunewell/api.Live]", "slices.overlaps[prunewell/api.Tally]"], unfollowed := true, recurses := true, apart := false }
def JoinUnionSaid : Prop := joinUnionRow.holds Tryz.pinned (OpenSpec.ofChange joinUnionSpec)

/-- ITS FALSE NEIGHBOUR: 'it returns false'. Refute it at one input. -/
def joinUnionWrong : ChangeSpec := { name := "joinUnion", fn := fun _ => fun
  | [d1, d2, d3, d4] => { results := [.lit (.bool false)], args := [d1, d2, d3, d4] }
  | _ => none }
def JoinUnionWrongFalsely : Prop := joinUnionRow.holds Tryz.pinned (OpenSpec.ofChange joinUnionWrong)

/-- 'prunelaw5.JoinLaws': WHATEVER THE INPUT: true; the input reads as it did. -/
def joinLawsSpec : ChangeSpec := { name := "joinLaws", fn := fun _ => fun
  | [d1, d2, d3, d4, d5] => { results := [.lit (.bool true)], args := [d1, d2, d3, d4, d5] }
  | _ => none }
def joinLawsRow : OpenClaim := { program := "ytpompbfikbdneabgreat", sum := "53a0f857bf5d19de4a235aef24a8484507780bef761571a39acb21629855cbf0", func := "prunewell/prunelaw5.JoinLaws", spec := "joinLaws", inPlace := ["slices.overlaps[prunewell/api.Live]", "slices.overlaps[prunewell/api.Tally]"], unfollowed := true, recurses := true, apart := false }
def JoinLawsSaid : Prop := joinLawsRow.holds Tryz.pinned (OpenSpec.ofChange joinLawsSpec)

/-- ITS FALSE NEIGHBOUR: 'it returns false'. Refute it at one input. -/
def joinLawsWrong : ChangeSpec := { name := "joinLaws", fn := fun _ => fun
  | [d1, d2, d3, d4, d5] => { results := [.lit (.bool false)], args := [d1, d2, d3, d4, d5] }
  | _ => none }
def JoinLawsWrongFalsely : Prop := joinLawsRow.holds Tryz.pinned (OpenSpec.ofChange joinLawsWrong)

/-- 'prunelaw5.JoinMore': WHATEVER THE INPUT: true; the input reads as it did. -/
def joinMoreSpec : ChangeSpec := { name := "joinMore", fn := fun _ => fun
  | [d1, d2, d3] => { results := [.lit (.bool true)], args := [d1, d2, d3] }
  | _ => none }
def joinMoreRow : OpenClaim := { program := "ytpompbfikbdneabgreat", sum := "53a0f857bf5d19de4a235aef24a8484507780bef761571a39acb21629855cbf0", func := "prunewell/prunelaw5.JoinMore", spec := "joinMore", inPlace := ["slices.overlaps[prunewell/api.Live]", "slices.overlaps[prunewell/api.Tally]"], unfollowed := true, recurses := true, apart := false }
def JoinMoreSaid : Prop := joinMoreRow.holds Tryz.pinned (OpenSpec.ofChange joinMoreSpec)

/-- ITS FALSE NEIGHBOUR: 'it returns false'. Refute it at one input. -/
def joinMoreWrong : ChangeSpec := { name := "joinMore", fn := fun _ => fun
  | [d1, d2, d3] => { results := [.lit (.bool false)], args := [d1, d2, d3] }
  | _ => none }
def JoinMoreWrongFalsely : Prop := joinMoreRow.holds Tryz.pinned (OpenSpec.ofChange joinMoreWrong)

/- THE SECOND FORM. 'bulk': how many values and letters a reading holds, each counted each time it is reached (what is shared counts as often as it is met; a slice's spare places count too). A statement '..UptoSaid' is the law's where the arguments, and the package variables that the reading takes, are together of bulk at most 1048576: NARROWER than '..Said'. Prove '..Said' where nothing that the law and all that it calls make is longer than what came in: it says more and counts as full. Else prove '..UptoSaid'. A law counts once. -/
mutual
def uptoBulk {H : Type} : DataW H → Nat
  | .lit (.string bytes) => bytes.length + 1
  | .lit _ => 1
  | .nil => 1
  | .ptr d => uptoBulk d + 1
  | .slice elems spare => uptoBulkAll elems + uptoBulkAll spare + 1
  | .agg parts => uptoBulkAll parts + 1
  | .iface _ d => uptoBulk d + 1
  | .map entries => uptoBulkEntries entries + 1
  | .held _ => 1
def uptoBulkAll {H : Type} : List (DataW H) → Nat
  | [] => 0
  | d :: r => uptoBulk d + uptoBulkAll r
def uptoBulkEntries {H : Type} : List (Lit × DataW H) → Nat
  | [] => 0
  | x :: r => uptoBulkEntry x + uptoBulkEntries r
def uptoBulkEntry {H : Type} : Lit × DataW H → Nat
  | (.string bytes, d) => bytes.length + uptoBulk d + 1
  | (_, d) => uptoBulk d + 1
 end
def uptoSmall : (H : Type) → List (DataW H) → Bool := fun _ ds => decide (uptoBulkAll ds ≤ 1048576)
def OpenSpec.upto (s : _root_.Go.ChangeSpec) : _root_.Go.OpenSpec := { _root_.Go.OpenSpec.ofChange s with cond := some uptoSmall }

/-- 'prunelaw5.JoinUnion', WHERE WHAT IT READS IS OF BULK AT MOST 1048576: true; the input reads as it did. -/
def joinUnionUptoRow : OpenClaim := { program := "ytpompbfikbdneabgreat", sum := "53a0f857bf5d19de4a235aef24a8484507780bef761571a39acb21629855cbf0", func := "prunewell/prunelaw5.JoinUnion", spec := "joinUnion", inPlace := ["slices.overlaps[prunewell/api.Live]", "slices.overlaps[prunewell/api.Tally]"], unfollowed := true, recurses := true, apart := false, narrowed := true }
def JoinUnionUptoSaid : Prop := joinUnionUptoRow.holds Tryz.pinned (OpenSpec.upto joinUnionSpec)

/-- 'prunelaw5.JoinLaws', WHERE WHAT IT READS IS OF BULK AT MOST 1048576: true; the input reads as it did. -/
def joinLawsUptoRow : OpenClaim := { program := "ytpompbfikbdneabgreat", sum := "53a0f857bf5d19de4a235aef24a8484507780bef761571a39acb21629855cbf0", func := "prunewell/prunelaw5.JoinLaws", spec := "joinLaws", inPlace := ["slices.overlaps[prunewell/api.Live]", "slices.overlaps[prunewell/api.Tally]"], unfollowed := true, recurses := true, apart := false, narrowed := true }
def JoinLawsUptoSaid : Prop := joinLawsUptoRow.holds Tryz.pinned (OpenSpec.upto joinLawsSpec)

/-- 'prunelaw5.JoinMore', WHERE WHAT IT READS IS OF BULK AT MOST 1048576: true; the input reads as it did. -/
def joinMoreUptoRow : OpenClaim := { program := "ytpompbfikbdneabgreat", sum := "53a0f857bf5d19de4a235aef24a8484507780bef761571a39acb21629855cbf0", func := "prunewell/prunelaw5.JoinMore", spec := "joinMore", inPlace := ["slices.overlaps[prunewell/api.Live]", "slices.overlaps[prunewell/api.Tally]"], unfollowed := true, recurses := true, apart := false, narrowed := true }
def JoinMoreUptoSaid : Prop := joinMoreUptoRow.holds Tryz.pinned (OpenSpec.upto joinMoreSpec)

end Rows
end Go.Proofs.YtpompbfikbdneabGreat
