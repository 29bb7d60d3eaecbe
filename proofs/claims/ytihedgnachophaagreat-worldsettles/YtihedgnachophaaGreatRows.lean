/-
  No cell of these rows narrows 'for every input' (looked for: loops, veiled, ifaces, maps, wideKeys, modest, calm, conditions, laid).
  DERIVED. THE GIVEN ROWS OF THIS SEAT. 6 by the template 'for every input the law returns true; each argument reads behind the call as it read before'; 0 by the template 'total and deterministic' (their statements: YtihedgnachophaaGreatTotals.lean).
  GIVEN WITH THE SEED: the statements are not yours to turn. If you find one false, say at which input.
  Laid BY PROGRAM, IN A SANDBOX (cutbox-rows.mjs): the forced cells as the released guide's own fill.sh prints them over the translation 798be2b7475226a1… (all of the seat's roots in one cut). By AI agents, Wed Nov 11 2026. No macro, syntax, notation, axiom, sorry.
-/
import Derived.Test.YtihedgnachophaaGreatChecked
import GoSem.Claim
import GoSem.ClaimJoined
import GoSem.ClaimMapViews
import Derived.JoinedTies
import Derived.KernelRfl
namespace Go.Proofs.YtihedgnachophaaGreat
/- THE CELL 'sum', in the pinned program and in every row, IS THE sha256 OF THE DUMP (.gsa) THAT YtihedgnachophaaGreatProg.lean LOADS. Nothing in Lean hashes anything: it is a label: what it is worth is what the hold of that sum in a sandbox is worth. -/
noncomputable def Tryz.pinned : Pinned := { name := "ytihedgnachophaagreat", sum := "798be2b7475226a16199299dbdffef423c57e424b4d032c21e840bdfb31165d1", checked := Tryz.checked }
namespace Rows
def none {H : Type} : Left H := { results := [], args := [] }

/-- 'prunelaw7.WorldSettles': WHATEVER THE INPUT: true; the input reads as it did. -/
def worldSettlesSpec : ChangeSpec := { name := "worldSettles", fn := fun _ => fun
  | [d1, d2] => { results := [.lit (.bool true)], args := [d1, d2] }
  | _ => none }
def worldSettlesRow : OpenClaim := { program := "ytihedgnachophaagreat", sum := "798be2b7475226a16199299dbdffef423c57e424b4d032c21e840bdfb31165d1", func := "prunewell/prunelaw7.WorldSettles", spec := "worldSettles", inPlace := ["slices.overlaps[prunewell/api.Live]", "slices.overlaps[prunewell/api.Tally]"], unfollowed := true, recurses := true, apart := false }
def WorldSettlesSaid : Prop := worldSettlesRow.holds Tryz.pinned (OpenSpec.ofChange worldSettlesSpec)

/-- ITS FALSE NEIGHBOUR: 'it returns false'. Refute it at one input. -/
def worldSettlesWrong : ChangeSpec := { name := "worldSettles", fn := fun _ => fun
  | [d1, d2] => { results := [.lit (.bool false)], args := [d1, d2] }
  | _ => none }
def WorldSettlesWrongFalsely : Prop := worldSettlesRow.holds Tryz.pinned (OpenSpec.ofChange worldSettlesWrong)

/-- 'prunetop.TopRegister': WHATEVER THE INPUT: true; the input reads as it did. -/
def topRegisterSpec : ChangeSpec := { name := "topRegister", fn := fun _ => fun
  | [d1, d2, d3, d4] => { results := [.lit (.bool true)], args := [d1, d2, d3, d4] }
  | _ => none }
def topRegisterRow : OpenClaim := { program := "ytihedgnachophaagreat", sum := "798be2b7475226a16199299dbdffef423c57e424b4d032c21e840bdfb31165d1", func := "prunewell/prunetop.TopRegister", spec := "topRegister", inPlace := ["slices.overlaps[prunewell/api.Live]", "slices.overlaps[prunewell/api.Tally]"], unfollowed := true, recurses := true, apart := false }
def TopRegisterSaid : Prop := topRegisterRow.holds Tryz.pinned (OpenSpec.ofChange topRegisterSpec)

/-- ITS FALSE NEIGHBOUR: 'it returns false'. Refute it at one input. -/
def topRegisterWrong : ChangeSpec := { name := "topRegister", fn := fun _ => fun
  | [d1, d2, d3, d4] => { results := [.lit (.bool false)], args := [d1, d2, d3, d4] }
  | _ => none }
def TopRegisterWrongFalsely : Prop := topRegisterRow.holds Tryz.pinned (OpenSpec.ofChange topRegisterWrong)

/-- 'prunetop.TopAddWins': WHATEVER THE INPUT: true; the input reads as it did. -/
def topAddWinsSpec : ChangeSpec := { name := "topAddWins", fn := fun _ => fun
  | [d1, d2] => { results := [.lit (.bool true)], args := [d1, d2] }
  | _ => none }
def topAddWinsRow : OpenClaim := { program := "ytihedgnachophaagreat", sum := "798be2b7475226a16199299dbdffef423c57e424b4d032c21e840bdfb31165d1", func := "prunewell/prunetop.TopAddWins", spec := "topAddWins", inPlace := ["slices.overlaps[prunewell/api.Live]", "slices.overlaps[prunewell/api.Tally]"], unfollowed := true, recurses := true, apart := false }
def TopAddWinsSaid : Prop := topAddWinsRow.holds Tryz.pinned (OpenSpec.ofChange topAddWinsSpec)

/-- ITS FALSE NEIGHBOUR: 'it returns false'. Refute it at one input. -/
def topAddWinsWrong : ChangeSpec := { name := "topAddWins", fn := fun _ => fun
  | [d1, d2] => { results := [.lit (.bool false)], args := [d1, d2] }
  | _ => none }
def TopAddWinsWrongFalsely : Prop := topAddWinsRow.holds Tryz.pinned (OpenSpec.ofChange topAddWinsWrong)

/-- 'prunetop.TopCounter': WHATEVER THE INPUT: true; the input reads as it did. -/
def topCounterSpec : ChangeSpec := { name := "topCounter", fn := fun _ => fun
  | [d1, d2, d3] => { results := [.lit (.bool true)], args := [d1, d2, d3] }
  | _ => none }
def topCounterRow : OpenClaim := { program := "ytihedgnachophaagreat", sum := "798be2b7475226a16199299dbdffef423c57e424b4d032c21e840bdfb31165d1", func := "prunewell/prunetop.TopCounter", spec := "topCounter", inPlace := ["slices.overlaps[prunewell/api.Live]", "slices.overlaps[prunewell/api.Tally]"], unfollowed := true, recurses := true, apart := false }
def TopCounterSaid : Prop := topCounterRow.holds Tryz.pinned (OpenSpec.ofChange topCounterSpec)

/-- ITS FALSE NEIGHBOUR: 'it returns false'. Refute it at one input. -/
def topCounterWrong : ChangeSpec := { name := "topCounter", fn := fun _ => fun
  | [d1, d2, d3] => { results := [.lit (.bool false)], args := [d1, d2, d3] }
  | _ => none }
def TopCounterWrongFalsely : Prop := topCounterRow.holds Tryz.pinned (OpenSpec.ofChange topCounterWrong)

/-- 'prunetop.TopLate': WHATEVER THE INPUT: true; the input reads as it did. -/
def topLateSpec : ChangeSpec := { name := "topLate", fn := fun _ => fun
  | [d] => { results := [.lit (.bool true)], args := [d] }
  | _ => none }
def topLateRow : OpenClaim := { program := "ytihedgnachophaagreat", sum := "798be2b7475226a16199299dbdffef423c57e424b4d032c21e840bdfb31165d1", func := "prunewell/prunetop.TopLate", spec := "topLate", inPlace := ["slices.overlaps[prunewell/api.Live]", "slices.overlaps[prunewell/api.Tally]"], unfollowed := true, recurses := true, apart := false }
def TopLateSaid : Prop := topLateRow.holds Tryz.pinned (OpenSpec.ofChange topLateSpec)

/-- ITS FALSE NEIGHBOUR: 'it returns false'. Refute it at one input. -/
def topLateWrong : ChangeSpec := { name := "topLate", fn := fun _ => fun
  | [d] => { results := [.lit (.bool false)], args := [d] }
  | _ => none }
def TopLateWrongFalsely : Prop := topLateRow.holds Tryz.pinned (OpenSpec.ofChange topLateWrong)

/-- 'prunetop.TopLine': WHATEVER THE INPUT: true; the input reads as it did. -/
def topLineSpec : ChangeSpec := { name := "topLine", fn := fun _ => fun
  | [d1, d2, d3] => { results := [.lit (.bool true)], args := [d1, d2, d3] }
  | _ => none }
def topLineRow : OpenClaim := { program := "ytihedgnachophaagreat", sum := "798be2b7475226a16199299dbdffef423c57e424b4d032c21e840bdfb31165d1", func := "prunewell/prunetop.TopLine", spec := "topLine", inPlace := ["slices.overlaps[prunewell/api.Live]", "slices.overlaps[prunewell/api.Tally]"], unfollowed := true, recurses := true, apart := false }
def TopLineSaid : Prop := topLineRow.holds Tryz.pinned (OpenSpec.ofChange topLineSpec)

/-- ITS FALSE NEIGHBOUR: 'it returns false'. Refute it at one input. -/
def topLineWrong : ChangeSpec := { name := "topLine", fn := fun _ => fun
  | [d1, d2, d3] => { results := [.lit (.bool false)], args := [d1, d2, d3] }
  | _ => none }
def TopLineWrongFalsely : Prop := topLineRow.holds Tryz.pinned (OpenSpec.ofChange topLineWrong)

/- THE SECOND FORM. 'bulk': how many values and letters a reading holds, each counted each time it is reached (what is shared counts as often as it is met; a slice's spare places count too). A statement '..UptoSaid' is the law's where the arguments, and the package variables that the reading takes, are together of bulk at most 1048576: NARROWER than '..Said'. Prove '..Said' where nothing that the law and all that it calls make is longer than what came in: it says more and counts as full. Else prove '..UptoSaid'. A law counts once. -/
mutual
def uptoBulk {H : Type} : DataW H → Nat
  | .lit (.string bytes) => bytes.length + 1
  | .lit _ => 1
  | .nil => 1
  | .ptr d => uptoBulk d + 1
  | .slice elems spare => uptoBulkAll elems + uptoBulkAll spare + 1
  | .agg parts => uptoBulkAll parts + 1
  | .iface _ d => uptoBulk d + 1
  | .map entries => uptoBulkEntries entries + 1
  | .held _ => 1
def uptoBulkAll {H : Type} : List (DataW H) → Nat
  | [] => 0
  | d :: r => uptoBulk d + uptoBulkAll r
def uptoBulkEntries {H : Type} : List (Lit × DataW H) → Nat
  | [] => 0
  | x :: r => uptoBulkEntry x + uptoBulkEntries r
def uptoBulkEntry {H : Type} : Lit × DataW H → Nat
  | (.string bytes, d) => bytes.length + uptoBulk d + 1
  | (_, d) => uptoBulk d + 1
 end
def uptoSmall : (H : Type) → List (DataW H) → Bool := fun _ ds => decide (uptoBulkAll ds ≤ 1048576)
def OpenSpec.upto (s : _root_.Go.ChangeSpec) : _root_.Go.OpenSpec := { _root_.Go.OpenSpec.ofChange s with cond := some uptoSmall }

/-- 'prunelaw7.WorldSettles', WHERE WHAT IT READS IS OF BULK AT MOST 1048576: true; the input reads as it did. -/
def worldSettlesUptoRow : OpenClaim := { program := "ytihedgnachophaagreat", sum := "798be2b7475226a16199299dbdffef423c57e424b4d032c21e840bdfb31165d1", func := "prunewell/prunelaw7.WorldSettles", spec := "worldSettles", inPlace := ["slices.overlaps[prunewell/api.Live]", "slices.overlaps[prunewell/api.Tally]"], unfollowed := true, recurses := true, apart := false, narrowed := true }
def WorldSettlesUptoSaid : Prop := worldSettlesUptoRow.holds Tryz.pinned (OpenSpec.upto worldSettlesSpec)

/-- 'prunetop.TopRegister', WHERE WHAT IT READS IS OF BULK AT MOST 1048576: true; the input reads as it did. -/
def topRegisterUptoRow : OpenClaim := { program := "ytihedgnachophaagreat", sum := "798be2b7475226a16199299dbdffef423c57e424b4d032c21e840bdfb31165d1", func := "prunewell/prunetop.TopRegister", spec := "topRegister", inPlace := ["slices.overlaps[prunewell/api.Live]", "slices.overlaps[prunewell/api.Tally]"], unfollowed := true, recurses := true, apart := false, narrowed := true }
def TopRegisterUptoSaid : Prop := topRegisterUptoRow.holds Tryz.pinned (OpenSpec.upto topRegisterSpec)

/-- 'prunetop.TopAddWins', WHERE WHAT IT READS IS OF BULK AT MOST 1048576: true; the input reads as it did. -/
def topAddWinsUptoRow : OpenClaim := { program := "ytihedgnachophaagreat", sum := "798be2b7475226a16199299dbdffef423c57e424b4d032c21e840bdfb31165d1", func := "prunewell/prunetop.TopAddWins", spec := "topAddWins", inPlace := ["slices.overlaps[prunewell/api.Live]", "slices.overlaps[prunewell/api.Tally]"], unfollowed := true, recurses := true, apart := false, narrowed := true }
def TopAddWinsUptoSaid : Prop := topAddWinsUptoRow.holds Tryz.pinned (OpenSpec.upto topAddWinsSpec)

/-- 'prunetop.TopCounter', WHERE WHAT IT READS IS OF BULK AT MOST 1048576: true; the input reads as it did. -/
def topCounterUptoRow : OpenClaim := { program := "ytihedgnachophaagreat", sum := "798be2b7475226a16199299dbdffef423c57e424b4d032c21e840bdfb31165d1", func := "prunewell/prunetop.TopCounter", spec := "topCounter", inPlace := ["slices.overlaps[prunewell/api.Live]", "slices.overlaps[prunewell/api.Tally]"], unfollowed := true, recurses := true, apart := false, narrowed := true }
def TopCounterUptoSaid : Prop := topCounterUptoRow.holds Tryz.pinned (OpenSpec.upto topCounterSpec)

/-- 'prunetop.TopLate', WHERE WHAT IT READS IS OF BULK AT MOST 1048576: true; the input reads as it did. -/
def topLateUptoRow : OpenClaim := { program := "ytihedgnachophaagreat", sum := "798be2b7475226a16199299dbdffef423c57e424b4d032c21e840bdfb31165d1", func := "prunewell/prunetop.TopLate", spec := "topLate", inPlace := ["slices.overlaps[prunewell/api.Live]", "slices.overlaps[prunewell/api.Tally]"], unfollowed := true, recurses := true, apart := false, narrowed := true }
def TopLateUptoSaid : Prop := topLateUptoRow.holds Tryz.pinned (OpenSpec.upto topLateSpec)

/-- 'prunetop.TopLine', WHERE WHAT IT READS IS OF BULK AT MOST 1048576: true; the input reads as it did. -/
def topLineUptoRow : OpenClaim := { program := "ytihedgnachophaagreat", sum := "798be2b7475226a16199299dbdffef423c57e424b4d032c21e840bdfb31165d1", func := "prunewell/prunetop.TopLine", spec := "topLine", inPlace := ["slices.overlaps[prunewell/api.Live]", "slices.overlaps[prunewell/api.Tally]"], unfollowed := true, recurses := true, apart := false, narrowed := true }
def TopLineUptoSaid : Prop := topLineUptoRow.holds Tryz.pinned (OpenSpec.upto topLineSpec)

end Rows
end Go.Proofs.YtihedgnachophaaGreat
