/-
  No cell of these rows narrows 'for every input' (looked for: loops, veiled, ifaces, maps, wideKeys, modest, calm, conditions, laid).
  DERIVED. THE GIVEN ROWS OF THIS SEAT. 5 by the template 'for every input the law returns true; each argument reads behind the call as it read before'; 0 by the template 'total and deterministic' (their statements: YthjcmagionaepaaGreatTotals.lean).
  GIVEN WITH THE SEED: the statements are not yours to turn. If you find one false, say at which input.
  Laid BY PROGRAM, IN A SANDBOX (cutbox-rows.mjs): the forced cells as the released guide's own fill.sh prints them over the translation 3c342608edea4595… (all of the seat's roots in one cut). By AI agents, Wed Nov 11 2026. No macro, syntax, notation, axiom, sorry.
-/
import Derived.Test.YthjcmagionaepaaGreatChecked
import GoSem.Claim
import GoSem.ClaimJoined
import GoSem.ClaimMapViews
import Derived.JoinedTies
import Derived.KernelRfl
namespace Go.Proofs.YthjcmagionaepaaGreat
/- THE CELL 'sum', in the pinned program and in every row, IS THE sha256 OF THE DUMP (.gsa) THAT YthjcmagionaepaaGreatProg.lean LOADS. Nothing in Lean hashes anything: it is a label: what it is worth is what the hold of that sum in a sandbox is worth. -/
noncomputable def Tryz.pinned : Pinned := { name := "ythjcmagionaepaagreat", sum := "3c342608edea45958f72d3c3fa0e5d5942edf6e99adff82929df658f4f322e97", checked := Tryz.checked }
namespace Rows
def none {H : Type} : Left H := { results := [], args := [] }

/-- 'dolmenlaw11.TablePlays': WHATEVER THE INPUT: true; the input reads as it did. -/
def tablePlaysSpec : ChangeSpec := { name := "tablePlays", fn := fun _ => fun
  | [d1, d2, d3] => { results := [.lit (.bool true)], args := [d1, d2, d3] }
  | _ => none }
def tablePlaysRow : OpenClaim := { program := "ythjcmagionaepaagreat", sum := "3c342608edea45958f72d3c3fa0e5d5942edf6e99adff82929df658f4f322e97", func := "dolmen/dolmenlaw11.TablePlays", spec := "tablePlays", inPlace := ["internal/reflectlite.TypeOf", "slices.overlaps[dolmen/life.thing]"], unfollowed := true, recurses := true, apart := false }
def TablePlaysSaid : Prop := tablePlaysRow.holds Tryz.pinned (OpenSpec.ofChange tablePlaysSpec)

/-- ITS FALSE NEIGHBOUR: 'it returns false'. Refute it at one input. -/
def tablePlaysWrong : ChangeSpec := { name := "tablePlays", fn := fun _ => fun
  | [d1, d2, d3] => { results := [.lit (.bool false)], args := [d1, d2, d3] }
  | _ => none }
def TablePlaysWrongFalsely : Prop := tablePlaysRow.holds Tryz.pinned (OpenSpec.ofChange tablePlaysWrong)

/-- 'dolmenlaw11.TableOne': WHATEVER THE INPUT: true; the input reads as it did. -/
def tableOneSpec : ChangeSpec := { name := "tableOne", fn := fun _ => fun
  | [d] => { results := [.lit (.bool true)], args := [d] }
  | _ => none }
def tableOneRow : OpenClaim := { program := "ythjcmagionaepaagreat", sum := "3c342608edea45958f72d3c3fa0e5d5942edf6e99adff82929df658f4f322e97", func := "dolmen/dolmenlaw11.TableOne", spec := "tableOne", inPlace := ["internal/reflectlite.TypeOf", "slices.overlaps[dolmen/life.thing]"], unfollowed := true, recurses := true, apart := false }
def TableOneSaid : Prop := tableOneRow.holds Tryz.pinned (OpenSpec.ofChange tableOneSpec)

/-- ITS FALSE NEIGHBOUR: 'it returns false'. Refute it at one input. -/
def tableOneWrong : ChangeSpec := { name := "tableOne", fn := fun _ => fun
  | [d] => { results := [.lit (.bool false)], args := [d] }
  | _ => none }
def TableOneWrongFalsely : Prop := tableOneRow.holds Tryz.pinned (OpenSpec.ofChange tableOneWrong)

/-- 'dolmenlaw11.TableCleans': WHATEVER THE INPUT: true; the input reads as it did. -/
def tableCleansSpec : ChangeSpec := { name := "tableCleans", fn := fun _ => fun
  | [d1, d2, d3, d4] => { results := [.lit (.bool true)], args := [d1, d2, d3, d4] }
  | _ => none }
def tableCleansRow : OpenClaim := { program := "ythjcmagionaepaagreat", sum := "3c342608edea45958f72d3c3fa0e5d5942edf6e99adff82929df658f4f322e97", func := "dolmen/dolmenlaw11.TableCleans", spec := "tableCleans", inPlace := ["internal/reflectlite.TypeOf", "slices.overlaps[dolmen/life.thing]"], unfollowed := true, recurses := true, apart := false }
def TableCleansSaid : Prop := tableCleansRow.holds Tryz.pinned (OpenSpec.ofChange tableCleansSpec)

/-- ITS FALSE NEIGHBOUR: 'it returns false'. Refute it at one input. -/
def tableCleansWrong : ChangeSpec := { name := "tableCleans", fn := fun _ => fun
  | [d1, d2, d3, d4] => { results := [.lit (.bool false)], args := [d1, d2, d3, d4] }
  | _ => none }
def TableCleansWrongFalsely : Prop := tableCleansRow.holds Tryz.pinned (OpenSpec.ofChange tableCleansWrong)

/-- 'dolmenlaw11.TableNames': WHATEVER THE INPUT: true; the input reads as it did. -/
def tableNamesSpec : ChangeSpec := { name := "tableNames", fn := fun _ => fun
  | [d1, d2] => { results := [.lit (.bool true)], args := [d1, d2] }
  | _ => none }
def tableNamesRow : OpenClaim := { program := "ythjcmagionaepaagreat", sum := "3c342608edea45958f72d3c3fa0e5d5942edf6e99adff82929df658f4f322e97", func := "dolmen/dolmenlaw11.TableNames", spec := "tableNames", inPlace := ["internal/reflectlite.TypeOf", "slices.overlaps[dolmen/life.thing]"], unfollowed := true, recurses := true, apart := false }
def TableNamesSaid : Prop := tableNamesRow.holds Tryz.pinned (OpenSpec.ofChange tableNamesSpec)

/-- ITS FALSE NEIGHBOUR: 'it returns false'. Refute it at one input. -/
def tableNamesWrong : ChangeSpec := { name := "tableNames", fn := fun _ => fun
  | [d1, d2] => { results := [.lit (.bool false)], args := [d1, d2] }
  | _ => none }
def TableNamesWrongFalsely : Prop := tableNamesRow.holds Tryz.pinned (OpenSpec.ofChange tableNamesWrong)

/-- 'dolmenlaw11.TableNothing': WHATEVER THE INPUT: true; the input reads as it did. -/
def tableNothingSpec : ChangeSpec := { name := "tableNothing", fn := fun _ => fun
  | [d1, d2] => { results := [.lit (.bool true)], args := [d1, d2] }
  | _ => none }
def tableNothingRow : OpenClaim := { program := "ythjcmagionaepaagreat", sum := "3c342608edea45958f72d3c3fa0e5d5942edf6e99adff82929df658f4f322e97", func := "dolmen/dolmenlaw11.TableNothing", spec := "tableNothing", inPlace := ["internal/reflectlite.TypeOf", "slices.overlaps[dolmen/life.thing]"], unfollowed := true, recurses := true, apart := false }
def TableNothingSaid : Prop := tableNothingRow.holds Tryz.pinned (OpenSpec.ofChange tableNothingSpec)

/-- ITS FALSE NEIGHBOUR: 'it returns false'. Refute it at one input. -/
def tableNothingWrong : ChangeSpec := { name := "tableNothing", fn := fun _ => fun
  | [d1, d2] => { results := [.lit (.bool false)], args := [d1, d2] }
  | _ => none }
def TableNothingWrongFalsely : Prop := tableNothingRow.holds Tryz.pinned (OpenSpec.ofChange tableNothingWrong)

/- THE SECOND FORM. 'bulk': how many values and letters a reading holds, each counted each time it is reached (what is shared counts as often as it is met; a slice's spare places count too). A statement '..UptoSaid' is the law's where the arguments, and the package variables that the reading takes, are together of bulk at most 1048576: NARROWER than '..Said'. Prove '..Said' where nothing that the law and all that it calls make is longer than what came in: it says more and counts as full. Else prove '..UptoSaid'. A law counts once. -/
mutual
def uptoBulk {H : Type} : DataW H → Nat
  | .lit (.string bytes) => bytes.length + 1
  | .lit _ => 1
  | .nil => 1
  | .ptr d => uptoBulk d + 1
  | .slice elems spare => uptoBulkAll elems + uptoBulkAll spare + 1
  | .agg parts => uptoBulkAll parts + 1
  | .iface _ d => uptoBulk d + 1
  | .map entries => uptoBulkEntries entries + 1
  | .held _ => 1
def uptoBulkAll {H : Type} : List (DataW H) → Nat
  | [] => 0
  | d :: r => uptoBulk d + uptoBulkAll r
def uptoBulkEntries {H : Type} : List (Lit × DataW H) → Nat
  | [] => 0
  | x :: r => uptoBulkEntry x + uptoBulkEntries r
def uptoBulkEntry {H : Type} : Lit × DataW H → Nat
  | (.string bytes, d) => bytes.length + uptoBulk d + 1
  | (_, d) => uptoBulk d + 1
 end
def uptoSmall : (H : Type) → List (DataW H) → Bool := fun _ ds => decide (uptoBulkAll ds ≤ 1048576)
def OpenSpec.upto (s : _root_.Go.ChangeSpec) : _root_.Go.OpenSpec := { _root_.Go.OpenSpec.ofChange s with cond := some uptoSmall }

/-- 'dolmenlaw11.TablePlays', WHERE WHAT IT READS IS OF BULK AT MOST 1048576: true; the input reads as it did. -/
def tablePlaysUptoRow : OpenClaim := { program := "ythjcmagionaepaagreat", sum := "3c342608edea45958f72d3c3fa0e5d5942edf6e99adff82929df658f4f322e97", func := "dolmen/dolmenlaw11.TablePlays", spec := "tablePlays", inPlace := ["internal/reflectlite.TypeOf", "slices.overlaps[dolmen/life.thing]"], unfollowed := true, recurses := true, apart := false, narrowed := true }
def TablePlaysUptoSaid : Prop := tablePlaysUptoRow.holds Tryz.pinned (OpenSpec.upto tablePlaysSpec)

/-- 'dolmenlaw11.TableOne', WHERE WHAT IT READS IS OF BULK AT MOST 1048576: true; the input reads as it did. -/
def tableOneUptoRow : OpenClaim := { program := "ythjcmagionaepaagreat", sum := "3c342608edea45958f72d3c3fa0e5d5942edf6e99adff82929df658f4f322e97", func := "dolmen/dolmenlaw11.TableOne", spec := "tableOne", inPlace := ["internal/reflectlite.TypeOf", "slices.overlaps[dolmen/life.thing]"], unfollowed := true, recurses := true, apart := false, narrowed := true }
def TableOneUptoSaid : Prop := tableOneUptoRow.holds Tryz.pinned (OpenSpec.upto tableOneSpec)

/-- 'dolmenlaw11.TableCleans', WHERE WHAT IT READS IS OF BULK AT MOST 1048576: true; the input reads as it did. -/
def tableCleansUptoRow : OpenClaim := { program := "ythjcmagionaepaagreat", sum := "3c342608edea45958f72d3c3fa0e5d5942edf6e99adff82929df658f4f322e97", func := "dolmen/dolmenlaw11.TableCleans", spec := "tableCleans", inPlace := ["internal/reflectlite.TypeOf", "slices.overlaps[dolmen/life.thing]"], unfollowed := true, recurses := true, apart := false, narrowed := true }
def TableCleansUptoSaid : Prop := tableCleansUptoRow.holds Tryz.pinned (OpenSpec.upto tableCleansSpec)

/-- 'dolmenlaw11.TableNames', WHERE WHAT IT READS IS OF BULK AT MOST 1048576: true; the input reads as it did. -/
def tableNamesUptoRow : OpenClaim := { program := "ythjcmagionaepaagreat", sum := "3c342608edea45958f72d3c3fa0e5d5942edf6e99adff82929df658f4f322e97", func := "dolmen/dolmenlaw11.TableNames", spec := "tableNames", inPlace := ["internal/reflectlite.TypeOf", "slices.overlaps[dolmen/life.thing]"], unfollowed := true, recurses := true, apart := false, narrowed := true }
def TableNamesUptoSaid : Prop := tableNamesUptoRow.holds Tryz.pinned (OpenSpec.upto tableNamesSpec)

/-- 'dolmenlaw11.TableNothing', WHERE WHAT IT READS IS OF BULK AT MOST 1048576: true; the input reads as it did. -/
def tableNothingUptoRow : OpenClaim := { program := "ythjcmagionaepaagreat", sum := "3c342608edea45958f72d3c3fa0e5d5942edf6e99adff82929df658f4f322e97", func := "dolmen/dolmenlaw11.TableNothing", spec := "tableNothing", inPlace := ["internal/reflectlite.TypeOf", "slices.overlaps[dolmen/life.thing]"], unfollowed := true, recurses := true, apart := false, narrowed := true }
def TableNothingUptoSaid : Prop := tableNothingUptoRow.holds Tryz.pinned (OpenSpec.upto tableNothingSpec)

end Rows
end Go.Proofs.YthjcmagionaepaaGreat
