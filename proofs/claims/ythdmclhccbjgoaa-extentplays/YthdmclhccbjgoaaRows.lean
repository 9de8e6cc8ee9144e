/-
  No cell of these rows narrows 'for every input' (looked for: loops, veiled, ifaces, maps, wideKeys, modest, calm, conditions, laid).
  DERIVED. THE GIVEN ROWS OF THIS SEAT. 5 by the template 'for every input the law returns true; each argument reads behind the call as it read before'; 0 by the template 'total and deterministic' (their statements: YthdmclhccbjgoaaTotals.lean).
  GIVEN WITH THE SEED: the statements are not yours to turn. If you find one false, say at which input.
  Laid BY PROGRAM, IN A SANDBOX (cutbox-rows.mjs): the forced cells as the released guide's own fill.sh prints them over the translation 72d7e0406553adee… (all of the seat's roots in one cut). By AI agents, Wed Nov 11 2026. No macro, syntax, notation, axiom, sorry.
-/
import Derived.Test.YthdmclhccbjgoaaChecked
import GoSem.Claim
import GoSem.ClaimJoined
import GoSem.ClaimMapViews
import Derived.JoinedTies
import Derived.KernelRfl
namespace Go.Proofs.Ythdmclhccbjgoaa
/- THE CELL 'sum', in the pinned program and in every row, IS THE sha256 OF THE DUMP (.gsa) THAT YthdmclhccbjgoaaProg.lean LOADS. Nothing in Lean hashes anything: it is a label: what it is worth is what the hold of that sum in a sandbox is worth. -/
noncomputable def Try.pinned : Pinned := { name := "ythdmclhccbjgoaa", sum := "72d7e0406553adeec82592d8ef026caa39e2acf0e4e0a2df9e838e374015bf7c", checked := Try.checked }
namespace Rows
def none {H : Type} : Left H := { results := [], args := [] }

/-- 'dolmenlaw9.ExtentPlays': WHATEVER THE INPUT: true; the input reads as it did. -/
def extentPlaysSpec : ChangeSpec := { name := "extentPlays", fn := fun _ => fun
  | [d1, d2, d3] => { results := [.lit (.bool true)], args := [d1, d2, d3] }
  | _ => none }
def extentPlaysRow : OpenClaim := { program := "ythdmclhccbjgoaa", sum := "72d7e0406553adeec82592d8ef026caa39e2acf0e4e0a2df9e838e374015bf7c", func := "dolmen/dolmenlaw9.ExtentPlays", spec := "extentPlays", inPlace := ["slices.overlaps[dolmen/extent.Piece]", "internal/reflectlite.TypeOf"], unfollowed := true, recurses := true, apart := false }
def ExtentPlaysSaid : Prop := extentPlaysRow.holds Try.pinned (OpenSpec.ofChange extentPlaysSpec)

/-- ITS FALSE NEIGHBOUR: 'it returns false'. Refute it at one input. -/
def extentPlaysWrong : ChangeSpec := { name := "extentPlays", fn := fun _ => fun
  | [d1, d2, d3] => { results := [.lit (.bool false)], args := [d1, d2, d3] }
  | _ => none }
def ExtentPlaysWrongFalsely : Prop := extentPlaysRow.holds Try.pinned (OpenSpec.ofChange extentPlaysWrong)

/-- 'dolmenlaw9.ExtentLasts': WHATEVER THE INPUT: true; the input reads as it did. -/
def extentLastsSpec : ChangeSpec := { name := "extentLasts", fn := fun _ => fun
  | [d] => { results := [.lit (.bool true)], args := [d] }
  | _ => none }
def extentLastsRow : OpenClaim := { program := "ythdmclhccbjgoaa", sum := "72d7e0406553adeec82592d8ef026caa39e2acf0e4e0a2df9e838e374015bf7c", func := "dolmen/dolmenlaw9.ExtentLasts", spec := "extentLasts", inPlace := ["slices.overlaps[dolmen/extent.Piece]", "internal/reflectlite.TypeOf"], unfollowed := true, recurses := true, apart := false }
def ExtentLastsSaid : Prop := extentLastsRow.holds Try.pinned (OpenSpec.ofChange extentLastsSpec)

/-- ITS FALSE NEIGHBOUR: 'it returns false'. Refute it at one input. -/
def extentLastsWrong : ChangeSpec := { name := "extentLasts", fn := fun _ => fun
  | [d] => { results := [.lit (.bool false)], args := [d] }
  | _ => none }
def ExtentLastsWrongFalsely : Prop := extentLastsRow.holds Try.pinned (OpenSpec.ofChange extentLastsWrong)

/-- 'dolmenlaw9.ExtentOrder': WHATEVER THE INPUT: true; the input reads as it did. -/
def extentOrderSpec : ChangeSpec := { name := "extentOrder", fn := fun _ => fun
  | [d] => { results := [.lit (.bool true)], args := [d] }
  | _ => none }
def extentOrderRow : OpenClaim := { program := "ythdmclhccbjgoaa", sum := "72d7e0406553adeec82592d8ef026caa39e2acf0e4e0a2df9e838e374015bf7c", func := "dolmen/dolmenlaw9.ExtentOrder", spec := "extentOrder", inPlace := ["slices.overlaps[dolmen/extent.Piece]", "internal/reflectlite.TypeOf"], unfollowed := true, recurses := true, apart := false }
def ExtentOrderSaid : Prop := extentOrderRow.holds Try.pinned (OpenSpec.ofChange extentOrderSpec)

/-- ITS FALSE NEIGHBOUR: 'it returns false'. Refute it at one input. -/
def extentOrderWrong : ChangeSpec := { name := "extentOrder", fn := fun _ => fun
  | [d] => { results := [.lit (.bool false)], args := [d] }
  | _ => none }
def ExtentOrderWrongFalsely : Prop := extentOrderRow.holds Try.pinned (OpenSpec.ofChange extentOrderWrong)

/-- 'dolmenlaw9.ExtentCopies': WHATEVER THE INPUT: true; the input reads as it did. -/
def extentCopiesSpec : ChangeSpec := { name := "extentCopies", fn := fun _ => fun
  | [d1, d2] => { results := [.lit (.bool true)], args := [d1, d2] }
  | _ => none }
def extentCopiesRow : OpenClaim := { program := "ythdmclhccbjgoaa", sum := "72d7e0406553adeec82592d8ef026caa39e2acf0e4e0a2df9e838e374015bf7c", func := "dolmen/dolmenlaw9.ExtentCopies", spec := "extentCopies", inPlace := ["slices.overlaps[dolmen/extent.Piece]", "internal/reflectlite.TypeOf"], unfollowed := true, recurses := true, apart := false }
def ExtentCopiesSaid : Prop := extentCopiesRow.holds Try.pinned (OpenSpec.ofChange extentCopiesSpec)

/-- ITS FALSE NEIGHBOUR: 'it returns false'. Refute it at one input. -/
def extentCopiesWrong : ChangeSpec := { name := "extentCopies", fn := fun _ => fun
  | [d1, d2] => { results := [.lit (.bool false)], args := [d1, d2] }
  | _ => none }
def ExtentCopiesWrongFalsely : Prop := extentCopiesRow.holds Try.pinned (OpenSpec.ofChange extentCopiesWrong)

/-- 'dolmenlaw9.ExtentRanges': WHATEVER THE INPUT: true; the input reads as it did. -/
def extentRangesSpec : ChangeSpec := { name := "extentRanges", fn := fun _ => fun
  | [d1, d2, d3, d4] => { results := [.lit (.bool true)], args := [d1, d2, d3, d4] }
  | _ => none }
def extentRangesRow : OpenClaim := { program := "ythdmclhccbjgoaa", sum := "72d7e0406553adeec82592d8ef026caa39e2acf0e4e0a2df9e838e374015bf7c", func := "dolmen/dolmenlaw9.ExtentRanges", spec := "extentRanges", inPlace := ["slices.overlaps[dolmen/extent.Piece]", "internal/reflectlite.TypeOf"], unfollowed := true, recurses := true, apart := false }
def ExtentRangesSaid : Prop := extentRangesRow.holds Try.pinned (OpenSpec.ofChange extentRangesSpec)

/-- ITS FALSE NEIGHBOUR: 'it returns false'. Refute it at one input. -/
def extentRangesWrong : ChangeSpec := { name := "extentRanges", fn := fun _ => fun
  | [d1, d2, d3, d4] => { results := [.lit (.bool false)], args := [d1, d2, d3, d4] }
  | _ => none }
def ExtentRangesWrongFalsely : Prop := extentRangesRow.holds Try.pinned (OpenSpec.ofChange extentRangesWrong)

/- THE SECOND FORM. 'bulk': how many values and letters a reading holds, each counted each time it is reached (what is shared counts as often as it is met; a slice's spare places count too). A statement '..UptoSaid' is the law's where the arguments, and the package variables that the reading takes, are together of bulk at most 1048576: NARROWER than '..Said'. Prove '..Said' where nothing that the law and all that it calls make is longer than what came in: it says more and counts as full. Else prove '..UptoSaid'. A law counts once. -/
mutual
def uptoBulk {H : Type} : DataW H → Nat
  | .lit (.string bytes) => bytes.length + 1
  | .lit _ => 1
  | .nil => 1
  | .ptr d => uptoBulk d + 1
  | .slice elems spare => uptoBulkAll elems + uptoBulkAll spare + 1
  | .agg parts => uptoBulkAll parts + 1
  | .iface _ d => uptoBulk d + 1
  | .map entries => uptoBulkEntries entries + 1
  | .held _ => 1
def uptoBulkAll {H : Type} : List (DataW H) → Nat
  | [] => 0
  | d :: r => uptoBulk d + uptoBulkAll r
def uptoBulkEntries {H : Type} : List (Lit × DataW H) → Nat
  | [] => 0
  | x :: r => uptoBulkEntry x + uptoBulkEntries r
def uptoBulkEntry {H : Type} : Lit × DataW H → Nat
  | (.string bytes, d) => bytes.length + uptoBulk d + 1
  | (_, d) => uptoBulk d + 1
 end
def uptoSmall : (H : Type) → List (DataW H) → Bool := fun _ ds => decide (uptoBulkAll ds ≤ 1048576)
def OpenSpec.upto (s : _root_.Go.ChangeSpec) : _root_.Go.OpenSpec := { _root_.Go.OpenSpec.ofChange s with cond := some uptoSmall }

/-- 'dolmenlaw9.ExtentPlays', WHERE WHAT IT READS IS OF BULK AT MOST 1048576: true; the input reads as it did. -/
def extentPlaysUptoRow : OpenClaim := { program := "ythdmclhccbjgoaa", sum := "72d7e0406553adeec82592d8ef026caa39e2acf0e4e0a2df9e838e374015bf7c", func := "dolmen/dolmenlaw9.ExtentPlays", spec := "extentPlays", inPlace := ["slices.overlaps[dolmen/extent.Piece]", "internal/reflectlite.TypeOf"], unfollowed := true, recurses := true, apart := false, narrowed := true }
def ExtentPlaysUptoSaid : Prop := extentPlaysUptoRow.holds Try.pinned (OpenSpec.upto extentPlaysSpec)

/-- 'dolmenlaw9.ExtentLasts', WHERE WHAT IT READS IS OF BULK AT MOST 1048576: true; the input reads as it did. -/
def extentLastsUptoRow : OpenClaim := { program := "ythdmclhccbjgoaa", sum := "72d7e0406553adeec82592d8ef026caa39e2acf0e4e0a2df9e838e374015bf7c", func := "dolmen/dolmenlaw9.ExtentLasts", spec := "extentLasts", inPlace := ["slices.overlaps[dolmen/extent.Piece]", "internal/reflectlite.TypeOf"], unfollowed := true, recurses := true, apart := false, narrowed := true }
def ExtentLastsUptoSaid : Prop := extentLastsUptoRow.holds Try.pinned (OpenSpec.upto extentLastsSpec)

/-- 'dolmenlaw9.ExtentOrder', WHERE WHAT IT READS IS OF BULK AT MOST 1048576: true; the input reads as it did. -/
def extentOrderUptoRow : OpenClaim := { program := "ythdmclhccbjgoaa", sum := "72d7e0406553adeec82592d8ef026caa39e2acf0e4e0a2df9e838e374015bf7c", func := "dolmen/dolmenlaw9.ExtentOrder", spec := "extentOrder", inPlace := ["slices.overlaps[dolmen/extent.Piece]", "internal/reflectlite.TypeOf"], unfollowed := true, recurses := true, apart := false, narrowed := true }
def ExtentOrderUptoSaid : Prop := extentOrderUptoRow.holds Try.pinned (OpenSpec.upto extentOrderSpec)

/-- 'dolmenlaw9.ExtentCopies', WHERE WHAT IT READS IS OF BULK AT MOST 1048576: true; the input reads as it did. -/
def extentCopiesUptoRow : OpenClaim := { program := "ythdmclhccbjgoaa", sum := "72d7e0406553adeec82592d8ef026caa39e2acf0e4e0a2df9e838e374015bf7c", func := "dolmen/dolmenlaw9.ExtentCopies", spec := "extentCopies", inPlace := ["slices.overlaps[dolmen/extent.Piece]", "internal/reflectlite.TypeOf"], unfollowed := true, recurses := true, apart := false, narrowed := true }
def ExtentCopiesUptoSaid : Prop := extentCopiesUptoRow.holds Try.pinned (OpenSpec.upto extentCopiesSpec)

/-- 'dolmenlaw9.ExtentRanges', WHERE WHAT IT READS IS OF BULK AT MOST 1048576: true; the input reads as it did. -/
def extentRangesUptoRow : OpenClaim := { program := "ythdmclhccbjgoaa", sum := "72d7e0406553adeec82592d8ef026caa39e2acf0e4e0a2df9e838e374015bf7c", func := "dolmen/dolmenlaw9.ExtentRanges", spec := "extentRanges", inPlace := ["slices.overlaps[dolmen/extent.Piece]", "internal/reflectlite.TypeOf"], unfollowed := true, recurses := true, apart := false, narrowed := true }
def ExtentRangesUptoSaid : Prop := extentRangesUptoRow.holds Try.pinned (OpenSpec.upto extentRangesSpec)

end Rows
end Go.Proofs.Ythdmclhccbjgoaa
