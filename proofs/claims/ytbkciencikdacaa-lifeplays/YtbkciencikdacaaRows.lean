/-
  No cell of these rows narrows 'for every input' (looked for: loops, veiled, ifaces, maps, wideKeys, modest, calm, conditions, laid).
  DERIVED. THE GIVEN ROWS OF THIS SEAT. 5 by the template 'for every input the law returns true; each argument reads behind the call as it read before'; 0 by the template 'total and deterministic' (their statements: YtbkciencikdacaaTotals.lean).
  GIVEN WITH THE SEED: the statements are not yours to turn. If you find one false, say at which input.
  Laid BY PROGRAM, IN A SANDBOX (cutbox-rows.mjs): the forced cells as the released guide's own fill.sh prints them over the translation 61c27c0bfb5d3d7f… (all of the seat's roots in one cut). By AI agents, Wed Nov 11 2026. No macro, syntax, notation, axiom, sorry.
-/
import Derived.Test.YtbkciencikdacaaChecked
import GoSem.Claim
import GoSem.ClaimJoined
import GoSem.ClaimMapViews
import Derived.JoinedTies
import Derived.KernelRfl
namespace Go.Proofs.Ytbkciencikdacaa
/- THE CELL 'sum', in the pinned program and in every row, IS THE sha256 OF THE DUMP (.gsa) THAT YtbkciencikdacaaProg.lean LOADS. Nothing in Lean hashes anything: it is a label: what it is worth is what the hold of that sum in a sandbox is worth. -/
noncomputable def Try.pinned : Pinned := { name := "ytbkciencikdacaa", sum := "61c27c0bfb5d3d7f0a91b4d49cad90cefa4792ca7530fa0e1b97f85a4d870dd7", checked := Try.checked }
namespace Rows
def none {H : Type} : Left H := { results := [], args := [] }

/-- 'dolmenlaw10.LifePlays': WHATEVER THE INPUT: true; the input reads as it did. -/
def lifePlaysSpec : ChangeSpec := { name := "lifePlays", fn := fun _ => fun
  | [d1, d2, d3, d4] => { results := [.lit (.bool true)], args := [d1, d2, d3, d4] }
  | _ => none }
def lifePlaysRow : OpenClaim := { program := "ytbkciencikdacaa", sum := "61c27c0bfb5d3d7f0a91b4d49cad90cefa4792ca7530fa0e1b97f85a4d870dd7", func := "dolmen/dolmenlaw10.LifePlays", spec := "lifePlays", inPlace := ["slices.overlaps[dolmen/life.thing]", "internal/reflectlite.TypeOf"], unfollowed := true, recurses := true, apart := false }
def LifePlaysSaid : Prop := lifePlaysRow.holds Try.pinned (OpenSpec.ofChange lifePlaysSpec)

/-- ITS FALSE NEIGHBOUR: 'it returns false'. Refute it at one input. -/
def lifePlaysWrong : ChangeSpec := { name := "lifePlays", fn := fun _ => fun
  | [d1, d2, d3, d4] => { results := [.lit (.bool false)], args := [d1, d2, d3, d4] }
  | _ => none }
def LifePlaysWrongFalsely : Prop := lifePlaysRow.holds Try.pinned (OpenSpec.ofChange lifePlaysWrong)

/-- 'dolmenlaw10.LifeNeeded': WHATEVER THE INPUT: true; the input reads as it did. -/
def lifeNeededSpec : ChangeSpec := { name := "lifeNeeded", fn := fun _ => fun
  | [d1, d2, d3] => { results := [.lit (.bool true)], args := [d1, d2, d3] }
  | _ => none }
def lifeNeededRow : OpenClaim := { program := "ytbkciencikdacaa", sum := "61c27c0bfb5d3d7f0a91b4d49cad90cefa4792ca7530fa0e1b97f85a4d870dd7", func := "dolmen/dolmenlaw10.LifeNeeded", spec := "lifeNeeded", inPlace := ["slices.overlaps[dolmen/life.thing]", "internal/reflectlite.TypeOf"], unfollowed := true, recurses := true, apart := false }
def LifeNeededSaid : Prop := lifeNeededRow.holds Try.pinned (OpenSpec.ofChange lifeNeededSpec)

/-- ITS FALSE NEIGHBOUR: 'it returns false'. Refute it at one input. -/
def lifeNeededWrong : ChangeSpec := { name := "lifeNeeded", fn := fun _ => fun
  | [d1, d2, d3] => { results := [.lit (.bool false)], args := [d1, d2, d3] }
  | _ => none }
def LifeNeededWrongFalsely : Prop := lifeNeededRow.holds Try.pinned (OpenSpec.ofChange lifeNeededWrong)

/-- 'dolmenlaw10.LifeSpans': WHATEVER THE INPUT: true; the input reads as it did. -/
def lifeSpansSpec : ChangeSpec := { name := "lifeSpans", fn := fun _ => fun
  | [d1, d2, d3, d4] => { results := [.lit (.bool true)], args := [d1, d2, d3, d4] }
  | _ => none }
def lifeSpansRow : OpenClaim := { program := "ytbkciencikdacaa", sum := "61c27c0bfb5d3d7f0a91b4d49cad90cefa4792ca7530fa0e1b97f85a4d870dd7", func := "dolmen/dolmenlaw10.LifeSpans", spec := "lifeSpans", inPlace := ["slices.overlaps[dolmen/life.thing]", "internal/reflectlite.TypeOf"], unfollowed := true, recurses := true, apart := false }
def LifeSpansSaid : Prop := lifeSpansRow.holds Try.pinned (OpenSpec.ofChange lifeSpansSpec)

/-- ITS FALSE NEIGHBOUR: 'it returns false'. Refute it at one input. -/
def lifeSpansWrong : ChangeSpec := { name := "lifeSpans", fn := fun _ => fun
  | [d1, d2, d3, d4] => { results := [.lit (.bool false)], args := [d1, d2, d3, d4] }
  | _ => none }
def LifeSpansWrongFalsely : Prop := lifeSpansRow.holds Try.pinned (OpenSpec.ofChange lifeSpansWrong)

/-- 'dolmenlaw10.LifeNothing': WHATEVER THE INPUT: true; the input reads as it did. -/
def lifeNothingSpec : ChangeSpec := { name := "lifeNothing", fn := fun _ => fun
  | [d] => { results := [.lit (.bool true)], args := [d] }
  | _ => none }
def lifeNothingRow : OpenClaim := { program := "ytbkciencikdacaa", sum := "61c27c0bfb5d3d7f0a91b4d49cad90cefa4792ca7530fa0e1b97f85a4d870dd7", func := "dolmen/dolmenlaw10.LifeNothing", spec := "lifeNothing", inPlace := ["slices.overlaps[dolmen/life.thing]", "internal/reflectlite.TypeOf"], unfollowed := true, recurses := true, apart := false }
def LifeNothingSaid : Prop := lifeNothingRow.holds Try.pinned (OpenSpec.ofChange lifeNothingSpec)

/-- ITS FALSE NEIGHBOUR: 'it returns false'. Refute it at one input. -/
def lifeNothingWrong : ChangeSpec := { name := "lifeNothing", fn := fun _ => fun
  | [d] => { results := [.lit (.bool false)], args := [d] }
  | _ => none }
def LifeNothingWrongFalsely : Prop := lifeNothingRow.holds Try.pinned (OpenSpec.ofChange lifeNothingWrong)

/-- 'dolmenlaw10.LifeDrops': WHATEVER THE INPUT: true; the input reads as it did. -/
def lifeDropsSpec : ChangeSpec := { name := "lifeDrops", fn := fun _ => fun
  | [d1, d2] => { results := [.lit (.bool true)], args := [d1, d2] }
  | _ => none }
def lifeDropsRow : OpenClaim := { program := "ytbkciencikdacaa", sum := "61c27c0bfb5d3d7f0a91b4d49cad90cefa4792ca7530fa0e1b97f85a4d870dd7", func := "dolmen/dolmenlaw10.LifeDrops", spec := "lifeDrops", inPlace := ["slices.overlaps[dolmen/life.thing]", "internal/reflectlite.TypeOf"], unfollowed := true, recurses := true, apart := false }
def LifeDropsSaid : Prop := lifeDropsRow.holds Try.pinned (OpenSpec.ofChange lifeDropsSpec)

/-- ITS FALSE NEIGHBOUR: 'it returns false'. Refute it at one input. -/
def lifeDropsWrong : ChangeSpec := { name := "lifeDrops", fn := fun _ => fun
  | [d1, d2] => { results := [.lit (.bool false)], args := [d1, d2] }
  | _ => none }
def LifeDropsWrongFalsely : Prop := lifeDropsRow.holds Try.pinned (OpenSpec.ofChange lifeDropsWrong)

/- THE SECOND FORM. 'bulk': how many values and letters a reading holds, each counted each time it is reached (what is shared counts as often as it is met; a slice's spare places count too). A statement '..UptoSaid' is the law's where the arguments, and the package variables that the reading takes, are together of bulk at most 1048576: NARROWER than '..Said'. Prove '..Said' where nothing that the law and all that it calls make is longer than what came in: it says more and counts as full. Else prove '..UptoSaid'. A law counts once. -/
mutual
def uptoBulk {H : Type} : DataW H → Nat
  | .lit (.string bytes) => bytes.length + 1
  | .lit _ => 1
  | .nil => 1
  | .ptr d => uptoBulk d + 1
  | .slice elems spare => uptoBulkAll elems + uptoBulkAll spare + 1
  | .agg parts => uptoBulkAll parts + 1
  | .iface _ d => uptoBulk d + 1
  | .map entries => uptoBulkEntries entries + 1
  | .held _ => 1
def uptoBulkAll {H : Type} : List (DataW H) → Nat
  | [] => 0
  | d :: r => uptoBulk d + uptoBulkAll r
def uptoBulkEntries {H : Type} : List (Lit × DataW H) → Nat
  | [] => 0
  | x :: r => uptoBulkEntry x + uptoBulkEntries r
def uptoBulkEntry {H : Type} : Lit × DataW H → Nat
  | (.string bytes, d) => bytes.length + uptoBulk d + 1
  | (_, d) => uptoBulk d + 1
 end
def uptoSmall : (H : Type) → List (DataW H) → Bool := fun _ ds => decide (uptoBulkAll ds ≤ 1048576)
def OpenSpec.upto (s : _root_.Go.ChangeSpec) : _root_.Go.OpenSpec := { _root_.Go.OpenSpec.ofChange s with cond := some uptoSmall }

/-- 'dolmenlaw10.LifePlays', WHERE WHAT IT READS IS OF BULK AT MOST 1048576: true; the input reads as it did. -/
def lifePlaysUptoRow : OpenClaim := { program := "ytbkciencikdacaa", sum := "61c27c0bfb5d3d7f0a91b4d49cad90cefa4792ca7530fa0e1b97f85a4d870dd7", func := "dolmen/dolmenlaw10.LifePlays", spec := "lifePlays", inPlace := ["slices.overlaps[dolmen/life.thing]", "internal/reflectlite.TypeOf"], unfollowed := true, recurses := true, apart := false, narrowed := true }
def LifePlaysUptoSaid : Prop := lifePlaysUptoRow.holds Try.pinned (OpenSpec.upto lifePlaysSpec)

/-- 'dolmenlaw10.LifeNeeded', WHERE WHAT IT READS IS OF BULK AT MOST 1048576: true; the input reads as it did. -/
def lifeNeededUptoRow : OpenClaim := { program := "ytbkciencikdacaa", sum := "61c27c0bfb5d3d7f0a91b4d49cad90cefa4792ca7530fa0e1b97f85a4d870dd7", func := "dolmen/dolmenlaw10.LifeNeeded", spec := "lifeNeeded", inPlace := ["slices.overlaps[dolmen/life.thing]", "internal/reflectlite.TypeOf"], unfollowed := true, recurses := true, apart := false, narrowed := true }
def LifeNeededUptoSaid : Prop := lifeNeededUptoRow.holds Try.pinned (OpenSpec.upto lifeNeededSpec)

/-- 'dolmenlaw10.LifeSpans', WHERE WHAT IT READS IS OF BULK AT MOST 1048576: true; the input reads as it did. -/
def lifeSpansUptoRow : OpenClaim := { program := "ytbkciencikdacaa", sum := "61c27c0bfb5d3d7f0a91b4d49cad90cefa4792ca7530fa0e1b97f85a4d870dd7", func := "dolmen/dolmenlaw10.LifeSpans", spec := "lifeSpans", inPlace := ["slices.overlaps[dolmen/life.thing]", "internal/reflectlite.TypeOf"], unfollowed := true, recurses := true, apart := false, narrowed := true }
def LifeSpansUptoSaid : Prop := lifeSpansUptoRow.holds Try.pinned (OpenSpec.upto lifeSpansSpec)

/-- 'dolmenlaw10.LifeNothing', WHERE WHAT IT READS IS OF BULK AT MOST 1048576: true; the input reads as it did. -/
def lifeNothingUptoRow : OpenClaim := { program := "ytbkciencikdacaa", sum := "61c27c0bfb5d3d7f0a91b4d49cad90cefa4792ca7530fa0e1b97f85a4d870dd7", func := "dolmen/dolmenlaw10.LifeNothing", spec := "lifeNothing", inPlace := ["slices.overlaps[dolmen/life.thing]", "internal/reflectlite.TypeOf"], unfollowed := true, recurses := true, apart := false, narrowed := true }
def LifeNothingUptoSaid : Prop := lifeNothingUptoRow.holds Try.pinned (OpenSpec.upto lifeNothingSpec)

/-- 'dolmenlaw10.LifeDrops', WHERE WHAT IT READS IS OF BULK AT MOST 1048576: true; the input reads as it did. -/
def lifeDropsUptoRow : OpenClaim := { program := "ytbkciencikdacaa", sum := "61c27c0bfb5d3d7f0a91b4d49cad90cefa4792ca7530fa0e1b97f85a4d870dd7", func := "dolmen/dolmenlaw10.LifeDrops", spec := "lifeDrops", inPlace := ["slices.overlaps[dolmen/life.thing]", "internal/reflectlite.TypeOf"], unfollowed := true, recurses := true, apart := false, narrowed := true }
def LifeDropsUptoSaid : Prop := lifeDropsUptoRow.holds Try.pinned (OpenSpec.upto lifeDropsSpec)

end Rows
end Go.Proofs.Ytbkciencikdacaa
