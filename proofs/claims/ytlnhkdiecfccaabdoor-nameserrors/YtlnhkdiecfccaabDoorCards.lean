/-
  DERIVED. GIVEN WITH THE SEED: THE CARDS: each row of YtlnhkdiecfccaabDoorRows.lean that lists a variable, with what it lists TIED to the program's text (the seventh form; the later family's looks); each row that meets fmt, with fmt's text TOLD by the authors' own Lean function (tested against real Go, not proved from fmt's source: count such statements apart). THE CARD IS WHAT COUNTS. Prove the row's statement (the work); the ties are given (YtlnhkdiecfccaabDoorTie.lean); close each card by the builder's one call (the guide's Derived/Test/ToyasCard.lean, 'card_holds'). Laid BY PROGRAM, IN A SANDBOX (cutbox-door.mjs). By AI agents, Wed Nov 11 2026. No macro, syntax, notation, axiom, sorry.
-/
import Derived.Test.YtlnhkdiecfccaabDoorRows
import GoSem.ClaimSeven
namespace Go.Proofs.YtlnhkdiecfccaabDoor
namespace Rows

/-- THE TIED CARD OF 'dolmenlaw4.NamesErrors'. -/
def namesErrorsCard : Claim7 := { stood := { row := namesErrorsRow, standIns := [], harness := (true, "959b1b8c0ec4508ac21f29f108c9ed530ed57e400a52681f8227d7ca7d946a5d"), looks := true }, kinds := [], alts := [], laidByText := true, laidKinds := [.data, .pinned], laidTests := true, laidLooks := .later }
def NamesErrorsCardSaid : Prop := Claim7.holds Tryd.pinned (.plain (OpenSpec.ofChange namesErrorsSpec)) namesErrorsCard

/-- THE SECOND FORM's CARD OF 'dolmenlaw4.NamesErrors'. -/
def namesErrorsUptoCard : Claim7 := { stood := { row := namesErrorsUptoRow, standIns := [], harness := (true, "959b1b8c0ec4508ac21f29f108c9ed530ed57e400a52681f8227d7ca7d946a5d"), looks := true }, kinds := [], alts := [], laidByText := true, laidKinds := [.data, .pinned], laidTests := true, laidLooks := .later }
def NamesErrorsUptoCardSaid : Prop := Claim7.holds Tryd.pinned (.plain (OpenSpec.upto namesErrorsSpec)) namesErrorsUptoCard
end Rows
end Go.Proofs.YtlnhkdiecfccaabDoor
