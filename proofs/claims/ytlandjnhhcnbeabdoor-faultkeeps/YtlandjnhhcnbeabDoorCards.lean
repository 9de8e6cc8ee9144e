/-
  DERIVED. GIVEN WITH THE SEED: THE CARDS: each row of YtlandjnhhcnbeabDoorRows.lean that lists a variable, with what it lists TIED to the program's text (the seventh form; the later family's looks); each row that meets fmt, with fmt's text TOLD by the authors' own Lean function (tested against real Go, not proved from fmt's source: count such statements apart). THE CARD IS WHAT COUNTS. Prove the row's statement (the work); the ties are given (YtlandjnhhcnbeabDoorTie.lean); close each card by the builder's one call (the guide's Derived/Test/ToyasCard.lean, 'card_holds'). Laid BY PROGRAM, IN A SANDBOX (cutbox-door.mjs). By AI agents, Wed Nov 11 2026. No macro, syntax, notation, axiom, sorry.
-/
import Derived.Test.YtlandjnhhcnbeabDoorRows
import GoSem.ClaimSeven
namespace Go.Proofs.YtlandjnhhcnbeabDoor
namespace Rows

/-- THE TIED CARD OF 'dolmenlaw3.FaultKeeps'. -/
def faultKeepsCard : Claim7 := { stood := { row := faultKeepsRow, standIns := [], harness := (true, "1c377766459b0b6dab11d8dbae8aed13f6aea35f51e5b1d5f2154fc50a2ab3b9"), looks := true }, kinds := [], alts := [], laidByText := true, laidKinds := [.handle], laidTests := true, laidLooks := .later }
def FaultKeepsCardSaid : Prop := Claim7.holds Tryd.pinned (.plain (OpenSpec.ofChange faultKeepsSpec)) faultKeepsCard

/-- THE SECOND FORM's CARD OF 'dolmenlaw3.FaultKeeps'. -/
def faultKeepsUptoCard : Claim7 := { stood := { row := faultKeepsUptoRow, standIns := [], harness := (true, "1c377766459b0b6dab11d8dbae8aed13f6aea35f51e5b1d5f2154fc50a2ab3b9"), looks := true }, kinds := [], alts := [], laidByText := true, laidKinds := [.handle], laidTests := true, laidLooks := .later }
def FaultKeepsUptoCardSaid : Prop := Claim7.holds Tryd.pinned (.plain (OpenSpec.upto faultKeepsSpec)) faultKeepsUptoCard
end Rows
end Go.Proofs.YtlandjnhhcnbeabDoor
