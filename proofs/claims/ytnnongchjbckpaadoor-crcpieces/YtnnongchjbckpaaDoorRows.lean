/-
  NARROWER THAN 'FOR EVERY INPUT', by the rows' own cells (each row's printed sentence says how): CrcAsks: laid · CrcPieces: laid · CrcFlips: laid · CrcAdds: laid · CrcSeals: laid.
  DERIVED. THE GIVEN ROWS OF THIS SEAT. 5 by the template 'for every input the law returns true; each argument reads behind the call as it read before'; 0 by the template 'total and deterministic' (their statements: YtnnongchjbckpaaDoorTotals.lean).
  GIVEN WITH THE SEED: the statements are not yours to turn. If you find one false, say at which input.
  Laid BY PROGRAM, IN A SANDBOX (cutbox-rows.mjs): the forced cells as the released guide's own fill.sh prints them over the translation 84d228e408a6691d… (all of the seat's roots in one cut). By AI agents, Wed Nov 11 2026. No macro, syntax, notation, axiom, sorry.
-/
import Derived.Test.YtnnongchjbckpaaDoorChecked
import GoSem.Claim
import GoSem.ClaimJoined
import GoSem.ClaimMapViews
import Derived.JoinedTies
import Derived.KernelRfl
namespace Go.Proofs.YtnnongchjbckpaaDoor
/- THE CELL 'sum', in the pinned program and in every row, IS THE sha256 OF THE DUMP (.gsa) THAT YtnnongchjbckpaaDoorProg.lean LOADS. Nothing in Lean hashes anything: it is a label: what it is worth is what the hold of that sum in a sandbox is worth. -/
noncomputable def Tryd.pinned : Pinned := { name := "ytnnongchjbckpaadoor", sum := "84d228e408a6691d09d43ce2dd33935c372e4e1cdefc29b84aa4e11534ef3185", checked := Tryd.checked }
namespace Rows
def none {H : Type} : Left H := { results := [], args := [] }

/- WHAT THE LISTED PACKAGE-LEVEL VARIABLES READ AS WHEN THE CALL BEGINS. Each datum BY PROGRAM (the guide's laid-datum.mjs) off the statement by which the dump's own 'gosem.cut.vars' lays the variable. In a bare row this is a premise. The card (YtnnongchjbckpaaDoorCards.lean) ties it to the program's text. -/
def laid_dolmen_crc_afterNibble {H : Type} : DataW H := .agg [.lit (.int .u32 0), .lit (.int .u32 498536548), .lit (.int .u32 997073096), .lit (.int .u32 651767980), .lit (.int .u32 1994146192), .lit (.int .u32 1802195444), .lit (.int .u32 1303535960), .lit (.int .u32 1342533948), .lit (.int .u32 3988292384), .lit (.int .u32 4027552580), .lit (.int .u32 3604390888), .lit (.int .u32 3412177804), .lit (.int .u32 2607071920), .lit (.int .u32 2262029012), .lit (.int .u32 2685067896), .lit (.int .u32 3183342108)]

/-- 'dolmenlaw2.CrcAsks': WHATEVER THE INPUT: true; the input reads as it did. -/
def crcAsksSpec : ChangeSpec := { name := "crcAsks", fn := fun _ => fun
  | [d1, d2, d3] => { results := [.lit (.bool true)], args := [d1, d2, d3] }
  | _ => none }
def crcAsksRow : OpenClaim := { program := "ytnnongchjbckpaadoor", sum := "84d228e408a6691d09d43ce2dd33935c372e4e1cdefc29b84aa4e11534ef3185", func := "dolmen/dolmenlaw2.CrcAsks", spec := "crcAsks", named := ["dolmen/crc.afterNibble"], apart := false, laid := [("dolmen/crc.afterNibble", laid_dolmen_crc_afterNibble)] }
def CrcAsksSaid : Prop := crcAsksRow.holds Tryd.pinned (OpenSpec.ofChange crcAsksSpec)

/-- ITS FALSE NEIGHBOUR: 'it returns false'. Refute it at one input. -/
def crcAsksWrong : ChangeSpec := { name := "crcAsks", fn := fun _ => fun
  | [d1, d2, d3] => { results := [.lit (.bool false)], args := [d1, d2, d3] }
  | _ => none }
def CrcAsksWrongFalsely : Prop := crcAsksRow.holds Tryd.pinned (OpenSpec.ofChange crcAsksWrong)

/-- 'dolmenlaw2.CrcPieces': WHATEVER THE INPUT: true; the input reads as it did. -/
def crcPiecesSpec : ChangeSpec := { name := "crcPieces", fn := fun _ => fun
  | [d1, d2] => { results := [.lit (.bool true)], args := [d1, d2] }
  | _ => none }
def crcPiecesRow : OpenClaim := { program := "ytnnongchjbckpaadoor", sum := "84d228e408a6691d09d43ce2dd33935c372e4e1cdefc29b84aa4e11534ef3185", func := "dolmen/dolmenlaw2.CrcPieces", spec := "crcPieces", named := ["dolmen/crc.afterNibble"], apart := false, laid := [("dolmen/crc.afterNibble", laid_dolmen_crc_afterNibble)] }
def CrcPiecesSaid : Prop := crcPiecesRow.holds Tryd.pinned (OpenSpec.ofChange crcPiecesSpec)

/-- ITS FALSE NEIGHBOUR: 'it returns false'. Refute it at one input. -/
def crcPiecesWrong : ChangeSpec := { name := "crcPieces", fn := fun _ => fun
  | [d1, d2] => { results := [.lit (.bool false)], args := [d1, d2] }
  | _ => none }
def CrcPiecesWrongFalsely : Prop := crcPiecesRow.holds Tryd.pinned (OpenSpec.ofChange crcPiecesWrong)

/-- 'dolmenlaw2.CrcFlips': WHATEVER THE INPUT: true; the input reads as it did. -/
def crcFlipsSpec : ChangeSpec := { name := "crcFlips", fn := fun _ => fun
  | [d1, d2, d3] => { results := [.lit (.bool true)], args := [d1, d2, d3] }
  | _ => none }
def crcFlipsRow : OpenClaim := { program := "ytnnongchjbckpaadoor", sum := "84d228e408a6691d09d43ce2dd33935c372e4e1cdefc29b84aa4e11534ef3185", func := "dolmen/dolmenlaw2.CrcFlips", spec := "crcFlips", named := ["dolmen/crc.afterNibble"], apart := false, laid := [("dolmen/crc.afterNibble", laid_dolmen_crc_afterNibble)] }
def CrcFlipsSaid : Prop := crcFlipsRow.holds Tryd.pinned (OpenSpec.ofChange crcFlipsSpec)

/-- ITS FALSE NEIGHBOUR: 'it returns false'. Refute it at one input. -/
def crcFlipsWrong : ChangeSpec := { name := "crcFlips", fn := fun _ => fun
  | [d1, d2, d3] => { results := [.lit (.bool false)], args := [d1, d2, d3] }
  | _ => none }
def CrcFlipsWrongFalsely : Prop := crcFlipsRow.holds Tryd.pinned (OpenSpec.ofChange crcFlipsWrong)

/-- 'dolmenlaw2.CrcAdds': WHATEVER THE INPUT: true; the input reads as it did. -/
def crcAddsSpec : ChangeSpec := { name := "crcAdds", fn := fun _ => fun
  | [d1, d2, d3] => { results := [.lit (.bool true)], args := [d1, d2, d3] }
  | _ => none }
def crcAddsRow : OpenClaim := { program := "ytnnongchjbckpaadoor", sum := "84d228e408a6691d09d43ce2dd33935c372e4e1cdefc29b84aa4e11534ef3185", func := "dolmen/dolmenlaw2.CrcAdds", spec := "crcAdds", named := ["dolmen/crc.afterNibble"], apart := false, laid := [("dolmen/crc.afterNibble", laid_dolmen_crc_afterNibble)] }
def CrcAddsSaid : Prop := crcAddsRow.holds Tryd.pinned (OpenSpec.ofChange crcAddsSpec)

/-- ITS FALSE NEIGHBOUR: 'it returns false'. Refute it at one input. -/
def crcAddsWrong : ChangeSpec := { name := "crcAdds", fn := fun _ => fun
  | [d1, d2, d3] => { results := [.lit (.bool false)], args := [d1, d2, d3] }
  | _ => none }
def CrcAddsWrongFalsely : Prop := crcAddsRow.holds Tryd.pinned (OpenSpec.ofChange crcAddsWrong)

/-- 'dolmenlaw2.CrcSeals': WHATEVER THE INPUT: true; the input reads as it did. -/
def crcSealsSpec : ChangeSpec := { name := "crcSeals", fn := fun _ => fun
  | [d1, d2] => { results := [.lit (.bool true)], args := [d1, d2] }
  | _ => none }
def crcSealsRow : OpenClaim := { program := "ytnnongchjbckpaadoor", sum := "84d228e408a6691d09d43ce2dd33935c372e4e1cdefc29b84aa4e11534ef3185", func := "dolmen/dolmenlaw2.CrcSeals", spec := "crcSeals", named := ["dolmen/crc.afterNibble"], apart := false, laid := [("dolmen/crc.afterNibble", laid_dolmen_crc_afterNibble)] }
def CrcSealsSaid : Prop := crcSealsRow.holds Tryd.pinned (OpenSpec.ofChange crcSealsSpec)

/-- ITS FALSE NEIGHBOUR: 'it returns false'. Refute it at one input. -/
def crcSealsWrong : ChangeSpec := { name := "crcSeals", fn := fun _ => fun
  | [d1, d2] => { results := [.lit (.bool false)], args := [d1, d2] }
  | _ => none }
def CrcSealsWrongFalsely : Prop := crcSealsRow.holds Tryd.pinned (OpenSpec.ofChange crcSealsWrong)

/- THE SECOND FORM. 'bulk': how many values and letters a reading holds, each counted each time it is reached (what is shared counts as often as it is met; a slice's spare places count too). A statement '..UptoSaid' is the law's where the arguments, and the package variables that the reading takes, are together of bulk at most 1048576: NARROWER than '..Said'. Prove '..Said' where nothing that the law and all that it calls make is longer than what came in: it says more and counts as full. Else prove '..UptoSaid'. A law counts once. -/
mutual
def uptoBulk {H : Type} : DataW H → Nat
  | .lit (.string bytes) => bytes.length + 1
  | .lit _ => 1
  | .nil => 1
  | .ptr d => uptoBulk d + 1
  | .slice elems spare => uptoBulkAll elems + uptoBulkAll spare + 1
  | .agg parts => uptoBulkAll parts + 1
  | .iface _ d => uptoBulk d + 1
  | .map entries => uptoBulkEntries entries + 1
  | .held _ => 1
def uptoBulkAll {H : Type} : List (DataW H) → Nat
  | [] => 0
  | d :: r => uptoBulk d + uptoBulkAll r
def uptoBulkEntries {H : Type} : List (Lit × DataW H) → Nat
  | [] => 0
  | x :: r => uptoBulkEntry x + uptoBulkEntries r
def uptoBulkEntry {H : Type} : Lit × DataW H → Nat
  | (.string bytes, d) => bytes.length + uptoBulk d + 1
  | (_, d) => uptoBulk d + 1
 end
def uptoSmall : (H : Type) → List (DataW H) → Bool := fun _ ds => decide (uptoBulkAll ds ≤ 1048576)
def OpenSpec.upto (s : _root_.Go.ChangeSpec) : _root_.Go.OpenSpec := { _root_.Go.OpenSpec.ofChange s with cond := some uptoSmall }

/-- 'dolmenlaw2.CrcAsks', WHERE WHAT IT READS IS OF BULK AT MOST 1048576: true; the input reads as it did. -/
def crcAsksUptoRow : OpenClaim := { program := "ytnnongchjbckpaadoor", sum := "84d228e408a6691d09d43ce2dd33935c372e4e1cdefc29b84aa4e11534ef3185", func := "dolmen/dolmenlaw2.CrcAsks", spec := "crcAsks", named := ["dolmen/crc.afterNibble"], apart := false, laid := [("dolmen/crc.afterNibble", laid_dolmen_crc_afterNibble)], narrowed := true }
def CrcAsksUptoSaid : Prop := crcAsksUptoRow.holds Tryd.pinned (OpenSpec.upto crcAsksSpec)

/-- 'dolmenlaw2.CrcPieces', WHERE WHAT IT READS IS OF BULK AT MOST 1048576: true; the input reads as it did. -/
def crcPiecesUptoRow : OpenClaim := { program := "ytnnongchjbckpaadoor", sum := "84d228e408a6691d09d43ce2dd33935c372e4e1cdefc29b84aa4e11534ef3185", func := "dolmen/dolmenlaw2.CrcPieces", spec := "crcPieces", named := ["dolmen/crc.afterNibble"], apart := false, laid := [("dolmen/crc.afterNibble", laid_dolmen_crc_afterNibble)], narrowed := true }
def CrcPiecesUptoSaid : Prop := crcPiecesUptoRow.holds Tryd.pinned (OpenSpec.upto crcPiecesSpec)

/-- 'dolmenlaw2.CrcFlips', WHERE WHAT IT READS IS OF BULK AT MOST 1048576: true; the input reads as it did. -/
def crcFlipsUptoRow : OpenClaim := { program := "ytnnongchjbckpaadoor", sum := "84d228e408a6691d09d43ce2dd33935c372e4e1cdefc29b84aa4e11534ef3185", func := "dolmen/dolmenlaw2.CrcFlips", spec := "crcFlips", named := ["dolmen/crc.afterNibble"], apart := false, laid := [("dolmen/crc.afterNibble", laid_dolmen_crc_afterNibble)], narrowed := true }
def CrcFlipsUptoSaid : Prop := crcFlipsUptoRow.holds Tryd.pinned (OpenSpec.upto crcFlipsSpec)

/-- 'dolmenlaw2.CrcAdds', WHERE WHAT IT READS IS OF BULK AT MOST 1048576: true; the input reads as it did. -/
def crcAddsUptoRow : OpenClaim := { program := "ytnnongchjbckpaadoor", sum := "84d228e408a6691d09d43ce2dd33935c372e4e1cdefc29b84aa4e11534ef3185", func := "dolmen/dolmenlaw2.CrcAdds", spec := "crcAdds", named := ["dolmen/crc.afterNibble"], apart := false, laid := [("dolmen/crc.afterNibble", laid_dolmen_crc_afterNibble)], narrowed := true }
def CrcAddsUptoSaid : Prop := crcAddsUptoRow.holds Tryd.pinned (OpenSpec.upto crcAddsSpec)

/-- 'dolmenlaw2.CrcSeals', WHERE WHAT IT READS IS OF BULK AT MOST 1048576: true; the input reads as it did. -/
def crcSealsUptoRow : OpenClaim := { program := "ytnnongchjbckpaadoor", sum := "84d228e408a6691d09d43ce2dd33935c372e4e1cdefc29b84aa4e11534ef3185", func := "dolmen/dolmenlaw2.CrcSeals", spec := "crcSeals", named := ["dolmen/crc.afterNibble"], apart := false, laid := [("dolmen/crc.afterNibble", laid_dolmen_crc_afterNibble)], narrowed := true }
def CrcSealsUptoSaid : Prop := crcSealsUptoRow.holds Tryd.pinned (OpenSpec.upto crcSealsSpec)

end Rows
end Go.Proofs.YtnnongchjbckpaaDoor
