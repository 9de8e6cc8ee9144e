/- What the rows' condition on the listed table gives the walks; a state that meets it. -/
import Derived.Test.YtnnongchjbckpaaDoorRows
import Derived.Test.YtnnongchjbckpaaDoorAwake
import Derived.ProofKit
import Derived.LaidMore
import Derived.OpenShut
import Derived.Stop.Joined
import Derived.Lib.LaidTab
namespace Go.Proofs.YtnnongchjbckpaaDoor
open Go.ChangeShapes Go.WideShapes Go.ChangeAt Go.RowKit

/-- The list of the rows: one table. -/
def laid1 : List (String × DataW Unit) := Rows.crcSealsRow.laid
def tabName : String := (laid1.map Prod.fst).head (by decide)
theorem own : ownKnob Tryd.prog.godebug = none := by kernel_rfl
theorem laidOut : laidOutB Tryd.prog = true := by kernel_rfl
theorem gTab : Tryd.prog.globalNamed tabName = some 0 := by kernel_rfl
theorem tTab : (Tryd.prog.globals[0]?).map (·.type) = some 52 := by kernel_rfl
theorem c26 : Tryd.prog.cellsOf 26 = 1 := by kernel_rfl
theorem c52 : Tryd.prog.cellsOf 52 = 16 := by kernel_rfl
theorem laid1_is : laid1 = (tabName, Lib.tabData .u32 nibs) :: [] := rfl

theorem door_met (os : Os) (args : Array Value) : laidMetH Tryd.prog laid1 ((World.doorLaid Tryd.prog 14 os).forCall (fun _ _ => 0) ⟨#[], args, []⟩).memory :=
  laidMetH_of_parts3 (fuel := 8) (laidMet_of_run' 8 (by kernel_rfl) (by kernel_rfl)) (by kernel_rfl) (by kernel_rfl)

/-- The table's cells. -/
theorem tab_of_laid {W : World} (h : laidMetH Tryd.prog laid1 W) : Tab W := by
  rw [MakeChecks.laidMetH_plain _ _ _ (by kernel_rfl), laid1_is] at h
  have hT := Lib.tabIs_of_head gTab tTab Tryd.underlying52 Tryd.underlying26 c26 c52 h
  intro i hi
  rw [hT.cell gTab i (by simpa [nibs] using hi), nibs_at i hi]
end Go.Proofs.YtnnongchjbckpaaDoor
