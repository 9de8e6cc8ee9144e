/- crc.shiftNibble, (*crc.Sum).Sum: what one call answers. -/
import Derived.Test.YtnnongchjbckpaaDoorCrcM
import Derived.Test.YtnnongchjbckpaaDoorChecked
namespace Go.Proofs.YtnnongchjbckpaaDoor
open Go.ChangeShapes Go.WideShapes Go.ChangeAt Go.RowKit
set_option linter.unusedVariables false

/-- The table lies where the program has it. -/
def Tab (w : World) : Prop := ∀ i, i < 16 → w.cell? ⟨0, i, none⟩ = some (.int .u32 ((cSteps 4 i : Nat) : Int))
theorem Tab.below {w w' : World} {B : Nat} (h : Tab w) (hb : Below B w w') (hB : 0 < B) : Tab w' := fun i hi => (hb.cell (by exact hB)).trans (h i hi)

set_option maxHeartbeats 400000 in
theorem nib_any (r : Nat) (hr : Hid (r < 4294967296)) (w : World) (ht : Tab w) :
    Calls Tryd.prog 23 #[.int .u32 (r : Int)] w fun e w' => e = .returned (.int .u32 ((cSteps 4 r : Nat) : Int)) ∧ w' = w := by
  have e15 := and15 r hr
  have hc := ht (r % 16) (by omega)
  have hb : ((r % 16 : Nat) : Int) < 16 := by omega
  have HV : Hid (_ = _) := nib_val r hr
  go_enter Tryd.func23, Tryd.ntmps23
  go_wp2
  go_ret
  exact ⟨congrArg (fun t => Ending.returned (.int .u32 t)) HV.out, rfl⟩
end Go.Proofs.YtnnongchjbckpaaDoor
