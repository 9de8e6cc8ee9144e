/- dolmenref1.letter: what one call answers. -/
import Derived.Test.YtchajlaflehodaaGreatDoorProg
import Derived.WalkKit
import Derived.ProofKit
import Derived.Below
namespace Go.Proofs.YtchajlaflehodaaGreatDoor
open Go.RowKit
set_option linter.unusedVariables false

/-- May a byte stand in a name? -/
def letterB (c : Int) : Bool := (decide (97 ≤ c) && decide (c ≤ 122)) || (decide (65 ≤ c) && decide (c ≤ 90)) || (decide (48 ≤ c) && decide (c ≤ 57)) || (c == 46) || (c == 95) || (c == 45)

set_option maxRecDepth 4000 in
set_option maxHeartbeats 1000000 in
theorem letter_any (c : Int) (w : World) : Calls Tryz.prog 54 #[.int .u8 c] w fun e w' => e = .returned (.bool (letterB c)) ∧ w' = w := by
  go_enter Tryz.func54, Tryz.ntmps54
  go_wp2
  all_goals go_ret
  all_goals refine ⟨?_, rfl⟩
  all_goals show Ending.returned (.bool _) = Ending.returned (.bool _)
  all_goals refine congrArg (fun b => Ending.returned (.bool b)) ?_
  all_goals (rw [Bool.eq_iff_iff]; simp [letterB]; try omega)
end Go.Proofs.YtchajlaflehodaaGreatDoor
