/- dolmenref1.letter: what one call answers. -/
import Derived.Test.YtlnhkdiecfccaabDoorProg
import Derived.WalkKit
import Derived.ProofKit
import Derived.Below
namespace Go.Proofs.YtlnhkdiecfccaabDoor
open Go.RowKit
set_option linter.unusedVariables false

/-- May a byte stand in a name? -/
def letterB (c : Int) : Bool := (decide (97 ≤ c) && decide (c ≤ 122)) || (decide (65 ≤ c) && decide (c ≤ 90)) || (decide (48 ≤ c) && decide (c ≤ 57)) || (c == 46) || (c == 95) || (c == 45)

end Go.Proofs.YtlnhkdiecfccaabDoor
