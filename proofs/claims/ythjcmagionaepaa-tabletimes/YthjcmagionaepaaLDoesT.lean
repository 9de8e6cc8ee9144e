/- dolmenlaw11.does: a step on both tables. -/
import Derived.Test.YthjcmagionaepaaKTab
import Derived.Deep.RegionHeld3
namespace Go.Proofs.Ythjcmagionaepaa
open Go.RowKit Kit
set_option linter.unusedVariables false
variable {T : World → Nat → Nat → (Nat → Prop) → Tb → Prop}
end Go.Proofs.Ythjcmagionaepaa
