/- dolmenlaw11.TablePlays, over any table that is held to the contracts. -/
import Derived.Test.YthjcmagionaepaaLDoesT
import Derived.Test.YthjcmagionaepaaLAwakeT
import Derived.Test.YthjcmagionaepaaLSmallT
import Derived.Test.YthjcmagionaepaaLRowsT
import Derived.Test.YthjcmagionaepaaRTexts
import Derived.Deep.RegionHeld3
namespace Go.Proofs.Ythjcmagionaepaa
open Go.RowKit Kit
set_option linter.unusedVariables false
variable {T : World → Nat → Nat → (Nat → Prop) → Tb → Prop}

end Go.Proofs.Ythjcmagionaepaa
