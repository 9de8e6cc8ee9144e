/- dolmenlaw11.small. -/
import Derived.Test.YthjcmagionaepaaLStepsT
import Derived.Deep.RegionWith
import Derived.Deep.CutRange
namespace Go.Proofs.Ythjcmagionaepaa
open Go.RowKit Kit
set_option linter.unusedVariables false

end Go.Proofs.Ythjcmagionaepaa
