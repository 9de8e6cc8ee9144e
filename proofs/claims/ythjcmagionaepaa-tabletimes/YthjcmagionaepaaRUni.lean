/- The document's table: one contract a function, over a run's mathematics. -/
import Derived.Test.YthjcmagionaepaaRAll
import Derived.Test.YthjcmagionaepaaMTb
namespace Go.Proofs.Ythjcmagionaepaa
open Go.RowKit Kit
set_option linter.unusedVariables false

end Go.Proofs.Ythjcmagionaepaa
