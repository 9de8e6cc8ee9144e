/- The document's table: Add, Remove. -/
import Derived.Test.YthjcmagionaepaaRTab
import Derived.Test.YthjcmagionaepaaGKit
namespace Go.Proofs.Ythjcmagionaepaa
open Go.RowKit Kit
set_option linter.unusedVariables false

end Go.Proofs.Ythjcmagionaepaa
