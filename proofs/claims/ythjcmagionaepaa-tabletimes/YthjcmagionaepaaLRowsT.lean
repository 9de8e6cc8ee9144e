/- dolmenlaw11.rows: entries beside rows. -/
import Derived.Test.YthjcmagionaepaaRTabN
namespace Go.Proofs.Ythjcmagionaepaa
open Go.RowKit Kit
set_option linter.unusedVariables false

end Go.Proofs.Ythjcmagionaepaa
