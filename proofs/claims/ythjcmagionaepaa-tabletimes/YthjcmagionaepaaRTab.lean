/- The document's table (dolmenref9.Table): how it lies; may, open, Find. -/
import Derived.Test.YthjcmagionaepaaMTab
import Derived.Test.YthjcmagionaepaaRHold
namespace Go.Proofs.Ythjcmagionaepaa
open Go.RowKit Kit
set_option linter.unusedVariables false

def tfoot (q : Nat) (sv : Value) (k : Nat) : Prop := k = q ∨ sv.ownBlock = some k
end Go.Proofs.Ythjcmagionaepaa
