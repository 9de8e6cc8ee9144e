/- dolmenref9.Epoch, Holds, holdsAny. -/
import Derived.Test.YthjcmagionaepaaProg
import Derived.Test.YthjcmagionaepaaMHold
import Derived.Test.YthjcmagionaepaaGKit
import Derived.Deep.RegionHeld3
import Derived.Deep.RegionWith
import Derived.Deep.DeepCutAuto
import Derived.BigQuiet
namespace Go.Proofs.Ythjcmagionaepaa
open Go.RowKit Kit
set_option linter.unusedVariables false

theorem any_snoc (p : Int → Bool) (l : List Int) (i : Nat) (h : i < l.length) : (l.take (i + 1)).any p = ((l.take i).any p || p (l.getD i 0)) := by
  rw [List.take_succ_eq_append_getElem h, List.any_append]
  simp [List.getD, h]
end Go.Proofs.Ythjcmagionaepaa
