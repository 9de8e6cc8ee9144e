/- dolmenref5.Texts: are two lists of texts alike? -/
import Derived.Test.YthjcmagionaepaaRSorted
namespace Go.Proofs.Ythjcmagionaepaa
open Go.RowKit Kit
set_option linter.unusedVariables false

theorem ret_bool {a b : Bool} (h : Hid (a = b)) : Ending.returned (.bool b) = .returned (.bool a) := by rw [h.out]
theorem alike_all {l m : List ByteArray} (hl : l.length = m.length) (h : ∀ j, j < l.length → l.getD j ⟨#[]⟩ = m.getD j ⟨#[]⟩) : l = m := by
  apply List.ext_getElem hl
  intro i h1 h2
  have := h i h1
  simpa [List.getD, h1, h2] using this

end Go.Proofs.Ythjcmagionaepaa
