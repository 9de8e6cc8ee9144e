/- The program's table is held to the contracts that this seat's law asks. -/
import Derived.Test.YthjcmagionaepaaFAllT
import Derived.Test.YthjcmagionaepaaFRemT
namespace Go.Proofs.Ythjcmagionaepaa
open Go.RowKit Kit
set_option linter.unusedVariables false

theorem tabk : TabK TAt where
  below := TAt.below
  lo := TAt.lo
  mono := TAt.mono
  stay := fun h k hF => TAt.stay h k hF
  new := tnew_any
  add := fun name ino ep h hi hl hn => tadd_any name ino ep h hi hl hn
  rem := fun name ep h hi hl hn => trem_any name ep h hi hl hn
  find := fun name ep h hi hl hn => tfind_any name ep h hi hl hn
  all := fun h hi hl => (tall_any h hi hl).mono fun x w' ⟨r, a, b, c⟩ => ⟨r, a, b.sees, c⟩
  last := fun {w p B F t} h => by
    obtain ⟨mo, g, h1, _⟩ := h
    exact tlast_any h1.cell
end Go.Proofs.Ythjcmagionaepaa
