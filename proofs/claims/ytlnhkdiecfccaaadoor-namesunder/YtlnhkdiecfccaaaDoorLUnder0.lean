/- NamesUnder: the contract at a known answer. -/
import Derived.Test.YtlnhkdiecfccaaaDoorAwake4
import Derived.Test.YtlnhkdiecfccaaaDoorMBack
import Derived.Deep.RegionWith
import Derived.Deep.DeepFit
namespace Go.Proofs.YtlnhkdiecfccaaaDoor
open Go.RowKit Kit
set_option linter.unusedVariables false

theorem keepU {w a b : World} (h : Hid (Below w.heap.size w a)) (k : Below a.heap.size a b) : Hid (Below w.heap.size w b) := bel2v h.out k
theorem keepUd {w a : World} (h : Hid (Below w.heap.size w a)) : Hid (Below w.heap.size w a.drew) := h.out.drew
/-- The contract at a known answer. -/
theorem nunder_at {p d : ByteArray} {u : Bool} (h : underB p d = u) (hp : p.size ≤ maxLen) (hd : d.size ≤ maxLen) : Hid (∀ w, Calls Tryd.prog 16 #[.string p, .string d] w fun e w' => e = .returned (.bool u) ∧ Below w.heap.size w w') := fun w => by
  have := nunder_any p d w hp hd
  rw [h] at this
  exact this
end Go.Proofs.YtlnhkdiecfccaaaDoor
