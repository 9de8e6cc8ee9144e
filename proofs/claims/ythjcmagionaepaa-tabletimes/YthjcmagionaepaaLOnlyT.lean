/- A table that is played alone. -/
import Derived.Test.YthjcmagionaepaaL11Plays
import Derived.Test.YthjcmagionaepaaMLawT
namespace Go.Proofs.Ythjcmagionaepaa
open Go.RowKit Kit
set_option linter.unusedVariables false
variable {T : World → Nat → Nat → (Nat → Prop) → Tb → Prop}

structure OneT (T : World → Nat → Nat → (Nat → Prop) → Tb → Prop) (w0 w : World) (p : Nat) (F : Nat → Prop) (t : Tb) : Prop where
  tp : T w p w0.heap.size F t
  be : Below w0.heap.size w0 w
theorem OneT.below (K : TabK T) {w0 w w' : World} {p : Nat} {F : Nat → Prop} {t : Tb} (h : OneT T w0 w p F t) (hb : Below w.heap.size w w') : OneT T w0 w' p F t := ⟨K.below h.tp hb, bel_tr h.be hb⟩
theorem less_not {a b : ByteArray} (h : ¬ less a b) : Op.bytesLess a.toList b.toList = false := by
  unfold less at h
  simpa using h
end Go.Proofs.Ythjcmagionaepaa
