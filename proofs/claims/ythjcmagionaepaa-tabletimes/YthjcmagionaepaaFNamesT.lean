/- package table: Names. -/
import Derived.Test.YthjcmagionaepaaFFindT
import Derived.Test.YthjcmagionaepaaNSorted
import Derived.Test.YthjcmagionaepaaLStrE
import Derived.Test.YthjcmagionaepaaGKit
import Derived.Laws.IdiomRangeMap
namespace Go.Proofs.Ythjcmagionaepaa
open Go.RowKit Kit
set_option linter.unusedVariables false

theorem RangeS_grown {P : Program} {k : TypeId} {w w' : World} {b r cnt : Nat} {g : ByteArray → Option Value} {ss : List ByteArray} {row : Option Nat} (h : RangeS P k w b r g ss cnt) (hg : w.grownBy w' row) (hb : some b ≠ row) (hr : some r ≠ row) : RangeS P k w' b r g ss cnt := by
  obtain ⟨D, left, h1, h2, h3, h4⟩ := h
  exact ⟨D, left, h1.kept hg hb hr, h2, h3, h4⟩
/-- A row of texts lies in no map, in no walk of one. -/
theorem range_apart {P : Program} {k : TypeId} {w : World} {b r cnt : Nat} {g : ByteArray → Option Value} {ss : List ByteArray} (h : RangeS P k w b r g ss cnt) {j : Nat} {cs : Array Value} {ty : TypeId} (hc : w.heap[j]? = some (.cells cs ty)) : b ≠ j ∧ r ≠ j := by
  obtain ⟨D, left, h1, _⟩ := h
  obtain ⟨xs, clock, since, seen, c0, hb, _, _, _, hr2, _⟩ := h1
  constructor
  · intro e; rw [e, hc] at hb; cases hb
  · intro e; rw [e, hc] at hr2; cases hr2
theorem held_out {rs : List Rw} {ep : Int} {out : List ByteArray} (h : ∀ x, x ∈ out ↔ foundB rs x ep = true) : sortedB out = heldN rs ep := by
  refine rising_ext _ _ (sorted_rising _) (sorted_rising _) fun y => ?_
  rw [sorted_mem, h y]
  exact (held_mem rs ep y).symm
end Go.Proofs.Ythjcmagionaepaa
