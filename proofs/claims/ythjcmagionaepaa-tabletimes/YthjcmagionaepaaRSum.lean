/- dolmenalike.Sum: what one call answers. -/
import Derived.Test.YthjcmagionaepaaProg
import Derived.WalkKit
import Derived.Below
import Derived.ProofKit
namespace Go.Proofs.Ythjcmagionaepaa
open Go.RowKit
set_option linter.unusedVariables false

/-- Held at 2 to the 40. -/
def satSum (n : Nat) : List Nat → Nat
  | [] => n
  | m :: r => if n + m ≤ 1099511627776 then satSum (n + m) r else 1099511627776
theorem satSum_le : ∀ (l : List Nat) (n : Nat), n ≤ 1099511627776 → satSum n l ≤ 1099511627776
  | [], n, h => h
  | m :: r, n, h => by
    unfold satSum
    split
    · exact satSum_le r _ (by assumption)
    · exact Nat.le_refl _
theorem satSum_small : ∀ (l : List Nat) (n : Nat), satSum n l < 1099511627776 → satSum n l = n + l.sum
  | [], n, h => by simp [satSum]
  | m :: r, n, h => by
    unfold satSum at h ⊢
    split
    · rename_i h1
      rw [if_pos h1] at h
      rw [satSum_small r _ h]; simp; omega
    · rename_i h1
      rw [if_neg h1] at h
      omega
theorem satSum_ge : ∀ (l : List Nat) (n : Nat), n ≤ 1099511627776 → n ≤ satSum n l
  | [], n, h => Nat.le_refl _
  | m :: r, n, h => by
    unfold satSum
    split
    · rename_i h1
      have := satSum_ge r (n + m) h1
      omega
    · exact h

end Go.Proofs.Ythjcmagionaepaa
