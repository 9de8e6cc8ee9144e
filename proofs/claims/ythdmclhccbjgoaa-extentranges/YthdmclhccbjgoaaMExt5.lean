/- Pieces: how many stand ahead of a place. (No program in it.) -/
import Derived.Test.YthdmclhccbjgoaaMExt4
namespace Go.Proofs.Ythdmclhccbjgoaa
open Go.RowKit Kit
set_option linter.unusedVariables false
theorem ahead_cons (o : Int) (x : Pc) (c : List Pc) : aheadB o (x :: c) = if x.off < o then aheadB o c + 1 else 0 := by
  unfold aheadB
  rw [List.takeWhile_cons]
  by_cases h : x.off < o <;> simp [h]
theorem ahead_le (o : Int) : ∀ c : List Pc, aheadB o c ≤ c.length
  | [] => by simp [aheadB]
  | x :: c => by
    have := ahead_le o c
    rw [ahead_cons, List.length_cons]
    split <;> omega
theorem ahead_more (o : Int) : ∀ (c : List Pc) (k : Nat) (hk : k < c.length), k ≤ aheadB o c → c[k].off < o → k + 1 ≤ aheadB o c
  | x :: c, 0, _, _, h => by
    rw [ahead_cons, if_pos (by simpa using h)]; omega
  | x :: c, k + 1, hk, hl, h => by
    rw [ahead_cons] at hl ⊢
    split at hl
    · rw [if_pos (by assumption)]
      have := ahead_more o c k (by simpa using hk) (by omega) (by simpa using h)
      omega
    · omega
theorem ahead_here (o : Int) : ∀ (c : List Pc) (k : Nat) (hk : k < c.length), k ≤ aheadB o c → ¬ c[k].off < o → aheadB o c = k
  | x :: c, 0, _, _, h => by
    rw [ahead_cons, if_neg (by simpa using h)]
  | x :: c, k + 1, hk, hl, h => by
    rw [ahead_cons] at hl ⊢
    split at hl
    · rw [if_pos (by assumption)]
      have := ahead_here o c k (by simpa using hk) (by omega) (by simpa using h)
      omega
    · omega
theorem ahead_end (o : Int) (c : List Pc) (h : c.length ≤ aheadB o c) : aheadB o c = c.length := by have := ahead_le o c; omega
end Go.Proofs.Ythdmclhccbjgoaa
