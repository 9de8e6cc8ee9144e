/- dolmenalike.Round. -/
import Derived.Test.YthjcmagionaepaaProg
import Derived.WalkKit
import Derived.ProofKit
import Derived.Below
import Derived.RowKitTokens
namespace Go.Proofs.Ythjcmagionaepaa
open Go.RowKit
set_option linter.unusedVariables false

theorem tmod_lt64 (k n : Int) (h1 : 1 ≤ n) : -n < k.tmod n ∧ k.tmod n < n := by
  have := Int.tmod_lt_of_pos k (b := n) (by omega)
  have h3 := Int.neg_tmod k n
  have := Int.tmod_lt_of_pos (-k) (b := n) (by omega)
  omega
set_option maxRecDepth 4000 in
set_option maxHeartbeats 4000000 in
theorem round_any (k n : Int) (w : World) (h1 : 1 ≤ n) (h2 : n ≤ 64) :
    Calls Try.prog 7 #[.int .i64 k, .int .i64 n] w fun e w' => (∃ r : Nat, e = .returned (.int .i64 (r : Int)) ∧ (r : Int) < n) ∧ w' = w := by
  obtain ⟨m1, m2⟩ := tmod_lt64 k n h1
  have hn0 : (n == 0) = false := by rw [beq_eq_false_iff_ne]; omega
  have hnn : n ≠ 0 := by omega
  have hnm : n ≠ -1 := by omega
  by_cases hs : k.tmod n < 0
  · go_enter Try.func7, Try.ntmps7
    go_wp2
    go_ret
    exact ⟨⟨(k.tmod n + n).toNat, by rw [Int.toNat_of_nonneg (by omega)]; rfl, by omega⟩, rfl⟩
  · go_enter Try.func7, Try.ntmps7
    go_wp2
    go_ret
    exact ⟨⟨(k.tmod n).toNat, by rw [Int.toNat_of_nonneg (by omega)]; rfl, by omega⟩, rfl⟩
end Go.Proofs.Ythjcmagionaepaa
