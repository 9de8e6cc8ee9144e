/- dolmenref1.Turn, dolmenref9.Words: what one call answers. -/
import Derived.Test.YtgkfbnjccfoaiaaWordsV
import Derived.Test.YtgkfbnjccfoaiaaMathR
import Derived.BigQuiet
import Derived.Deep.QuietTactic
import Derived.BigRegion
namespace Go.Proofs.Ytgkfbnjccfoaiaa
open Go.ChangeShapes Go.WideShapes Go.ChangeAt Go.RowKit
set_option linter.unusedVariables false

set_option maxHeartbeats 400000 in
theorem rturn_any (x : Int) (w : World) (h0 : 0 ≤ x) (h1 : x < 18446744073709551616) :
    Calls Try.prog 17 #[.int .u64 x] w fun e w' => e = .returned (.int .u64 (turn x)) ∧ w' = w := by
  go_enter Try.func17, Try.ntmps17
  go_wp2
  go_loop [3, 4] (fun o i => ∃ k : Nat, k ≤ 8 ∧ o = .int .u64 (tOut x k) ∧ i = .int .i64 k) (fun _ i => 8 - (intOf i).toNat)
  case atStart => exact ⟨0, by omega, rfl, rfl⟩
  case round =>
    obtain ⟨k, hk, rfl, rfl⟩ := hrel
    by_cases hlt : k < 8
    · go_wp2
      go_round
      case rel =>
        refine ⟨k + 1, by omega, ?_, by go_num⟩
        rw [pow2_8, turn_round x k hlt h0 h1]
      case measure => simp [intOf]; omega
    · obtain rfl : k = 8 := by omega
      go_wp2
      go_ret
      exact ⟨rfl, rfl⟩

set_option maxHeartbeats 400000 in
/-- dolmenref9.Words of two that show the same. -/
theorem r9_some (b off cap b' off' cap' : Nat) (zs : List Int) (w : World) (hz : 0 < zs.length) (hl : (zs.length : Int) ≤ 140737488351232)
    (hc : ∀ i, i < zs.length → w.cell? ⟨b, off + i, none⟩ = some (.int .u64 (zs.getD i 0))) (hc' : ∀ i, i < zs.length → w.cell? ⟨b', off' + i, none⟩ = some (.int .u64 (zs.getD i 0))) :
    Calls Try.prog 13 #[.slice (some ⟨b, off, none⟩) zs.length cap, .slice (some ⟨b', off', none⟩) zs.length cap'] w fun e w' => e = .returned (.bool true) ∧ ∃ n, w' = w.drewN n := by
  have HC : Hid (∀ i, i < zs.length → w.cell? ⟨b, off + i, none⟩ = some (.int .u64 (zs.getD i 0))) := hc
  have HC' : Hid (∀ i, i < zs.length → w.cell? ⟨b', off' + i, none⟩ = some (.int .u64 (zs.getD i 0))) := hc'
  clear hc hc'
  go_enter Try.func13, Try.ntmps13
  go_wp2
  go_loopw [5] (fun i wr => ∃ k n : Nat, k ≤ zs.length ∧ i = .int .i64 k ∧ wr = w.drewN n) (fun i _ => zs.length - (intOf i).toNat)
  case atStart => exact ⟨0, 0, by omega, rfl, rfl⟩
  case round =>
    obtain ⟨k, n, hk, rfl, rfl⟩ := hrel
    by_cases hlt : k < zs.length
    · have h1 : w.cell? ⟨b, off + k, none⟩ = some (.int .u64 (zs.getD k 0)) := HC.out k hlt
      have h2 : w.cell? ⟨b', off' + k, none⟩ = some (.int .u64 (zs.getD k 0)) := HC'.out k hlt
      generalize zs.getD k 0 = z at *
      go_wp2
      go_quiet (fail)
      go_wp2
      go_roundw
      case rel => exact ⟨k + 1, n + nq, by omega, by go_num, rfl⟩
      case measure => simp [intOf]; omega
    · obtain rfl : k = zs.length := by omega
      go_wp2
      go_ret
      exact ⟨rfl, n, rfl⟩

theorem r9_none (ao ao' : Option Addr) (cap cap' : Nat) (w : World) :
    Calls Try.prog 13 #[.slice ao 0 cap, .slice ao' 0 cap'] w fun e w' => e = .returned (.bool true) ∧ ∃ n, w' = w.drewN n := by
  go_enter Try.func13, Try.ntmps13
  go_wp2
  refine wp_loop_rounds 1 ?_
  rw [rounds_succ]
  go_wp2
  go_ret
  exact ⟨rfl, 0, rfl⟩

theorem r9_view (B B' : Nat) (v v' : Value) (zs : List Int) (w : World) (hv : Vw B w .u64 v zs) (hv' : Vw B' w .u64 v' zs) (hl : (zs.length : Int) ≤ 140737488351232) :
    Calls Try.prog 13 #[v, v'] w fun e w' => e = .returned (.bool true) ∧ ∃ n, w' = w.drewN n := by
  rcases hv with ⟨rfl, ao, cap, rfl, _⟩ | ⟨hz, b, off, cap, rfl, _, _, _, h4⟩
  · rcases hv' with ⟨_, ao', cap', rfl, _⟩ | ⟨hz', _⟩
    · exact r9_none ao ao' cap cap' w
    · simp at hz'
  · rcases hv' with ⟨rfl, _⟩ | ⟨_, b', off', cap', rfl, _, _, _, h4'⟩
    · simp at hz
    · exact r9_some b off cap b' off' cap' zs w hz hl h4 h4'
end Go.Proofs.Ytgkfbnjccfoaiaa
