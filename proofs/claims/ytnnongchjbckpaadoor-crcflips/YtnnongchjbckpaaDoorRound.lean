/- dolmenalike.Round: what one call answers. -/
import Derived.Test.YtnnongchjbckpaaDoorAwake
namespace Go.Proofs.YtnnongchjbckpaaDoor
open Go.ChangeShapes Go.WideShapes Go.ChangeAt Go.RowKit Kit
set_option linter.unusedVariables false

theorem tmod_emod (k n : Int) : k.tmod n % n = k % n := by
  have h := Int.tmod_add_mul_tdiv k n
  have : k % n = (k.tmod n + n * k.tdiv n) % n := by rw [h]
  rw [this, Int.add_mul_emod_self_left]
set_option maxRecDepth 4000 in
set_option maxHeartbeats 1000000 in
theorem round_any (k n : Int) (w : World) (k0 : -9223372036854775808 ≤ k) (k1 : k ≤ 9223372036854775807) (n0 : 0 < n) (n1 : n ≤ 100000) :
    Calls Tryd.prog 21 #[.int .i64 k, .int .i64 n] w fun e w' => e = .returned (.int .i64 (k % n)) ∧ w' = w := by
  have hb : -n < k.tmod n ∧ k.tmod n < n := ⟨by have := Int.lt_tmod_of_pos k n0; omega, Int.tmod_lt_of_pos k n0⟩
  have hm : k % n = if k.tmod n < 0 then k.tmod n + n else k.tmod n := by
    by_cases h : k.tmod n < 0
    · rw [if_pos h]
      have e1 : (k.tmod n + n) % n = k % n := by rw [Int.add_emod_right]; exact tmod_emod k n
      rw [← e1, Int.emod_eq_of_lt (by omega) (by omega)]
    · rw [if_neg h]
      have e1 : (k.tmod n) % n = k % n := tmod_emod k n
      rw [← e1, Int.emod_eq_of_lt (by omega) (by omega)]
  have HM : Hid (_ = _) := hm
  clear hm
  obtain ⟨b1, b2⟩ := hb
  have hn0 : (n == 0) = false := beq_eq_false_iff_ne.2 (by omega)
  by_cases h : k.tmod n < 0
  · have HM2 : Hid (k % n = k.tmod n + n) := by show _ = _; rw [HM.out, if_pos h]
    clear HM
    go_enter Tryd.func21, Tryd.ntmps21
    go_wp2
    go_ret
    exact ⟨congrArg (fun t => Ending.returned (.int .i64 t)) HM2.out.symm, rfl⟩
  · have HM2 : Hid (k % n = k.tmod n) := by show _ = _; rw [HM.out, if_neg h]
    clear HM
    go_enter Tryd.func21, Tryd.ntmps21
    go_wp2
    go_ret
    exact ⟨congrArg (fun t => Ending.returned (.int .i64 t)) HM2.out.symm, rfl⟩
end Go.Proofs.YtnnongchjbckpaaDoor
