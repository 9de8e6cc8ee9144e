/- bits.wordsFor, bits.firstWord, bits.Words: what one call answers. -/
import Derived.Test.YtgkfbnjccfoaiaaVarint
import Derived.Test.YtgkfbnjccfoaiaaMathW
namespace Go.Proofs.Ytgkfbnjccfoaiaa
open Go.ChangeShapes Go.WideShapes Go.ChangeAt Go.RowKit
set_option linter.unusedVariables false

theorem wordsFor_any (n : Nat) (w : World) (h : (n : Int) ≤ 9223372036854775799) :
    Calls Try.prog 27 #[.int .i64 n] w fun e w' => e = .returned (.int .i64 (((n + 7) / 8 : Nat) : Int)) ∧ w' = w := by
  go_enter Try.func27, Try.ntmps27
  go_wp2
  go_ret
  exact ⟨by simp; omega, rfl⟩

set_option maxHeartbeats 1000000 in
theorem first1 (b off cap : Nat) (c0 : Int) (w : World) (k0 : w.cell? ⟨b, off, none⟩ = some (.int .u8 c0)) (a0 : 0 ≤ c0) (b0 : c0 < 256) :
    Calls Try.prog 29 #[.slice (some ⟨b, off, none⟩) 1 cap] w fun e w' => e = .returned (.int .u64 (leW [c0])) ∧ w' = w := by
  have HV : Hid (_ = leW [c0]) := word_of1 a0 b0
  go_enter Try.func29, Try.ntmps29
  go_wp2
  go_ret
  exact ⟨congrArg (fun t => Ending.returned (.int .u64 t)) HV.out, rfl⟩
set_option maxHeartbeats 1000000 in
theorem first2 (b off cap : Nat) (c0 c1 : Int) (w : World) (k0 : w.cell? ⟨b, off, none⟩ = some (.int .u8 c0)) (k1 : w.cell? ⟨b, off + 1, none⟩ = some (.int .u8 c1)) (a0 : 0 ≤ c0) (b0 : c0 < 256) (a1 : 0 ≤ c1) (b1 : c1 < 256) :
    Calls Try.prog 29 #[.slice (some ⟨b, off, none⟩) 2 cap] w fun e w' => e = .returned (.int .u64 (leW [c0, c1])) ∧ w' = w := by
  have HV : Hid (_ = leW [c0, c1]) := word_of2 a0 b0 a1 b1
  go_enter Try.func29, Try.ntmps29
  go_wp2
  go_ret
  exact ⟨congrArg (fun t => Ending.returned (.int .u64 t)) HV.out, rfl⟩
set_option maxHeartbeats 1000000 in
theorem first3 (b off cap : Nat) (c0 c1 c2 : Int) (w : World) (k0 : w.cell? ⟨b, off, none⟩ = some (.int .u8 c0)) (k1 : w.cell? ⟨b, off + 1, none⟩ = some (.int .u8 c1)) (k2 : w.cell? ⟨b, off + 2, none⟩ = some (.int .u8 c2)) (a0 : 0 ≤ c0) (b0 : c0 < 256) (a1 : 0 ≤ c1) (b1 : c1 < 256) (a2 : 0 ≤ c2) (b2 : c2 < 256) :
    Calls Try.prog 29 #[.slice (some ⟨b, off, none⟩) 3 cap] w fun e w' => e = .returned (.int .u64 (leW [c0, c1, c2])) ∧ w' = w := by
  have HV : Hid (_ = leW [c0, c1, c2]) := word_of3 a0 b0 a1 b1 a2 b2
  go_enter Try.func29, Try.ntmps29
  go_wp2
  go_ret
  exact ⟨congrArg (fun t => Ending.returned (.int .u64 t)) HV.out, rfl⟩
set_option maxHeartbeats 1000000 in
theorem first4 (b off cap : Nat) (c0 c1 c2 c3 : Int) (w : World) (k0 : w.cell? ⟨b, off, none⟩ = some (.int .u8 c0)) (k1 : w.cell? ⟨b, off + 1, none⟩ = some (.int .u8 c1)) (k2 : w.cell? ⟨b, off + 2, none⟩ = some (.int .u8 c2)) (k3 : w.cell? ⟨b, off + 3, none⟩ = some (.int .u8 c3)) (a0 : 0 ≤ c0) (b0 : c0 < 256) (a1 : 0 ≤ c1) (b1 : c1 < 256) (a2 : 0 ≤ c2) (b2 : c2 < 256) (a3 : 0 ≤ c3) (b3 : c3 < 256) :
    Calls Try.prog 29 #[.slice (some ⟨b, off, none⟩) 4 cap] w fun e w' => e = .returned (.int .u64 (leW [c0, c1, c2, c3])) ∧ w' = w := by
  have HV : Hid (_ = leW [c0, c1, c2, c3]) := word_of4 a0 b0 a1 b1 a2 b2 a3 b3
  go_enter Try.func29, Try.ntmps29
  go_wp2
  go_ret
  exact ⟨congrArg (fun t => Ending.returned (.int .u64 t)) HV.out, rfl⟩
set_option maxHeartbeats 1000000 in
theorem first5 (b off cap : Nat) (c0 c1 c2 c3 c4 : Int) (w : World) (k0 : w.cell? ⟨b, off, none⟩ = some (.int .u8 c0)) (k1 : w.cell? ⟨b, off + 1, none⟩ = some (.int .u8 c1)) (k2 : w.cell? ⟨b, off + 2, none⟩ = some (.int .u8 c2)) (k3 : w.cell? ⟨b, off + 3, none⟩ = some (.int .u8 c3)) (k4 : w.cell? ⟨b, off + 4, none⟩ = some (.int .u8 c4)) (a0 : 0 ≤ c0) (b0 : c0 < 256) (a1 : 0 ≤ c1) (b1 : c1 < 256) (a2 : 0 ≤ c2) (b2 : c2 < 256) (a3 : 0 ≤ c3) (b3 : c3 < 256) (a4 : 0 ≤ c4) (b4 : c4 < 256) :
    Calls Try.prog 29 #[.slice (some ⟨b, off, none⟩) 5 cap] w fun e w' => e = .returned (.int .u64 (leW [c0, c1, c2, c3, c4])) ∧ w' = w := by
  have HV : Hid (_ = leW [c0, c1, c2, c3, c4]) := word_of5 a0 b0 a1 b1 a2 b2 a3 b3 a4 b4
  go_enter Try.func29, Try.ntmps29
  go_wp2
  go_ret
  exact ⟨congrArg (fun t => Ending.returned (.int .u64 t)) HV.out, rfl⟩
set_option maxHeartbeats 1000000 in
theorem first6 (b off cap : Nat) (c0 c1 c2 c3 c4 c5 : Int) (w : World) (k0 : w.cell? ⟨b, off, none⟩ = some (.int .u8 c0)) (k1 : w.cell? ⟨b, off + 1, none⟩ = some (.int .u8 c1)) (k2 : w.cell? ⟨b, off + 2, none⟩ = some (.int .u8 c2)) (k3 : w.cell? ⟨b, off + 3, none⟩ = some (.int .u8 c3)) (k4 : w.cell? ⟨b, off + 4, none⟩ = some (.int .u8 c4)) (k5 : w.cell? ⟨b, off + 5, none⟩ = some (.int .u8 c5)) (a0 : 0 ≤ c0) (b0 : c0 < 256) (a1 : 0 ≤ c1) (b1 : c1 < 256) (a2 : 0 ≤ c2) (b2 : c2 < 256) (a3 : 0 ≤ c3) (b3 : c3 < 256) (a4 : 0 ≤ c4) (b4 : c4 < 256) (a5 : 0 ≤ c5) (b5 : c5 < 256) :
    Calls Try.prog 29 #[.slice (some ⟨b, off, none⟩) 6 cap] w fun e w' => e = .returned (.int .u64 (leW [c0, c1, c2, c3, c4, c5])) ∧ w' = w := by
  have HV : Hid (_ = leW [c0, c1, c2, c3, c4, c5]) := word_of6 a0 b0 a1 b1 a2 b2 a3 b3 a4 b4 a5 b5
  go_enter Try.func29, Try.ntmps29
  go_wp2
  go_ret
  exact ⟨congrArg (fun t => Ending.returned (.int .u64 t)) HV.out, rfl⟩
set_option maxHeartbeats 1000000 in
theorem first7 (b off cap : Nat) (c0 c1 c2 c3 c4 c5 c6 : Int) (w : World) (k0 : w.cell? ⟨b, off, none⟩ = some (.int .u8 c0)) (k1 : w.cell? ⟨b, off + 1, none⟩ = some (.int .u8 c1)) (k2 : w.cell? ⟨b, off + 2, none⟩ = some (.int .u8 c2)) (k3 : w.cell? ⟨b, off + 3, none⟩ = some (.int .u8 c3)) (k4 : w.cell? ⟨b, off + 4, none⟩ = some (.int .u8 c4)) (k5 : w.cell? ⟨b, off + 5, none⟩ = some (.int .u8 c5)) (k6 : w.cell? ⟨b, off + 6, none⟩ = some (.int .u8 c6)) (a0 : 0 ≤ c0) (b0 : c0 < 256) (a1 : 0 ≤ c1) (b1 : c1 < 256) (a2 : 0 ≤ c2) (b2 : c2 < 256) (a3 : 0 ≤ c3) (b3 : c3 < 256) (a4 : 0 ≤ c4) (b4 : c4 < 256) (a5 : 0 ≤ c5) (b5 : c5 < 256) (a6 : 0 ≤ c6) (b6 : c6 < 256) :
    Calls Try.prog 29 #[.slice (some ⟨b, off, none⟩) 7 cap] w fun e w' => e = .returned (.int .u64 (leW [c0, c1, c2, c3, c4, c5, c6])) ∧ w' = w := by
  have HV : Hid (_ = leW [c0, c1, c2, c3, c4, c5, c6]) := word_of7 a0 b0 a1 b1 a2 b2 a3 b3 a4 b4 a5 b5 a6 b6
  go_enter Try.func29, Try.ntmps29
  go_wp2
  go_ret
  exact ⟨congrArg (fun t => Ending.returned (.int .u64 t)) HV.out, rfl⟩
set_option maxHeartbeats 1000000 in
theorem first8 (b off len cap : Nat) (h8 : 8 ≤ len) (c0 c1 c2 c3 c4 c5 c6 c7 : Int) (w : World) (k0 : w.cell? ⟨b, off, none⟩ = some (.int .u8 c0)) (k1 : w.cell? ⟨b, off + 1, none⟩ = some (.int .u8 c1)) (k2 : w.cell? ⟨b, off + 2, none⟩ = some (.int .u8 c2)) (k3 : w.cell? ⟨b, off + 3, none⟩ = some (.int .u8 c3)) (k4 : w.cell? ⟨b, off + 4, none⟩ = some (.int .u8 c4)) (k5 : w.cell? ⟨b, off + 5, none⟩ = some (.int .u8 c5)) (k6 : w.cell? ⟨b, off + 6, none⟩ = some (.int .u8 c6)) (k7 : w.cell? ⟨b, off + 7, none⟩ = some (.int .u8 c7)) (a0 : 0 ≤ c0) (b0 : c0 < 256) (a1 : 0 ≤ c1) (b1 : c1 < 256) (a2 : 0 ≤ c2) (b2 : c2 < 256) (a3 : 0 ≤ c3) (b3 : c3 < 256) (a4 : 0 ≤ c4) (b4 : c4 < 256) (a5 : 0 ≤ c5) (b5 : c5 < 256) (a6 : 0 ≤ c6) (b6 : c6 < 256) (a7 : 0 ≤ c7) (b7 : c7 < 256) :
    Calls Try.prog 29 #[.slice (some ⟨b, off, none⟩) len cap] w fun e w' => e = .returned (.int .u64 (leW [c0, c1, c2, c3, c4, c5, c6, c7])) ∧ w' = w := by
  have HV : Hid (_ = leW [c0, c1, c2, c3, c4, c5, c6, c7]) := word_of8 a0 b0 a1 b1 a2 b2 a3 b3 a4 b4 a5 b5 a6 b6 a7 b7
  by_cases h9 : 8 < len
  all_goals
    go_enter Try.func29, Try.ntmps29
    go_wp2
    go_ret
    exact ⟨congrArg (fun t => Ending.returned (.int .u64 t)) HV.out, rfl⟩

/-- bits.firstWord of bytes, one at least. -/
theorem first_any (b off cap : Nat) (zs : List Int) (w : World) (hz : 0 < zs.length) (hc : ∀ i, i < zs.length → w.cell? ⟨b, off + i, none⟩ = some (.int .u8 (zs.getD i 0))) (hb : bytesIn zs) :
    Calls Try.prog 29 #[.slice (some ⟨b, off, none⟩) zs.length cap] w fun e w' => e = .returned (.int .u64 (leW (zs.take 8))) ∧ w' = w := by
  have hB : ∀ i, i < zs.length → 0 ≤ zs.getD i 0 ∧ zs.getD i 0 < 256 := fun i hi => bytesIn_get hb hi
  match zs, hz, hc, hB with
  | [c0], _, hc, hB => exact first1 b off cap c0 w (hc 0 (by simp)) (hB 0 (by simp)).1 (hB 0 (by simp)).2
  | [c0, c1], _, hc, hB => exact first2 b off cap c0 c1 w (hc 0 (by simp)) (hc 1 (by simp)) (hB 0 (by simp)).1 (hB 0 (by simp)).2 (hB 1 (by simp)).1 (hB 1 (by simp)).2
  | [c0, c1, c2], _, hc, hB => exact first3 b off cap c0 c1 c2 w (hc 0 (by simp)) (hc 1 (by simp)) (hc 2 (by simp)) (hB 0 (by simp)).1 (hB 0 (by simp)).2 (hB 1 (by simp)).1 (hB 1 (by simp)).2 (hB 2 (by simp)).1 (hB 2 (by simp)).2
  | [c0, c1, c2, c3], _, hc, hB => exact first4 b off cap c0 c1 c2 c3 w (hc 0 (by simp)) (hc 1 (by simp)) (hc 2 (by simp)) (hc 3 (by simp)) (hB 0 (by simp)).1 (hB 0 (by simp)).2 (hB 1 (by simp)).1 (hB 1 (by simp)).2 (hB 2 (by simp)).1 (hB 2 (by simp)).2 (hB 3 (by simp)).1 (hB 3 (by simp)).2
  | [c0, c1, c2, c3, c4], _, hc, hB => exact first5 b off cap c0 c1 c2 c3 c4 w (hc 0 (by simp)) (hc 1 (by simp)) (hc 2 (by simp)) (hc 3 (by simp)) (hc 4 (by simp)) (hB 0 (by simp)).1 (hB 0 (by simp)).2 (hB 1 (by simp)).1 (hB 1 (by simp)).2 (hB 2 (by simp)).1 (hB 2 (by simp)).2 (hB 3 (by simp)).1 (hB 3 (by simp)).2 (hB 4 (by simp)).1 (hB 4 (by simp)).2
  | [c0, c1, c2, c3, c4, c5], _, hc, hB => exact first6 b off cap c0 c1 c2 c3 c4 c5 w (hc 0 (by simp)) (hc 1 (by simp)) (hc 2 (by simp)) (hc 3 (by simp)) (hc 4 (by simp)) (hc 5 (by simp)) (hB 0 (by simp)).1 (hB 0 (by simp)).2 (hB 1 (by simp)).1 (hB 1 (by simp)).2 (hB 2 (by simp)).1 (hB 2 (by simp)).2 (hB 3 (by simp)).1 (hB 3 (by simp)).2 (hB 4 (by simp)).1 (hB 4 (by simp)).2 (hB 5 (by simp)).1 (hB 5 (by simp)).2
  | [c0, c1, c2, c3, c4, c5, c6], _, hc, hB => exact first7 b off cap c0 c1 c2 c3 c4 c5 c6 w (hc 0 (by simp)) (hc 1 (by simp)) (hc 2 (by simp)) (hc 3 (by simp)) (hc 4 (by simp)) (hc 5 (by simp)) (hc 6 (by simp)) (hB 0 (by simp)).1 (hB 0 (by simp)).2 (hB 1 (by simp)).1 (hB 1 (by simp)).2 (hB 2 (by simp)).1 (hB 2 (by simp)).2 (hB 3 (by simp)).1 (hB 3 (by simp)).2 (hB 4 (by simp)).1 (hB 4 (by simp)).2 (hB 5 (by simp)).1 (hB 5 (by simp)).2 (hB 6 (by simp)).1 (hB 6 (by simp)).2
  | c0 :: c1 :: c2 :: c3 :: c4 :: c5 :: c6 :: c7 :: r, _, hc, hB => exact first8 b off _ cap (by simp) c0 c1 c2 c3 c4 c5 c6 c7 w (hc 0 (by simp)) (hc 1 (by simp)) (hc 2 (by simp)) (hc 3 (by simp)) (hc 4 (by simp)) (hc 5 (by simp)) (hc 6 (by simp)) (hc 7 (by simp)) (hB 0 (by simp)).1 (hB 0 (by simp)).2 (hB 1 (by simp)).1 (hB 1 (by simp)).2 (hB 2 (by simp)).1 (hB 2 (by simp)).2 (hB 3 (by simp)).1 (hB 3 (by simp)).2 (hB 4 (by simp)).1 (hB 4 (by simp)).2 (hB 5 (by simp)).1 (hB 5 (by simp)).2 (hB 6 (by simp)).1 (hB 6 (by simp)).2 (hB 7 (by simp)).1 (hB 7 (by simp)).2

theorem Try.info34 : (Try.prog.info? 34).map (fun i => (i.zero, i.size, i.bytes)) = some (some (.int .u64 0), 1, 8) := by kernel_rfl

end Go.Proofs.Ytgkfbnjccfoaiaa
