/- bits.joined, bits.Unvarint: what one call answers. -/
import Derived.Test.YtgkfbnjccfoaiaaUnv
namespace Go.Proofs.Ytgkfbnjccfoaiaa
open Go.ChangeShapes Go.WideShapes Go.ChangeAt Go.RowKit
set_option linter.unusedVariables false

set_option maxHeartbeats 1000000 in
theorem joined0 (ao : Option Addr) (cap : Nat) (w : World) :
    Calls Try.prog 31 #[.slice ao 0 cap] w fun e w' => e = .returned (.int .u64 0) ∧ w' = w := by
  go_enter Try.func31, Try.ntmps31
  go_wp2
  go_ret
  exact ⟨rfl, rfl⟩
set_option maxHeartbeats 2000000 in
theorem joined1 (b off cap : Nat) (c0 : Int) (w : World) (k0 : w.cell? ⟨b, off, none⟩ = some (.int .u8 c0)) (a0 : 0 ≤ c0) (b0 : c0 < 256) :
    Calls Try.prog 31 #[.slice (some ⟨b, off, none⟩) 1 cap] w fun e w' => e = .returned (.int .u64 (jn [c0])) ∧ w' = w := by
  have HV : Hid (_ = jn [c0]) := jn_of1 a0 b0
  clear a0 b0
  go_enter Try.func31, Try.ntmps31
  go_wp2
  go_ret
  exact ⟨congrArg (fun t => Ending.returned (.int .u64 t)) HV.out, rfl⟩
set_option maxHeartbeats 2000000 in
theorem joined2 (b off cap : Nat) (c0 c1 : Int) (w : World) (k0 : w.cell? ⟨b, off, none⟩ = some (.int .u8 c0)) (k1 : w.cell? ⟨b, off + 1, none⟩ = some (.int .u8 c1)) (a0 : 0 ≤ c0) (b0 : c0 < 256) (a1 : 0 ≤ c1) (b1 : c1 < 256) :
    Calls Try.prog 31 #[.slice (some ⟨b, off, none⟩) 2 cap] w fun e w' => e = .returned (.int .u64 (jn [c0, c1])) ∧ w' = w := by
  have HV : Hid (_ = jn [c0, c1]) := jn_of2 a0 b0 a1 b1
  clear a0 b0 a1 b1
  go_enter Try.func31, Try.ntmps31
  go_wp2
  go_ret
  exact ⟨congrArg (fun t => Ending.returned (.int .u64 t)) HV.out, rfl⟩
set_option maxHeartbeats 2000000 in
theorem joined3 (b off cap : Nat) (c0 c1 c2 : Int) (w : World) (k0 : w.cell? ⟨b, off, none⟩ = some (.int .u8 c0)) (k1 : w.cell? ⟨b, off + 1, none⟩ = some (.int .u8 c1)) (k2 : w.cell? ⟨b, off + 2, none⟩ = some (.int .u8 c2)) (a0 : 0 ≤ c0) (b0 : c0 < 256) (a1 : 0 ≤ c1) (b1 : c1 < 256) (a2 : 0 ≤ c2) (b2 : c2 < 256) :
    Calls Try.prog 31 #[.slice (some ⟨b, off, none⟩) 3 cap] w fun e w' => e = .returned (.int .u64 (jn [c0, c1, c2])) ∧ w' = w := by
  have HV : Hid (_ = jn [c0, c1, c2]) := jn_of3 a0 b0 a1 b1 a2 b2
  clear a0 b0 a1 b1 a2 b2
  go_enter Try.func31, Try.ntmps31
  go_wp2
  go_ret
  exact ⟨congrArg (fun t => Ending.returned (.int .u64 t)) HV.out, rfl⟩
set_option maxHeartbeats 2000000 in
theorem joined4 (b off cap : Nat) (c0 c1 c2 c3 : Int) (w : World) (k0 : w.cell? ⟨b, off, none⟩ = some (.int .u8 c0)) (k1 : w.cell? ⟨b, off + 1, none⟩ = some (.int .u8 c1)) (k2 : w.cell? ⟨b, off + 2, none⟩ = some (.int .u8 c2)) (k3 : w.cell? ⟨b, off + 3, none⟩ = some (.int .u8 c3)) (a0 : 0 ≤ c0) (b0 : c0 < 256) (a1 : 0 ≤ c1) (b1 : c1 < 256) (a2 : 0 ≤ c2) (b2 : c2 < 256) (a3 : 0 ≤ c3) (b3 : c3 < 256) :
    Calls Try.prog 31 #[.slice (some ⟨b, off, none⟩) 4 cap] w fun e w' => e = .returned (.int .u64 (jn [c0, c1, c2, c3])) ∧ w' = w := by
  have HV : Hid (_ = jn [c0, c1, c2, c3]) := jn_of4 a0 b0 a1 b1 a2 b2 a3 b3
  clear a0 b0 a1 b1 a2 b2 a3 b3
  go_enter Try.func31, Try.ntmps31
  go_wp2
  go_ret
  exact ⟨congrArg (fun t => Ending.returned (.int .u64 t)) HV.out, rfl⟩
set_option maxHeartbeats 2000000 in
theorem joined5 (b off cap : Nat) (c0 c1 c2 c3 c4 : Int) (w : World) (k0 : w.cell? ⟨b, off, none⟩ = some (.int .u8 c0)) (k1 : w.cell? ⟨b, off + 1, none⟩ = some (.int .u8 c1)) (k2 : w.cell? ⟨b, off + 2, none⟩ = some (.int .u8 c2)) (k3 : w.cell? ⟨b, off + 3, none⟩ = some (.int .u8 c3)) (k4 : w.cell? ⟨b, off + 4, none⟩ = some (.int .u8 c4)) (a0 : 0 ≤ c0) (b0 : c0 < 256) (a1 : 0 ≤ c1) (b1 : c1 < 256) (a2 : 0 ≤ c2) (b2 : c2 < 256) (a3 : 0 ≤ c3) (b3 : c3 < 256) (a4 : 0 ≤ c4) (b4 : c4 < 256) :
    Calls Try.prog 31 #[.slice (some ⟨b, off, none⟩) 5 cap] w fun e w' => e = .returned (.int .u64 (jn [c0, c1, c2, c3, c4])) ∧ w' = w := by
  have HV : Hid (_ = jn [c0, c1, c2, c3, c4]) := jn_of5 a0 b0 a1 b1 a2 b2 a3 b3 a4 b4
  clear a0 b0 a1 b1 a2 b2 a3 b3 a4 b4
  go_enter Try.func31, Try.ntmps31
  go_wp2
  go_ret
  exact ⟨congrArg (fun t => Ending.returned (.int .u64 t)) HV.out, rfl⟩
set_option maxHeartbeats 2000000 in
theorem joined6 (b off cap : Nat) (c0 c1 c2 c3 c4 c5 : Int) (w : World) (k0 : w.cell? ⟨b, off, none⟩ = some (.int .u8 c0)) (k1 : w.cell? ⟨b, off + 1, none⟩ = some (.int .u8 c1)) (k2 : w.cell? ⟨b, off + 2, none⟩ = some (.int .u8 c2)) (k3 : w.cell? ⟨b, off + 3, none⟩ = some (.int .u8 c3)) (k4 : w.cell? ⟨b, off + 4, none⟩ = some (.int .u8 c4)) (k5 : w.cell? ⟨b, off + 5, none⟩ = some (.int .u8 c5)) (a0 : 0 ≤ c0) (b0 : c0 < 256) (a1 : 0 ≤ c1) (b1 : c1 < 256) (a2 : 0 ≤ c2) (b2 : c2 < 256) (a3 : 0 ≤ c3) (b3 : c3 < 256) (a4 : 0 ≤ c4) (b4 : c4 < 256) (a5 : 0 ≤ c5) (b5 : c5 < 256) :
    Calls Try.prog 31 #[.slice (some ⟨b, off, none⟩) 6 cap] w fun e w' => e = .returned (.int .u64 (jn [c0, c1, c2, c3, c4, c5])) ∧ w' = w := by
  have HV : Hid (_ = jn [c0, c1, c2, c3, c4, c5]) := jn_of6 a0 b0 a1 b1 a2 b2 a3 b3 a4 b4 a5 b5
  clear a0 b0 a1 b1 a2 b2 a3 b3 a4 b4 a5 b5
  go_enter Try.func31, Try.ntmps31
  go_wp2
  go_ret
  exact ⟨congrArg (fun t => Ending.returned (.int .u64 t)) HV.out, rfl⟩
set_option maxHeartbeats 2000000 in
theorem joined7 (b off cap : Nat) (c0 c1 c2 c3 c4 c5 c6 : Int) (w : World) (k0 : w.cell? ⟨b, off, none⟩ = some (.int .u8 c0)) (k1 : w.cell? ⟨b, off + 1, none⟩ = some (.int .u8 c1)) (k2 : w.cell? ⟨b, off + 2, none⟩ = some (.int .u8 c2)) (k3 : w.cell? ⟨b, off + 3, none⟩ = some (.int .u8 c3)) (k4 : w.cell? ⟨b, off + 4, none⟩ = some (.int .u8 c4)) (k5 : w.cell? ⟨b, off + 5, none⟩ = some (.int .u8 c5)) (k6 : w.cell? ⟨b, off + 6, none⟩ = some (.int .u8 c6)) (a0 : 0 ≤ c0) (b0 : c0 < 256) (a1 : 0 ≤ c1) (b1 : c1 < 256) (a2 : 0 ≤ c2) (b2 : c2 < 256) (a3 : 0 ≤ c3) (b3 : c3 < 256) (a4 : 0 ≤ c4) (b4 : c4 < 256) (a5 : 0 ≤ c5) (b5 : c5 < 256) (a6 : 0 ≤ c6) (b6 : c6 < 256) :
    Calls Try.prog 31 #[.slice (some ⟨b, off, none⟩) 7 cap] w fun e w' => e = .returned (.int .u64 (jn [c0, c1, c2, c3, c4, c5, c6])) ∧ w' = w := by
  have HV : Hid (_ = jn [c0, c1, c2, c3, c4, c5, c6]) := jn_of7 a0 b0 a1 b1 a2 b2 a3 b3 a4 b4 a5 b5 a6 b6
  clear a0 b0 a1 b1 a2 b2 a3 b3 a4 b4 a5 b5 a6 b6
  go_enter Try.func31, Try.ntmps31
  go_wp2
  go_ret
  exact ⟨congrArg (fun t => Ending.returned (.int .u64 t)) HV.out, rfl⟩
set_option maxHeartbeats 2000000 in
theorem joined8 (b off cap : Nat) (c0 c1 c2 c3 c4 c5 c6 c7 : Int) (w : World) (k0 : w.cell? ⟨b, off, none⟩ = some (.int .u8 c0)) (k1 : w.cell? ⟨b, off + 1, none⟩ = some (.int .u8 c1)) (k2 : w.cell? ⟨b, off + 2, none⟩ = some (.int .u8 c2)) (k3 : w.cell? ⟨b, off + 3, none⟩ = some (.int .u8 c3)) (k4 : w.cell? ⟨b, off + 4, none⟩ = some (.int .u8 c4)) (k5 : w.cell? ⟨b, off + 5, none⟩ = some (.int .u8 c5)) (k6 : w.cell? ⟨b, off + 6, none⟩ = some (.int .u8 c6)) (k7 : w.cell? ⟨b, off + 7, none⟩ = some (.int .u8 c7)) (a0 : 0 ≤ c0) (b0 : c0 < 256) (a1 : 0 ≤ c1) (b1 : c1 < 256) (a2 : 0 ≤ c2) (b2 : c2 < 256) (a3 : 0 ≤ c3) (b3 : c3 < 256) (a4 : 0 ≤ c4) (b4 : c4 < 256) (a5 : 0 ≤ c5) (b5 : c5 < 256) (a6 : 0 ≤ c6) (b6 : c6 < 256) (a7 : 0 ≤ c7) (b7 : c7 < 256) :
    Calls Try.prog 31 #[.slice (some ⟨b, off, none⟩) 8 cap] w fun e w' => e = .returned (.int .u64 (jn [c0, c1, c2, c3, c4, c5, c6, c7])) ∧ w' = w := by
  have HV : Hid (_ = jn [c0, c1, c2, c3, c4, c5, c6, c7]) := jn_of8 a0 b0 a1 b1 a2 b2 a3 b3 a4 b4 a5 b5 a6 b6 a7 b7
  clear a0 b0 a1 b1 a2 b2 a3 b3 a4 b4 a5 b5 a6 b6 a7 b7
  go_enter Try.func31, Try.ntmps31
  go_wp2
  go_ret
  exact ⟨congrArg (fun t => Ending.returned (.int .u64 t)) HV.out, rfl⟩
set_option maxHeartbeats 2000000 in
theorem joined9 (b off cap : Nat) (c0 c1 c2 c3 c4 c5 c6 c7 c8 : Int) (w : World) (k0 : w.cell? ⟨b, off, none⟩ = some (.int .u8 c0)) (k1 : w.cell? ⟨b, off + 1, none⟩ = some (.int .u8 c1)) (k2 : w.cell? ⟨b, off + 2, none⟩ = some (.int .u8 c2)) (k3 : w.cell? ⟨b, off + 3, none⟩ = some (.int .u8 c3)) (k4 : w.cell? ⟨b, off + 4, none⟩ = some (.int .u8 c4)) (k5 : w.cell? ⟨b, off + 5, none⟩ = some (.int .u8 c5)) (k6 : w.cell? ⟨b, off + 6, none⟩ = some (.int .u8 c6)) (k7 : w.cell? ⟨b, off + 7, none⟩ = some (.int .u8 c7)) (k8 : w.cell? ⟨b, off + 8, none⟩ = some (.int .u8 c8)) (a0 : 0 ≤ c0) (b0 : c0 < 256) (a1 : 0 ≤ c1) (b1 : c1 < 256) (a2 : 0 ≤ c2) (b2 : c2 < 256) (a3 : 0 ≤ c3) (b3 : c3 < 256) (a4 : 0 ≤ c4) (b4 : c4 < 256) (a5 : 0 ≤ c5) (b5 : c5 < 256) (a6 : 0 ≤ c6) (b6 : c6 < 256) (a7 : 0 ≤ c7) (b7 : c7 < 256) (a8 : 0 ≤ c8) (b8 : c8 < 256) :
    Calls Try.prog 31 #[.slice (some ⟨b, off, none⟩) 9 cap] w fun e w' => e = .returned (.int .u64 (jn [c0, c1, c2, c3, c4, c5, c6, c7, c8])) ∧ w' = w := by
  have HV : Hid (_ = jn [c0, c1, c2, c3, c4, c5, c6, c7, c8]) := jn_of9 a0 b0 a1 b1 a2 b2 a3 b3 a4 b4 a5 b5 a6 b6 a7 b7 a8 b8
  clear a0 b0 a1 b1 a2 b2 a3 b3 a4 b4 a5 b5 a6 b6 a7 b7 a8 b8
  go_enter Try.func31, Try.ntmps31
  go_wp2
  go_ret
  exact ⟨congrArg (fun t => Ending.returned (.int .u64 t)) HV.out, rfl⟩
set_option maxHeartbeats 2000000 in
theorem joined10 (b off cap : Nat) (c0 c1 c2 c3 c4 c5 c6 c7 c8 c9 : Int) (w : World) (k0 : w.cell? ⟨b, off, none⟩ = some (.int .u8 c0)) (k1 : w.cell? ⟨b, off + 1, none⟩ = some (.int .u8 c1)) (k2 : w.cell? ⟨b, off + 2, none⟩ = some (.int .u8 c2)) (k3 : w.cell? ⟨b, off + 3, none⟩ = some (.int .u8 c3)) (k4 : w.cell? ⟨b, off + 4, none⟩ = some (.int .u8 c4)) (k5 : w.cell? ⟨b, off + 5, none⟩ = some (.int .u8 c5)) (k6 : w.cell? ⟨b, off + 6, none⟩ = some (.int .u8 c6)) (k7 : w.cell? ⟨b, off + 7, none⟩ = some (.int .u8 c7)) (k8 : w.cell? ⟨b, off + 8, none⟩ = some (.int .u8 c8)) (k9 : w.cell? ⟨b, off + 9, none⟩ = some (.int .u8 c9)) (a0 : 0 ≤ c0) (b0 : c0 < 256) (a1 : 0 ≤ c1) (b1 : c1 < 256) (a2 : 0 ≤ c2) (b2 : c2 < 256) (a3 : 0 ≤ c3) (b3 : c3 < 256) (a4 : 0 ≤ c4) (b4 : c4 < 256) (a5 : 0 ≤ c5) (b5 : c5 < 256) (a6 : 0 ≤ c6) (b6 : c6 < 256) (a7 : 0 ≤ c7) (b7 : c7 < 256) (a8 : 0 ≤ c8) (b8 : c8 < 256) (a9 : 0 ≤ c9) (b9 : c9 < 2) :
    Calls Try.prog 31 #[.slice (some ⟨b, off, none⟩) 10 cap] w fun e w' => e = .returned (.int .u64 (jn [c0, c1, c2, c3, c4, c5, c6, c7, c8, c9])) ∧ w' = w := by
  have HV : Hid (_ = jn [c0, c1, c2, c3, c4, c5, c6, c7, c8, c9]) := jn_of10 a0 b0 a1 b1 a2 b2 a3 b3 a4 b4 a5 b5 a6 b6 a7 b7 a8 b8 a9 b9
  clear a0 b0 a1 b1 a2 b2 a3 b3 a4 b4 a5 b5 a6 b6 a7 b7 a8 b8 a9 b9
  go_enter Try.func31, Try.ntmps31
  go_wp2
  go_ret
  exact ⟨congrArg (fun t => Ending.returned (.int .u64 t)) HV.out, rfl⟩

/-- bits.joined of ten bytes at most; the tenth is below 2. -/
theorem joined_any (b off cap : Nat) (zs : List Int) (w : World) (h10 : zs.length ≤ 10) (hc : ∀ i, i < zs.length → w.cell? ⟨b, off + i, none⟩ = some (.int .u8 (zs.getD i 0))) (hb : bytesIn zs) (h9 : zs.length = 10 → zs.getD 9 0 < 2) :
    Calls Try.prog 31 #[.slice (some ⟨b, off, none⟩) zs.length cap] w fun e w' => e = .returned (.int .u64 (jn zs)) ∧ w' = w := by
  have hB : ∀ i, i < zs.length → 0 ≤ zs.getD i 0 ∧ zs.getD i 0 < 256 := fun i hi => bytesIn_get hb hi
  match zs, h10, hc, hB, h9 with
  | [], _, hc, hB, _ => exact joined0 _ cap w
  | [c0], _, hc, hB, _ => exact joined1 b off cap c0 w (hc 0 (by simp)) (hB 0 (by simp)).1 (hB 0 (by simp)).2
  | [c0, c1], _, hc, hB, _ => exact joined2 b off cap c0 c1 w (hc 0 (by simp)) (hc 1 (by simp)) (hB 0 (by simp)).1 (hB 0 (by simp)).2 (hB 1 (by simp)).1 (hB 1 (by simp)).2
  | [c0, c1, c2], _, hc, hB, _ => exact joined3 b off cap c0 c1 c2 w (hc 0 (by simp)) (hc 1 (by simp)) (hc 2 (by simp)) (hB 0 (by simp)).1 (hB 0 (by simp)).2 (hB 1 (by simp)).1 (hB 1 (by simp)).2 (hB 2 (by simp)).1 (hB 2 (by simp)).2
  | [c0, c1, c2, c3], _, hc, hB, _ => exact joined4 b off cap c0 c1 c2 c3 w (hc 0 (by simp)) (hc 1 (by simp)) (hc 2 (by simp)) (hc 3 (by simp)) (hB 0 (by simp)).1 (hB 0 (by simp)).2 (hB 1 (by simp)).1 (hB 1 (by simp)).2 (hB 2 (by simp)).1 (hB 2 (by simp)).2 (hB 3 (by simp)).1 (hB 3 (by simp)).2
  | [c0, c1, c2, c3, c4], _, hc, hB, _ => exact joined5 b off cap c0 c1 c2 c3 c4 w (hc 0 (by simp)) (hc 1 (by simp)) (hc 2 (by simp)) (hc 3 (by simp)) (hc 4 (by simp)) (hB 0 (by simp)).1 (hB 0 (by simp)).2 (hB 1 (by simp)).1 (hB 1 (by simp)).2 (hB 2 (by simp)).1 (hB 2 (by simp)).2 (hB 3 (by simp)).1 (hB 3 (by simp)).2 (hB 4 (by simp)).1 (hB 4 (by simp)).2
  | [c0, c1, c2, c3, c4, c5], _, hc, hB, _ => exact joined6 b off cap c0 c1 c2 c3 c4 c5 w (hc 0 (by simp)) (hc 1 (by simp)) (hc 2 (by simp)) (hc 3 (by simp)) (hc 4 (by simp)) (hc 5 (by simp)) (hB 0 (by simp)).1 (hB 0 (by simp)).2 (hB 1 (by simp)).1 (hB 1 (by simp)).2 (hB 2 (by simp)).1 (hB 2 (by simp)).2 (hB 3 (by simp)).1 (hB 3 (by simp)).2 (hB 4 (by simp)).1 (hB 4 (by simp)).2 (hB 5 (by simp)).1 (hB 5 (by simp)).2
  | [c0, c1, c2, c3, c4, c5, c6], _, hc, hB, _ => exact joined7 b off cap c0 c1 c2 c3 c4 c5 c6 w (hc 0 (by simp)) (hc 1 (by simp)) (hc 2 (by simp)) (hc 3 (by simp)) (hc 4 (by simp)) (hc 5 (by simp)) (hc 6 (by simp)) (hB 0 (by simp)).1 (hB 0 (by simp)).2 (hB 1 (by simp)).1 (hB 1 (by simp)).2 (hB 2 (by simp)).1 (hB 2 (by simp)).2 (hB 3 (by simp)).1 (hB 3 (by simp)).2 (hB 4 (by simp)).1 (hB 4 (by simp)).2 (hB 5 (by simp)).1 (hB 5 (by simp)).2 (hB 6 (by simp)).1 (hB 6 (by simp)).2
  | [c0, c1, c2, c3, c4, c5, c6, c7], _, hc, hB, _ => exact joined8 b off cap c0 c1 c2 c3 c4 c5 c6 c7 w (hc 0 (by simp)) (hc 1 (by simp)) (hc 2 (by simp)) (hc 3 (by simp)) (hc 4 (by simp)) (hc 5 (by simp)) (hc 6 (by simp)) (hc 7 (by simp)) (hB 0 (by simp)).1 (hB 0 (by simp)).2 (hB 1 (by simp)).1 (hB 1 (by simp)).2 (hB 2 (by simp)).1 (hB 2 (by simp)).2 (hB 3 (by simp)).1 (hB 3 (by simp)).2 (hB 4 (by simp)).1 (hB 4 (by simp)).2 (hB 5 (by simp)).1 (hB 5 (by simp)).2 (hB 6 (by simp)).1 (hB 6 (by simp)).2 (hB 7 (by simp)).1 (hB 7 (by simp)).2
  | [c0, c1, c2, c3, c4, c5, c6, c7, c8], _, hc, hB, _ => exact joined9 b off cap c0 c1 c2 c3 c4 c5 c6 c7 c8 w (hc 0 (by simp)) (hc 1 (by simp)) (hc 2 (by simp)) (hc 3 (by simp)) (hc 4 (by simp)) (hc 5 (by simp)) (hc 6 (by simp)) (hc 7 (by simp)) (hc 8 (by simp)) (hB 0 (by simp)).1 (hB 0 (by simp)).2 (hB 1 (by simp)).1 (hB 1 (by simp)).2 (hB 2 (by simp)).1 (hB 2 (by simp)).2 (hB 3 (by simp)).1 (hB 3 (by simp)).2 (hB 4 (by simp)).1 (hB 4 (by simp)).2 (hB 5 (by simp)).1 (hB 5 (by simp)).2 (hB 6 (by simp)).1 (hB 6 (by simp)).2 (hB 7 (by simp)).1 (hB 7 (by simp)).2 (hB 8 (by simp)).1 (hB 8 (by simp)).2
  | [c0, c1, c2, c3, c4, c5, c6, c7, c8, c9], _, hc, hB, h9 => exact joined10 b off cap c0 c1 c2 c3 c4 c5 c6 c7 c8 c9 w (hc 0 (by simp)) (hc 1 (by simp)) (hc 2 (by simp)) (hc 3 (by simp)) (hc 4 (by simp)) (hc 5 (by simp)) (hc 6 (by simp)) (hc 7 (by simp)) (hc 8 (by simp)) (hc 9 (by simp)) (hB 0 (by simp)).1 (hB 0 (by simp)).2 (hB 1 (by simp)).1 (hB 1 (by simp)).2 (hB 2 (by simp)).1 (hB 2 (by simp)).2 (hB 3 (by simp)).1 (hB 3 (by simp)).2 (hB 4 (by simp)).1 (hB 4 (by simp)).2 (hB 5 (by simp)).1 (hB 5 (by simp)).2 (hB 6 (by simp)).1 (hB 6 (by simp)).2 (hB 7 (by simp)).1 (hB 7 (by simp)).2 (hB 8 (by simp)).1 (hB 8 (by simp)).2 (hB 9 (by simp)).1 (h9 rfl)
  | c0 :: c1 :: c2 :: c3 :: c4 :: c5 :: c6 :: c7 :: c8 :: c9 :: c10 :: r, h10, _, _, _ => simp at h10
end Go.Proofs.Ytgkfbnjccfoaiaa
