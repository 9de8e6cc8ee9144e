/- dolmenref1.Of: what one call answers. -/
import Derived.Test.YtnnongchjbckpaaDoorAdd
namespace Go.Proofs.YtnnongchjbckpaaDoor
open Go.ChangeShapes Go.WideShapes Go.ChangeAt Go.RowKit Kit
set_option linter.unusedVariables false

theorem cSteps_last (k r : Nat) : cSteps (k + 1) r = cStep (cSteps k r) := by rw [cSteps_add]; rfl
theorem and1 (r : Nat) (h : r < 4294967296) : bits .and .u32 (r : Int) 1 = ((r % 2 : Nat) : Int) := by
  have := u32_and_nat r 1 h (by omega)
  rw [show ((1 : Nat) : Int) = 1 from rfl] at this
  rw [this, nat_mask1]
theorem step_odd (r : Nat) (h : r < 4294967296) (hr : r % 2 = 1) : bits .xor .u32 ((r : Int) / 2) 3988292384 = ((cStep r : Nat) : Int) := by
  have e : ((r : Int) / 2) = ((r / 2 : Nat) : Int) := by simp
  have e2 := u32_xor_nat (r / 2) 3988292384 (by omega) (by omega)
  rw [show ((3988292384 : Nat) : Int) = 3988292384 from rfl] at e2
  rw [e, e2]
  unfold cStep
  rw [if_pos hr, Nat.shiftRight_eq_div_pow]
theorem step_even (r : Nat) (hr : r % 2 = 0) : ((r : Int) / 2) = ((cStep r : Nat) : Int) := by
  unfold cStep
  rw [if_neg (by omega), Nat.shiftRight_eq_div_pow, Nat.xor_zero]; simp

set_option maxRecDepth 4000 in
set_option maxHeartbeats 2000000 in
theorem refOf_any (v : Value) (zs : List Int) (B : Nat) (w : World) (hv : Vw B w .u8 v zs) (hb : bytesIn zs) :
    Calls Tryd.prog 12 #[v] w fun e w' => e = .returned (.int .u32 ((cOf (natB zs) : Nat) : Int)) ∧ w' = w := by
  rcases hv with ⟨rfl, ao, cap, rfl, hnil, _⟩ | ⟨hz, b, off, cap, rfl, h1, h2, h3, h4⟩
  · have HE : Hid (bits .xor .u32 IntKind.u32.max 4294967295 = ((cOf (natB []) : Nat) : Int)) := by show _ = _; decide +kernel
    go_enter Tryd.func12, Tryd.ntmps12
    go_wp2
    go_loop [3, 4] (fun r i => r = .int .u32 4294967295 ∧ i = .int .i64 0) (fun _ i => 0)
    case atStart => exact ⟨rfl, rfl⟩
    case round =>
      obtain ⟨rfl, rfl⟩ := hrel
      go_wp2
      go_ret
      exact ⟨congrArg (fun t => Ending.returned (.int .u32 t)) HE.out, rfl⟩
  · have HC : Hid (∀ i, i < zs.length → w.cell? ⟨b, off + i, none⟩ = some (.int .u8 (zs.getD i 0))) := h4
    clear h4
    have hcm : (zs.length : Int) ≤ 9223372036854775807 := by unfold maxLen at h2; omega
    have HB : Hid (bytesIn zs) := hb
    clear hb
    have HL : Hid (∀ k, cReg 4294967295 (natB (zs.take k)) < 4294967296) := fun k => cReg_lt _ (by decide) (natB_bytes (bytesIn_take HB.out k))
    have HI : Hid (((cReg 4294967295 (natB (zs.take 0)) : Nat) : Int) = 4294967295) := by show _ = _; rfl
    have HF : Hid (((inv (cReg 4294967295 (natB (zs.take zs.length))) : Nat) : Int) = ((cOf (natB zs) : Nat) : Int)) := by show _ = _; rw [List.take_length]; rfl
    have HS : Hid (∀ k, k < zs.length → cReg 4294967295 (natB (zs.take (k + 1))) = cSteps 8 (cReg 4294967295 (natB (zs.take k)) ^^^ (zs.getD k 0).toNat)) := fun k hlt => by
      rw [natB_take_succ zs k hlt, cReg_append, cReg_cons]; rfl
    generalize hG : (fun k => cReg 4294967295 (natB (zs.take k))) = G at *
    have HG : Hid (∀ k, cReg 4294967295 (natB (zs.take k)) = G k) := fun k => by rw [← hG]
    clear hG
    have HL2 : Hid (∀ k, G k < 4294967296) := fun k => by rw [← HG.out k]; exact HL.out k
    have HI2 : Hid (((G 0 : Nat) : Int) = 4294967295) := by show _ = _; rw [← HG.out 0]; exact HI.out
    have HF2 : Hid (((inv (G zs.length) : Nat) : Int) = ((cOf (natB zs) : Nat) : Int)) := by show _ = _; rw [← HG.out]; exact HF.out
    have HS2 : Hid (∀ k, k < zs.length → G (k + 1) = cSteps 8 (G k ^^^ (zs.getD k 0).toNat)) := fun k hlt => by rw [← HG.out, ← HG.out]; exact HS.out k hlt
    clear HL HI HF HS HG
    go_enter Tryd.func12, Tryd.ntmps12
    go_wp2
    go_loop [3, 4] (fun r i => ∃ k : Nat, k ≤ zs.length ∧ r = .int .u32 ((G k : Nat) : Int) ∧ i = .int .i64 k) (fun _ i => zs.length - (intOf i).toNat)
    case atStart => exact ⟨0, by omega, by rw [HI2.out], rfl⟩
    case round =>
      obtain ⟨k, hk, rfl, rfl⟩ := hrel
      have hlk : Hid (_ < 4294967296) := HL2.out k
      by_cases hlt : k < zs.length
      · have hck := HC.out k hlt
        have hbk := bytesIn_get HB.out hlt
        obtain ⟨c0, c1⟩ := hbk
        have hx := xor_byte (G k) (zs.getD k 0) (by have := hlk.out; omega) c0 c1
        have hX : Hid (G k ^^^ (zs.getD k 0).toNat < 4294967296) := xor_lt (n := 32) hlk.out (by omega)
        have HK := HS2.out k hlt
        generalize hY : G k ^^^ (zs.getD k 0).toNat = Y at *
        have HK2 : Hid (G (k + 1) = cSteps 8 Y) := HK
        clear HK hY
        generalize hc : zs.getD k 0 = c at *
        clear hc
        go_wp2
        go_loop [3, 5] (fun r j => ∃ m : Nat, m ≤ 8 ∧ r = .int .u32 ((cSteps m Y : Nat) : Int) ∧ j = .int .i64 m) (fun _ j => 8 - (intOf j).toNat)
        case atStart => exact ⟨0, by omega, rfl, rfl⟩
        case round =>
          obtain ⟨m, hm, rfl, rfl⟩ := hrel
          clear hx hck
          have hmlt : Hid (cSteps m Y < 4294967296) := cSteps_lt' m Y hX.out
          have HN : Hid (cSteps (m + 1) Y = cStep (cSteps m Y)) := cSteps_last m Y
          by_cases h8 : m < 8
          · have h1 := and1 (cSteps m Y) hmlt.out
            rcases Nat.mod_two_eq_zero_or_one (cSteps m Y) with hp | hp
            · have HV : Hid (_ = _) := step_even (cSteps m Y) hp
              rw [hp] at h1
              generalize cSteps m Y = R at *
              clear hp
              go_wp2
              go_roundw
              case rel => exact ⟨m + 1, by omega, by rw [HN.out, ← HV.out], by go_num⟩
              case measure => simp [intOf]; omega
            · have HV : Hid (_ = _) := step_odd (cSteps m Y) hmlt.out hp
              rw [hp] at h1
              generalize cSteps m Y = R at *
              clear hp
              go_wp2
              go_roundw
              case rel => exact ⟨m + 1, by omega, by rw [HN.out, ← HV.out], by go_num⟩
              case measure => simp [intOf]; omega
          · have hm8 : m = 8 := by omega
            subst hm8
            rw [← HK2.out]
            go_wp2
            go_roundw
            case rel => exact ⟨k + 1, by omega, rfl, by go_num⟩
            case measure => simp [intOf]; omega
      · have hk2 : k = zs.length := by omega
        subst hk2
        have hn2 := notV (G zs.length) hlk.out
        go_wp2
        go_ret
        exact ⟨congrArg (fun t => Ending.returned (.int .u32 t)) HF2.out, rfl⟩
end Go.Proofs.YtnnongchjbckpaaDoor
