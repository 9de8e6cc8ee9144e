/- dolmenalike.Sum: what one call answers. -/
import Derived.Test.YthjcmagionaepaaGreatProg
import Derived.WalkKit
import Derived.Below
import Derived.ProofKit
namespace Go.Proofs.YthjcmagionaepaaGreat
open Go.RowKit
set_option linter.unusedVariables false

/-- Held at 2 to the 40. -/
def satSum (n : Nat) : List Nat → Nat
  | [] => n
  | m :: r => if n + m ≤ 1099511627776 then satSum (n + m) r else 1099511627776
theorem satSum_le : ∀ (l : List Nat) (n : Nat), n ≤ 1099511627776 → satSum n l ≤ 1099511627776
  | [], n, h => h
  | m :: r, n, h => by
    unfold satSum
    split
    · exact satSum_le r _ (by assumption)
    · exact Nat.le_refl _
theorem satSum_small : ∀ (l : List Nat) (n : Nat), satSum n l < 1099511627776 → satSum n l = n + l.sum
  | [], n, h => by simp [satSum]
  | m :: r, n, h => by
    unfold satSum at h ⊢
    split
    · rename_i h1
      rw [if_pos h1] at h
      rw [satSum_small r _ h]; simp; omega
    · rename_i h1
      rw [if_neg h1] at h
      omega
theorem satSum_ge : ∀ (l : List Nat) (n : Nat), n ≤ 1099511627776 → n ≤ satSum n l
  | [], n, h => Nat.le_refl _
  | m :: r, n, h => by
    unfold satSum
    split
    · rename_i h1
      have := satSum_ge r (n + m) h1
      omega
    · exact h

set_option maxRecDepth 4000 in
set_option maxHeartbeats 2000000 in
theorem sum_list (ms : List Nat) (n b cap : Nat) (w : World) (hn : Hid (n ≤ 1099511627776)) (hm : Hid (∀ i, i < ms.length → (ms.getD i 0 : Int) ≤ 9223372036854775807)) (hl : ms.length ≤ 100) (hc : Hid (∀ i, i < ms.length → w.cell? ⟨b, i, none⟩ = some (.int .i64 (ms.getD i 0 : Nat)))) :
    Calls Tryz.prog 25 #[.int .i64 (n : Int), .slice (some ⟨b, 0, none⟩) ms.length cap] w fun e w' => e = .returned (.int .i64 (satSum n ms : Nat)) ∧ w' = w := by
  have HE : Hid (satSum n ms = satSum n (ms.drop 0)) := rfl
  go_enter Tryz.func25, Tryz.ntmps25
  go_wp2
  go_loop [0, 5] (fun a i => ∃ k m : Nat, k ≤ ms.length ∧ a = .int .i64 (m : Int) ∧ i = .int .i64 (k : Int) ∧ Hid (m ≤ 1099511627776 ∧ satSum n ms = satSum m (ms.drop k))) (fun _ i => ms.length - (intOf i).toNat)
  case atStart => exact ⟨0, n, by omega, rfl, rfl, hn.out, rfl⟩
  case round =>
    obtain ⟨k, m, hk, rfl, rfl, HM⟩ := hrel
    by_cases hlt : k < ms.length
    · have hck := hc.out k hlt
      have hmk := hm.out k hlt
      have hs : ms.drop k = ms.getD k 0 :: ms.drop (k + 1) := by
        rw [List.drop_eq_getElem_cons hlt]; simp [List.getD, hlt]
      have HS : Hid (satSum n ms = if m + ms.getD k 0 ≤ 1099511627776 then satSum (m + ms.getD k 0) (ms.drop (k + 1)) else 1099511627776) := by
        show _ = _
        rw [HM.out.2, hs]; rfl
      have hM : (m : Int) ≤ 1099511627776 := by have := HM.out.1; omega
      clear hs
      generalize ms.getD k 0 = x at *
      have g1 : decide ((m : Int) > 1099511627776) = false := by simp; omega
      by_cases hx : (x : Int) > 1099511627776 - (m : Int)
      · have HR : Hid (satSum n ms = 1099511627776) := by show _ = _; rw [HS.out, if_neg (by omega)]
        go_wp2
        go_ret
        exact ⟨congrArg (fun t : Nat => Ending.returned (.int .i64 (t : Int))) HR.out.symm, rfl⟩
      · have HR : Hid (m + x ≤ 1099511627776 ∧ satSum n ms = satSum (m + x) (ms.drop (k + 1))) := ⟨by omega, by rw [HS.out, if_pos (by omega)]⟩
        go_wp2
        go_roundw
        case rel => exact ⟨k + 1, m + x, by omega, by go_num, by go_num, HR⟩
        case measure => simp [intOf]; omega
    · have hk2 : ms.length = k := by omega
      have HR : Hid (satSum n ms = m) := by show _ = _; rw [HM.out.2, ← hk2, List.drop_length]; rfl
      subst hk2
      go_wp2
      go_ret
      exact ⟨congrArg (fun t : Nat => Ending.returned (.int .i64 (t : Int))) HR.out.symm, rfl⟩
end Go.Proofs.YthjcmagionaepaaGreat
