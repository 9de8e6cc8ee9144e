/- dolmenref5.Ints of what is the same. -/
import Derived.Test.YtbkciencikdacaaRSortedI
namespace Go.Proofs.Ytbkciencikdacaa
open Go.RowKit Kit
set_option linter.unusedVariables false

set_option maxRecDepth 4000 in
set_option maxHeartbeats 2000000 in
theorem ints_same (x y : Value) (l : List Int) (w : World) (hx : Sees w x (iV l)) (hy : Sees w y (iV l)) :
    Calls Try.prog 13 #[x, y] w fun e w' => e = .returned (.bool true) ∧ Below w.heap.size w w' := by
  obtain ⟨ao, cap, rfl, h1, h2, h3, h4⟩ := hx
  obtain ⟨bo, cap', rfl, g1, g2, g3, g4⟩ := hy
  simp only [iV_len] at *
  have hm : (l.length : Int) ≤ 9223372036854775807 := by unfold maxLen at h2; omega
  have H4 : Hid (_ → _) := h4
  have G4 : Hid (_ → _) := g4
  clear h1 h2 h3 g1 g2 g3 h4 g4
  go_enter Try.func13, Try.ntmps13
  go_wp2
  go_loopw [5] (fun i wr => ∃ k : Nat, k ≤ l.length ∧ i = .int .i64 (k : Int) ∧ Hid (Below w.heap.size w wr)) (fun i _ => l.length - (intOf i).toNat)
  case atStart => exact ⟨0, Nat.zero_le _, rfl, Below.refl _ _⟩
  case round =>
    obtain ⟨k, hk, rfl, HB⟩ := hrel
    by_cases hlt : k < l.length
    · obtain ⟨b, off, rfl, hbl, hc⟩ := H4.out (by omega)
      obtain ⟨b', off', rfl, hbl', hc'⟩ := G4.out (by omega)
      have c0 := (HB.out.cell (by exact hbl)).trans (hc k _ (iV_at l k hlt))
      have c1 := (HB.out.cell (by exact hbl')).trans (hc' k _ (iV_at l k hlt))
      have i0 : (k : Int) < (l.length : Int) := by omega
      have i2 : (0 : Int) ≤ (k : Int) := by omega
      clear hc hc' hbl hbl'
      go_wp2
      go_region
      go_wp2
      go_roundw
      case rel => exact ⟨k + 1, by omega, by simp, HB.out.drew⟩
      case measure => simp [intOf]; omega
    · have i0 : ¬ (k : Int) < (l.length : Int) := by omega
      go_wp2
      go_ret
      exact ⟨rfl, HB.out⟩
end Go.Proofs.Ytbkciencikdacaa
