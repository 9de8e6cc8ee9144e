/- Plain arithmetic beside KitCrc: four bits at once; what the walk's own terms are in Nat. -/
import Derived.Test.YtnnongchjbckpaaDoorKitCrc
import Derived.Test.YtnnongchjbckpaaDoorKitRows
import Derived.Laws.BitsAllLaws
namespace Go.Proofs.YtnnongchjbckpaaDoor
open Go.ChangeShapes Go.WideShapes Go.ChangeAt Go.RowKit
set_option linter.unusedVariables false

theorem split16 (x : Nat) : x = (x / 16 * 2 ^ 4) ^^^ (x % 16) := by
  have h := Nat.shiftLeft_add_eq_or_of_lt (show x % 16 < 2 ^ 4 by omega) (x / 16)
  have h2 : x / 16 * 2 ^ 4 ^^^ x % 16 = x / 16 * 2 ^ 4 + x % 16 := by
    rw [← Nat.shiftLeft_eq]
    rw [h]
    apply Nat.eq_of_testBit_eq
    intro i
    rw [Nat.testBit_xor, Nat.testBit_or, Nat.testBit_shiftLeft]
    by_cases hi : 4 ≤ i
    · have hz : (x % 16).testBit i = false := Nat.testBit_lt_two_pow (Nat.lt_of_lt_of_le (show x % 16 < 2 ^ 4 by omega) (Nat.pow_le_pow_right (by omega) hi))
      simp [hz]
    · simp [hi]
  rw [h2]; omega
/-- Four bits by a table of 16. -/
theorem cSteps4_table (x : Nat) : cSteps 4 x = x / 16 ^^^ cSteps 4 (x % 16) := by
  conv => lhs; rw [split16 x]
  rw [cSteps_xor, cSteps_high]
theorem cByte_two (r b : Nat) : cByte r b = cSteps 4 (cSteps 4 (r ^^^ b)) := by
  unfold cByte; rw [show 8 = 4 + 4 from rfl, cSteps_add]

/-- The 16 numbers. -/
def nibs : List Int := [0, 498536548, 997073096, 651767980, 1994146192, 1802195444, 1303535960, 1342533948, 3988292384, 4027552580, 3604390888, 3412177804, 2607071920, 2262029012, 2685067896, 3183342108]
theorem nibs_at (i : Nat) (h : i < 16) : nibs.getD i 0 = ((cSteps 4 i : Nat) : Int) := by
  have : (List.range 16).all (fun i => nibs.getD i 0 == ((cSteps 4 i : Nat) : Int)) = true := by decide +kernel
  have := List.all_eq_true.1 this i (by simpa using h)
  simpa using this

theorem and15 (r : Nat) (h : r < 4294967296) : bits .and .u32 (r : Int) 15 = ((r % 16 : Nat) : Int) := by
  have := u32_and_nat r 15 h (by omega)
  rw [show ((15 : Nat) : Int) = 15 from rfl] at this
  rw [this, nat_mask4]
/-- What 'left>>4 ^ afterNibble[left&15]' is. -/
theorem nib_val (r : Nat) (h : r < 4294967296) : bits .xor .u32 ((r : Int) / 16) ((cSteps 4 (r % 16) : Nat) : Int) = ((cSteps 4 r : Nat) : Int) := by
  have e : ((r : Int) / 16) = ((r / 16 : Nat) : Int) := by simp
  rw [e, u32_xor_nat _ _ (by omega) (cSteps_lt 4 (show r % 16 < 2 ^ 32 by omega)), ← cSteps4_table]
theorem cSteps_lt' (n r : Nat) (h : r < 4294967296) : cSteps n r < 4294967296 := cSteps_lt n (show r < 2 ^ 32 from h)
end Go.Proofs.YtnnongchjbckpaaDoor
