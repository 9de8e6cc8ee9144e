/- The mathematics of TreeLinks. -/
import Derived.Test.YtchajlaflehodaaGreatDoorMLimits5
namespace Go.Proofs.YtchajlaflehodaaGreatDoor
open Go.RowKit Kit
set_option linter.unusedVariables false

def pFF : ByteArray := ⟨#[47, 102]⟩
def lnkT : Nat → TreeB
  | 0 => (doB newB (opB 1 pFF)).1
  | i + 1 => (doB (lnkT i) (lnB pFF (pth i))).1
def haveN (n : Nat) : Nat := min (n + 1) 20
def offT (n : Nat) : Nat → TreeB
  | 0 => (doB (lnkT n) (opB 3 pFF)).1
  | i + 1 => (doB (offT n i) (opB 3 (pth i))).1
def lnkA (i : Nat) : Bool := decide ((doB (lnkT i) (lnB pFF (pth i))).2.2 = if haveN i < 20 then 0 else 16)
def lnkB (n : Nat) : Bool := decide (linksD (lnkT n) 2 = haveN n)
def offA (n i : Nat) : Bool := decide (linksD (offT n i) 2 = haveN n - 1 - i) && decide ((doB (offT n i) (opB 3 (pth i))).2.2 = 0)
def offE (n : Nat) : Bool := decide (linksD (offT n (haveN n - 1)) 2 = 0) && decide ((offT n (haveN n - 1)).nodes.length = 1)
set_option maxRecDepth 100000 in
theorem lnk1 : ∀ i < 25, lnkA i = true := by decide +kernel
set_option maxRecDepth 100000 in
theorem lnk2 : ∀ n < 26, lnkB n = true := by decide +kernel
set_option maxRecDepth 100000 in
theorem off1 : ∀ n < 26, ∀ i < 19, i + 1 < haveN n → offA n i = true := by decide +kernel
set_option maxRecDepth 100000 in
theorem off2 : ∀ n < 26, offE n = true := by decide +kernel
theorem lnk0 : (doB newB (opB 1 pFF)).2.2 = 0 := by decide +kernel
set_option maxRecDepth 100000 in
theorem off0 : ∀ n < 26, (doB (lnkT n) (opB 3 pFF)).2.2 = 0 := by decide +kernel
end Go.Proofs.YtchajlaflehodaaGreatDoor
