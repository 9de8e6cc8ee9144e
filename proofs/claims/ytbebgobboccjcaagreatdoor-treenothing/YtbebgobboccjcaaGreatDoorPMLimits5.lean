/- The mathematics of awake, TreeLimits and TreeLinks: some hundred trees, reckoned by the kernel. -/
import Derived.Test.YtbebgobboccjcaaGreatDoorH1
import Derived.Test.YtbebgobboccjcaaGreatDoorH2
namespace Go.Proofs.YtbebgobboccjcaaGreatDoor
open Go.RowKit Kit
set_option linter.unusedVariables false

def opB (k : Int) (p : ByteArray) : OpB := ⟨k, p, ⟨#[]⟩, 0, 0, [], 0⟩
def lnB (p q : ByteArray) : OpB := ⟨6, p, q, 0, 0, [], 0⟩
def pA : ByteArray := ⟨#[47, 97]⟩
def tA : TreeB := (doB newB (opB 1 pA)).1
theorem awake1 : (doB newB (opB 1 pA)).2.2 = 0 ∧ (doB newB (opB 1 pA)).2.1.ino = 2 := by decide +kernel
theorem awake2 : (doB tA (opB 1 pA)).2.2 = 6 := by decide +kernel
theorem awake3 : linksD (doB tA (opB 1 pA)).1 2 = 1 := by decide +kernel

def pN : ByteArray := ⟨#[47, 110]⟩
def pth (i : Nat) : ByteArray := pN ++ decS i
def limT (k : Int) : Nat → TreeB
 | 0 => newB
 | i + 1 => (doB (limT k i) (opB k (pth i))).1
def pNew : ByteArray := ⟨#[47, 110, 101, 119]⟩
def p0 : ByteArray := ⟨#[47, 110, 48]⟩
def goneK (k : Int) : Int := if k = 2 then 4 else 3
def limA (k : Int) (i : Nat) : Bool := decide ((doB (limT k i) (opB k (pth i))).2.2 = if i < 59 then 0 else 16) && decide (i < 59 → (doB (limT k i) (opB k (pth i))).2.1.ino = i + 2)
def limE (k : Int) (n : Nat) : Bool := decide ((doB (limT k n) (opB (goneK k) p0)).2.2 = 0) && decide ((doB (doB (limT k n) (opB (goneK k) p0)).1 (opB k pNew)).2.2 = 0) && decide ((doB (doB (limT k n) (opB (goneK k) p0)).1 (opB k pNew)).2.1.ino = (min n 59 : Nat) + 2)
end Go.Proofs.YtbebgobboccjcaaGreatDoor
