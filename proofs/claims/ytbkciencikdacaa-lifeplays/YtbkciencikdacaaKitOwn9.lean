/- A region that draws its order, whose calls make memory and answer numbers: one walk, in the order of the text, over the set of worlds in which all that lay there stays. (No program in it.) -/
import Derived.Test.YtbkciencikdacaaKitVals
import Derived.Test.YtbkciencikdacaaKitTurn
import Derived.Deep.Quiet
import Derived.BigQuiet
namespace Go.Proofs.Ytbkciencikdacaa
open Go.RowKit Kit
set_option linter.unusedVariables false

def OwnW (w : World) : Type := { w' : World // Below w.heap.size w w' }
theorem wp_region_own {P : Program} {id : Nat} {Q : Exit → Act → World → Prop} {a : Act} {w : World} {l : List Oper} (hm : P.follows .mixedOrders = true) (hB : Region.lexB .any l.toArray = true)
    (h : wpQuiet P l.toArray (fun w' => ∃ n : OwnW w, w' = n.1) (fun a' => ∀ w', (∃ n : OwnW w, w' = n.1) → Q .normal a' w') l a) : (Code.region id l.toArray true).wp P Q a w :=
  wp_region_quiet (C := fun w' => ∃ n : OwnW w, w' = n.1) hm hB ⟨⟨_, (Below.refl w.heap.size w).drew⟩, rfl⟩ (by simpa using h)
theorem Calls.own_of {P : Program} {f : FuncId} {args : Array Value} {w : World} {n : OwnW w} {v : Value} (h : Calls P f args n.1 fun e w' => e = .returned v ∧ Below n.1.heap.size n.1 w') :
    Calls P f args n.1 fun e w'' => e = .returned v ∧ ∃ m : OwnW w, w'' = m.1 :=
  h.mono fun _ w'' ⟨he, hb⟩ => ⟨he, ⟨w'', bel_tr n.2 hb⟩, rfl⟩
theorem ownW_nonempty (w : World) : Nonempty (OwnW w) := ⟨⟨w, Below.refl _ _⟩⟩
end Go.Proofs.Ytbkciencikdacaa
