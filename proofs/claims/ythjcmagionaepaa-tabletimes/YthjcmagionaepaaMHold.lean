/- When a span holds, when it is needed. (No program in it.) -/
import Derived.Test.YthjcmagionaepaaGKit
namespace Go.Proofs.Ythjcmagionaepaa
open Go.RowKit Kit
set_option linter.unusedVariables false

/-- Does a span have an epoch? -/
def holdsB (b d e : Int) : Bool := decide (b ≤ e) && (decide (d = 0) || decide (e < d))
/-- Is it needed at these epochs? -/
def needB (b d : Int) (es : List Int) : Bool := decide (d = 0) || es.any (fun e => holdsB b d e)
def maxE : Int := 1099511627776
/-- May an epoch be? -/
def epochB (e : Int) : Bool := decide (1 ≤ e ∧ e ≤ maxE)
theorem need_more {b d : Int} {es fs : List Int} (h : ∀ e ∈ es, e ∈ fs) (hn : needB b d es = true) : needB b d fs = true := by
  unfold needB at *
  rw [Bool.or_eq_true, List.any_eq_true] at *
  rcases hn with hn | ⟨e, h1, h2⟩
  · exact .inl hn
  · exact .inr ⟨e, h e h1, h2⟩
theorem need_at {b d e : Int} {es : List Int} (h : e ∈ es) (hh : holdsB b d e = true) : needB b d es = true := by
  unfold needB
  rw [Bool.or_eq_true, List.any_eq_true]
  exact .inr ⟨e, h, hh⟩
end Go.Proofs.Ythjcmagionaepaa
