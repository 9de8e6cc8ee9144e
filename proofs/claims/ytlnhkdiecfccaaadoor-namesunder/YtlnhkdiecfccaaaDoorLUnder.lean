/- NamesUnder: it answers true. -/
import Derived.Test.YtlnhkdiecfccaaaDoorLUnderN
import Derived.Test.YtlnhkdiecfccaaaDoorLUnderP
import Derived.Test.YtlnhkdiecfccaaaDoorLUnderQ0
import Derived.Test.YtlnhkdiecfccaaaDoorLUnderQ1
import Derived.Test.YtlnhkdiecfccaaaDoorLUnderR0
import Derived.Test.YtlnhkdiecfccaaaDoorLUnderR1
namespace Go.Proofs.YtlnhkdiecfccaaaDoor
open Go.RowKit Kit
set_option linter.unusedVariables false

set_option maxRecDepth 4000 in
set_option maxHeartbeats 4000000 in
theorem lunder_long (a b c : ByteArray) (w : World) (h : 400 < a.size ∨ 400 < b.size ∨ 400 < c.size) :
    Calls Tryd.prog 6 #[.string a, .string b, .string c] w fun e w' => e = .returned (.bool true) ∧ Below w.heap.size w w' := by
  go_enter Tryd.func6, Tryd.ntmps6
  by_cases h1 : (400 : Int) < (a.size : Int)
  · clear h
    go_wp2_with fail
    go_at_call 9
    refine (awake4_any _).mono ?_
    rintro e1 w1 ⟨rfl, hb1⟩
    have H1 : Hid (Below w.heap.size w w1) := hb1
    clear hb1
    go_wp2
    go_ret
    exact ⟨rfl, H1.out⟩
  have i1 : (a.size : Int) ≤ 400 := by omega
  by_cases h2 : (400 : Int) < (b.size : Int)
  · clear h h1
    go_wp2_with fail
    go_at_call 9
    refine (awake4_any _).mono ?_
    rintro e1 w1 ⟨rfl, hb1⟩
    have H1 : Hid (Below w.heap.size w w1) := hb1
    clear hb1
    go_wp2
    go_ret
    exact ⟨rfl, H1.out⟩
  have i2 : (b.size : Int) ≤ 400 := by omega
  have h3 : (400 : Int) < (c.size : Int) := by omega
  clear h h1 h2
  go_wp2_with fail
  go_at_call 9
  refine (awake4_any _).mono ?_
  rintro e1 w1 ⟨rfl, hb1⟩
  have H1 : Hid (Below w.heap.size w w1) := hb1
  clear hb1
  go_wp2
  go_ret
  exact ⟨rfl, H1.out⟩
theorem lunder_any (a b c : ByteArray) (w : World) :
    Calls Tryd.prog 6 #[.string a, .string b, .string c] w fun e w' => e = .returned (.bool true) ∧ Below w.heap.size w w' := by
  by_cases h : 400 < a.size ∨ 400 < b.size ∨ 400 < c.size
  · exact lunder_long a b c w h
  have ha : a.size ≤ 400 := by omega
  have hb : b.size ≤ 400 := by omega
  have hc : c.size ≤ 400 := by omega
  cases hk : decide ((splitB a).2 = 0) with
  | false =>
    have hx : underB a b = false := by
      unfold underB
      refine decide_eq_false ?_
      rintro ⟨h1, _⟩
      exact of_decide_eq_false hk h1
    exact under_n a b c w ha hb hc _ _ _ hk hx rfl rfl rfl
  | true =>
    cases hx : underB a b with
    | false => exact under_p a b c w ha hb hc _ _ _ hk hx rfl rfl rfl
    | true =>
      cases hy : underB b c with
      | false =>
        cases hv : underB b a with
        | false => exact under_q0 a b c w ha hb hc _ hk hx hy rfl hv
        | true => exact under_q1 a b c w ha hb hc _ hk hx hy rfl hv
      | true =>
        have hz := under_trans hx hy
        cases hv : underB b a with
        | false => exact under_r0 a b c w ha hb hc hk hx hy hz hv
        | true => exact under_r1 a b c w ha hb hc hk hx hy hz hv
end Go.Proofs.YtlnhkdiecfccaaaDoor
