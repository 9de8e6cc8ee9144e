/- NamesUnder: a case. -/
import Derived.Test.YtlnhkdiecfccaaaDoorLUnder0
import Derived.Test.YtlnhkdiecfccaaaDoorMBack
import Derived.Deep.RegionWith
import Derived.Deep.DeepFit
namespace Go.Proofs.YtlnhkdiecfccaaaDoor
open Go.RowKit Kit
set_option linter.unusedVariables false

set_option maxRecDepth 4000 in
set_option maxHeartbeats 16000000 in
theorem under_r0 (a b c : ByteArray) (w : World) (ha : a.size ≤ 400) (hb : b.size ≤ 400) (hc : c.size ≤ 400)
    (hk : decide ((splitB a).2 = 0) = true) (hx : underB a b = true) (hy : underB b c = true) (hz : underB a c = true) (hv : underB b a = false) :
    Calls Tryd.prog 6 #[.string a, .string b, .string c] w fun e w' => e = .returned (.bool true) ∧ Below w.heap.size w w' := by
  have ml : 400 ≤ maxLen := by unfold maxLen; omega
  have HAA := nunder_at ((under_self a).trans hk) (by omega) (by omega)
  have HAR := nunder_at ((under_root a).trans hk) (by omega) (by decide)
  have HAB := nunder_at hx (by omega) (by omega)
  have HBC := nunder_at hy (by omega) (by omega)
  have HAC := nunder_at hz (by omega) (by omega)
  have HBA := nunder_at hv (by omega) (by omega)
  have HS : Hid (∀ w, Calls Tryd.prog 10 #[.string a] w fun e w' => ∃ r, e = .returned (.tuple #[r, errV (splitB a).2]) ∧ Below w.heap.size w w') := fun w => by
    refine (nsplit_any a w (by omega)).mono ?_
    rintro e w' ⟨r, rfl, _, h⟩
    exact ⟨r, rfl, h⟩
  have i1 : (a.size : Int) ≤ 400 := by omega
  have i2 : (b.size : Int) ≤ 400 := by omega
  have i3 : (c.size : Int) ≤ 400 := by omega
  have he : errV (splitB a).2 = .nilIface := by rw [of_decide_eq_true hk]; rfl
  rw [he] at HS
  clear he
  clear ha hb hc hk hx hy hz hv ml
  go_enter Tryd.func6, Tryd.ntmps6
  go_wp2_with fail
  go_at_call 10
  refine (HS.out _).mono ?_
  rintro e1 w1 ⟨r1, rfl, hb1⟩
  have H1 : Hid (Below w.heap.size w w1) := hb1
  clear hb1 HS
  go_wp2_with fail
  go_at_call 16
  refine (HAB.out _).mono ?_
  rintro e2 w2 ⟨rfl, hb2⟩
  have H2 : Hid (Below w.heap.size w w2) := bel2v H1.out hb2
  clear hb2 H1 HAB
  go_wp2
  go_region_held3 (fun w' => Hid (Below w.heap.size w w')) (first | exact H2 | exact H2.out.drew | exact keepU (by assumption) (by assumption) | exact keepUd (by assumption))
    (first
      | (go_at_call 16; go_fit (HAA.out _); rintro e3 w3 ⟨rfl, hb3⟩)
      | (go_at_call 16; go_fit (HAR.out _); rintro e4 w4 ⟨rfl, hb4⟩)
      | (go_at_call 16; go_fit (HBC.out _); rintro e5 w5 ⟨rfl, hb5⟩)
      | (go_at_call 16; go_fit (HAC.out _); rintro e6 w6 ⟨rfl, hb6⟩))
  rename_i H6
  clear hb3 hb4 hb5 hb6
  all_goals (go_wp2_with fail; go_at_call 16; refine (HBA.out _).mono ?_; rintro e7 w7 ⟨rfl, hb7⟩; have H7 : Hid (Below w.heap.size w w7) := bel2v H6.out hb7; clear hb7 H6)
  all_goals (go_wp2_with fail; go_at_call 9; refine (awake4_any _).mono ?_; rintro e9 w9 ⟨rfl, hb9⟩; have H9 : Hid (Below w.heap.size w w9) := bel2v H7.out hb9; clear hb9 H7; go_wp2; go_ret; exact ⟨by simp, H9.out⟩)
end Go.Proofs.YtlnhkdiecfccaaaDoor
