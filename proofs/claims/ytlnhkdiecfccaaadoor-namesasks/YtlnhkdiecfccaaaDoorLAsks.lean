/- NamesAsks: it answers true. -/
import Derived.Test.YtlnhkdiecfccaaaDoorAwake4
namespace Go.Proofs.YtlnhkdiecfccaaaDoor
open Go.RowKit Kit
set_option linter.unusedVariables false

set_option maxRecDepth 4000 in
set_option maxHeartbeats 8000000 in
theorem asks_any (p q : ByteArray) (w : World) (hp : p.size ≤ maxLen) (hq : q.size ≤ maxLen) :
    Calls Tryd.prog 3 #[.string p, .string q] w fun e w' => e = .returned (.bool true) ∧ Below w.heap.size w w' := by
  have HP : Hid (p.size ≤ maxLen) := hp
  have HQ : Hid (q.size ≤ maxLen) := hq
  clear hp hq
  go_enter Tryd.func3, Tryd.ntmps3
  by_cases h1 : (400 : Int) < (p.size : Int)
  · go_wp2_with fail
    go_at_call 9
    refine (awake4_any _).mono ?_
    rintro e1 w1 ⟨rfl, hb1⟩
    have H1 : Hid (Below w.heap.size w w1) := hb1
    clear hb1
    go_wp2
    go_ret
    exact ⟨rfl, H1.out⟩
  by_cases h2 : (400 : Int) < (q.size : Int)
  · have h1' : (p.size : Int) ≤ 400 := by omega
    clear h1
    go_wp2_with fail
    go_at_call 9
    refine (awake4_any _).mono ?_
    rintro e1 w1 ⟨rfl, hb1⟩
    have H1 : Hid (Below w.heap.size w w1) := hb1
    clear hb1
    go_wp2
    go_ret
    exact ⟨rfl, H1.out⟩
  have h1' : (p.size : Int) ≤ 400 := by omega
  have h2' : (q.size : Int) ≤ 400 := by omega
  clear h1 h2
  obtain ⟨⟨a, f⟩, ha⟩ : ∃ x, splitB p = x := ⟨_, rfl⟩
  obtain ⟨⟨c, k, h⟩, hc⟩ : ∃ x, parentB p = x := ⟨_, rfl⟩
  obtain ⟨u, hu⟩ : ∃ x, underB p q = x := ⟨_, rfl⟩
  obtain ⟨ef, hef⟩ : ∃ x, errV f = x := ⟨_, rfl⟩
  obtain ⟨eh, heh⟩ : ∃ x, errV h = x := ⟨_, rfl⟩
  have HS : Hid (∀ w, Calls Tryd.prog 10 #[.string p] w fun e w' => ∃ r, e = .returned (.tuple #[r, ef]) ∧ Sees w' r (strs a) ∧ Below w.heap.size w w') := fun w => by
    have := nsplit_any p w HP.out
    rw [ha] at this
    simp only at this
    rw [hef] at this
    exact this
  have HT : Hid (∀ w, Calls Tryd.prog 11 #[.string p] w fun e w' => ∃ r, e = .returned (.tuple #[r, .int .i64 f]) ∧ RowV w' w.heap.size 9 r (strs a) ∧ Below w.heap.size w w') := fun w => by
    have := split_any p w HP.out
    rw [ha] at this
    exact this
  have HU : Hid (∀ w, Calls Tryd.prog 12 #[.string p] w fun e w' => e = .returned (.tuple #[.string c, .string k, eh]) ∧ Below w.heap.size w w') := fun w => by
    have := nparent_any p w HP.out
    rw [hc] at this
    simp only at this
    rw [heh] at this
    exact this
  have HV : Hid (∀ w, Calls Tryd.prog 13 #[.string p] w fun e w' => e = .returned (.tuple #[.string c, .string k, .int .i64 h]) ∧ Below w.heap.size w w') := fun w => by
    have := parent_any p w HP.out
    rw [hc] at this
    exact this
  have HC1 : Hid (∀ w, Calls Tryd.prog 15 #[ef] w fun e w' => e = .returned (.int .i64 f) ∧ w' = w) := fun w => by
    have hr := split_range p
    rw [ha] at hr
    rw [← hef]
    exact code_any f w hr
  have HC2 : Hid (∀ w, Calls Tryd.prog 15 #[eh] w fun e w' => e = .returned (.int .i64 h) ∧ w' = w) := fun w => by
    have hr := parent_range p
    rw [hc] at hr
    rw [← heh]
    exact code_any h w hr
  have HN : Hid (∀ w, Calls Tryd.prog 16 #[.string p, .string q] w fun e w' => e = .returned (.bool u) ∧ Below w.heap.size w w') := fun w => by
    have := nunder_any p q w HP.out HQ.out
    rw [hu] at this
    exact this
  have HM : Hid (∀ w, Calls Tryd.prog 17 #[.string p, .string q] w fun e w' => e = .returned (.bool u) ∧ Below w.heap.size w w') := fun w => by
    have := under_any p q w HP.out HQ.out
    rw [hu] at this
    exact this
  clear ha hc hu hef heh
  go_wp2_with fail
  go_at_call 10
  refine (HS.out _).mono ?_
  rintro e1 w1 ⟨r1, rfl, hr1, hb1⟩
  have H1 : Hid (Sees w1 r1 (strs a) ∧ Below w.heap.size w w1) := ⟨hr1, hb1⟩
  clear hr1 hb1 HS
  go_wp2_with fail
  go_at_call 11
  refine (HT.out _).mono ?_
  rintro e2 w2 ⟨r2, rfl, hr2, hb2⟩
  have H2 : Hid (Sees w2 r1 (strs a) ∧ Sees w2 r2 (strs a) ∧ Below w.heap.size w w2) := ⟨H1.out.1.below hb2, hr2.sees, bel2v H1.out.2 hb2⟩
  clear hr2 hb2 HT H1
  go_wp2_with fail
  go_at_call 12
  refine (HU.out _).mono ?_
  rintro e3 w3 ⟨rfl, hb3⟩
  have H3 : Hid (Sees w3 r1 (strs a) ∧ Sees w3 r2 (strs a) ∧ Below w.heap.size w w3) := ⟨H2.out.1.below hb3, H2.out.2.1.below hb3, bel2v H2.out.2.2 hb3⟩
  clear hb3 HU H2
  go_wp2_with fail
  go_at_call 13
  refine (HV.out _).mono ?_
  rintro e4 w4 ⟨rfl, hb4⟩
  have H4 : Hid (Sees w4 r1 (strs a) ∧ Sees w4 r2 (strs a) ∧ Below w.heap.size w w4) := ⟨H3.out.1.below hb4, H3.out.2.1.below hb4, bel2v H3.out.2.2 hb4⟩
  clear hb4 HV H3
  go_wp2_with fail
  go_at_call 14
  refine (texts_any _ _ _ _ _ H4.out.1 H4.out.2.1).mono ?_
  rintro e5 w5 ⟨rfl, hb5⟩
  have H5 : Hid (Below w.heap.size w w5) := bel2v H4.out.2.2 hb5
  have ea : decide (a = a) = true := by simp
  rw [ea]
  clear hb5 H4 ea
  go_wp2_with fail
  go_at_call 15
  refine (HC1.out _).mono ?_
  rintro e6 w6 ⟨rfl, rfl⟩
  clear HC1
  go_wp2_with fail
  go_at_call 15
  refine (HC2.out _).mono ?_
  rintro e7 w7 ⟨rfl, rfl⟩
  clear HC2
  go_wp2_with fail
  go_at_call 16
  refine (HN.out _).mono ?_
  rintro e8 w8 ⟨rfl, hb8⟩
  have H8 : Hid (Below w.heap.size w w8) := bel2v H5.out hb8
  clear hb8 HN H5
  go_wp2_with fail
  go_at_call 17
  refine (HM.out _).mono ?_
  rintro e9 w9 ⟨rfl, hb9⟩
  have H9 : Hid (Below w.heap.size w w9) := bel2v H8.out hb9
  clear hb9 HM H8
  go_wp2_with fail
  go_at_call 18
  refine (nless_any _ _ _).mono ?_
  rintro e10 w10 ⟨rfl, hb10⟩
  have H10 : Hid (Below w.heap.size w w10) := bel2v H9.out hb10
  clear hb10 H9
  go_wp2_with fail
  go_at_call 9
  refine (awake4_any _).mono ?_
  rintro e11 w11 ⟨rfl, hb11⟩
  have H11 : Hid (Below w.heap.size w w11) := bel2v H10.out hb11
  clear hb11 H10
  go_wp2
  go_ret
  exact ⟨by simp, H11.out⟩
end Go.Proofs.YtlnhkdiecfccaaaDoor
