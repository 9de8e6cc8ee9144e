/- dolmenlaw4.awake: it is. -/
import Derived.Test.YtlnhkdiecfccaaaDoorNFns
import Derived.Test.YtlnhkdiecfccaaaDoorRTexts
import Derived.Test.YtlnhkdiecfccaaaDoorMMatch
namespace Go.Proofs.YtlnhkdiecfccaaaDoor
open Go.RowKit Kit
set_option linter.unusedVariables false

theorem ret_int {k : IntKind} {a b : Int} (h : a = b) : Ending.returned (.int k a) = .returned (.int k b) := by rw [h]
/-- dolmenalike.Code of a bare number. -/
theorem code_any (c : Int) (w : World) (h : 0 ≤ c ∧ c ≤ 19) : Calls Tryd.prog 15 #[errV c] w fun e w' => e = .returned (.int .i64 c) ∧ w' = w := by
  by_cases h0 : c = 0
  · subst h0; exact code_nil w
  · obtain ⟨n, rfl⟩ : ∃ n : Nat, c = n := ⟨c.toNat, by omega⟩
    unfold errV
    rw [if_neg h0]
    exact code_num n w (by omega) (by omega)
theorem split_range (s : ByteArray) : 0 ≤ (splitB s).2 ∧ (splitB s).2 ≤ 19 := by
  unfold splitB
  split
  · decide
  split
  · decide
  split
  · decide
  split
  · decide
  split
  · decide
  · exact ⟨Int.le_refl 0, by show (0 : Int) ≤ 19; decide⟩
theorem parent_range (s : ByteArray) : 0 ≤ (parentB s).2.2 ∧ (parentB s).2.2 ≤ 19 := by
  unfold parentB
  split
  · exact split_range s
  · split
    · decide
    · exact ⟨Int.le_refl 0, by show (0 : Int) ≤ 19; decide⟩
theorem w_ab : splitB ⟨#[47, 97, 47, 98]⟩ = ([⟨#[97]⟩, ⟨#[98]⟩], 0) := by decide
theorem w_a : (splitB ⟨#[47, 97, 47]⟩).2 = 2 := by decide
theorem w_m : matchB ⟨#[97, 42]⟩ ⟨#[97, 98, 99]⟩ = true := match_tail ⟨#[97]⟩ ⟨#[98, 99]⟩ (by decide)

set_option maxRecDepth 4000 in
set_option maxHeartbeats 4000000 in
theorem awake4_any (w : World) : Calls Tryd.prog 9 #[] w fun e w' => e = .returned (.bool true) ∧ Below w.heap.size w w' := by
  have HX : Hid (Calls Tryd.prog 10 _ _ _) := nsplit_any ⟨#[47, 97, 47, 98]⟩ w (by decide)
  have HY : Hid (∀ w, Calls Tryd.prog 10 #[.string ⟨#[47, 97, 47]⟩] w fun e w' => ∃ r, e = .returned (.tuple #[r, errV 2]) ∧ Below w.heap.size w w') := fun w => by
    refine (nsplit_any ⟨#[47, 97, 47]⟩ w (by decide)).mono ?_
    rintro e w' ⟨r, rfl, _, h⟩
    exact ⟨r, by rw [w_a], h⟩
  rw [w_ab] at HX
  simp only at HX
  go_enter Tryd.func9, Tryd.ntmps9
  go_wp2_with fail
  go_at_call 10
  refine HX.out.mono ?_
  rintro e1 w1 ⟨r1, rfl, hr1, hb1⟩
  have H1 : Hid (Sees w1 r1 (strs [⟨#[97]⟩, ⟨#[98]⟩]) ∧ Below w.heap.size w w1) := ⟨hr1, hb1⟩
  clear HX hr1 hb1
  go_wp2_with fail
  go_at_call 10
  refine (HY.out w1).mono ?_
  rintro e2 w2 ⟨r2, rfl, hb2⟩
  have H2 : Hid (Sees w2 r1 (strs [⟨#[97]⟩, ⟨#[98]⟩]) ∧ Below w.heap.size w w2) := ⟨H1.out.1.below hb2, bel2v H1.out.2 hb2⟩
  clear HY hb2 H1
  have e0 : errV 0 = .nilIface := rfl
  rw [e0]
  clear e0
  obtain ⟨ev, he⟩ : ∃ v, errV 2 = v := ⟨_, rfl⟩
  rw [he]
  have HE : Hid (errV 2 = ev) := he
  clear he
  go_wp2_with fail
  go_at_call 14
  have HS : Hid (Sees (w2.alloc (.cells #[.string ⟨#[97]⟩, .string ⟨#[98]⟩] 9)) (.slice (some ⟨w2.heap.size, 0, none⟩) 2 2) (strs [⟨#[97]⟩, ⟨#[98]⟩])) :=
    RowV.sees (rowV_lit w2 0 9 [.string ⟨#[97]⟩, .string ⟨#[98]⟩] (Nat.zero_le _) (by decide))
  refine (texts_any _ _ _ _ _ (H2.out.1.below ((Below.refl _ _).alloc (Nat.le_refl _) _)) HS.out).mono ?_
  rintro e3 w3 ⟨rfl, hb3⟩
  have H3 : Hid (Below w.heap.size w w3) := bel2v (H2.out.2.alloc H2.out.2.size _) hb3
  have e4 : decide (([⟨#[97]⟩, ⟨#[98]⟩] : List ByteArray) = [⟨#[97]⟩, ⟨#[98]⟩]) = true := by simp
  rw [e4]
  clear e4 H2 HS hb3
  go_wp2_with fail
  go_at_call 15
  have HC := code_any 2 w3 (by decide)
  rw [HE.out] at HC
  refine HC.mono ?_
  rintro e5 w5 ⟨rfl, rfl⟩
  clear HC HE
  go_wp2_with fail
  go_at_call 24
  refine (njoin_any _ [] _ ⟨none, 0, rfl, by simp [strs], by simp, fun _ => rfl, fun h => by simp [strs] at h⟩ (by decide)).mono ?_
  rintro e6 w6 ⟨rfl, hb6⟩
  have e7 : joinB [] = ⟨#[47]⟩ := rfl
  rw [e7]
  have H6 : Hid (Below w.heap.size w w6) := bel2v H3.out hb6
  clear e7 hb6 H3
  go_wp2_with fail
  go_at_call 22
  refine (nmatch_any _ _ _ (by decide) (by decide)).mono ?_
  rintro e8 w8 ⟨rfl, hb8⟩
  have H8 : Hid (Below w.heap.size w w8) := bel2v H6.out hb8
  rw [w_m]
  clear hb8 H6
  go_wp2
  go_ret
  exact ⟨rfl, H8.out⟩
end Go.Proofs.YtlnhkdiecfccaaaDoor
