/- dolmenlaw3.awake: true. -/
import Derived.Test.YtlandjnhhcnbeaaDoorTexts
namespace Go.Proofs.YtlandjnhhcnbeaaDoor
open Go.RowKit Kit
set_option linter.unusedVariables false

theorem txt_a : txt (⟨#[97]⟩, ⟨#[47]⟩) = ⟨#[97, 32, 47]⟩ := by decide
theorem txt_b : txt (⟨#[98]⟩, ⟨#[47, 120]⟩) = ⟨#[98, 32, 47, 120]⟩ := by decide

set_option maxRecDepth 4000 in
set_option maxHeartbeats 2000000 in
theorem awake_any (w : World) (hg : Tied w) : Calls Tryd.prog 10 #[] w fun e w' => e = .returned (.bool true) ∧ Below w.heap.size w w' := by
  have HG : Hid (Tied w) := hg
  clear hg
  have HN : Hid (Calls Tryd.prog 22 _ _ _) := new_any ⟨#[98]⟩ ⟨#[47, 120]⟩ 1 (.iface 39 (.int .i64 5)) _ w (by simp) (pre_num w 0 5) (by decide) (by decide)
  go_enter Tryd.func10, Tryd.ntmps10
  go_wp2_with fail
  go_at_call 22
  refine HN.out.mono ?_
  rintro e w1 ⟨b1, rfl, hp, hb⟩
  have H1 : Hid (Pre w1 2 (.iface 54 (.pointer (some ⟨b1, 0, none⟩))) [(54, .pointer (some ⟨b1, 0, none⟩), [(⟨#[98]⟩, ⟨#[47, 120]⟩)]), (39, .int .i64 5, [])] ∧ Below w.heap.size w w1) := ⟨hp, hb⟩
  clear hp hb HN
  have HN : Hid (Calls Tryd.prog 22 _ _ _) := new_any ⟨#[97]⟩ ⟨#[47]⟩ 2 _ _ w1 (by simp) H1.out.1 (by decide) (by decide)
  go_wp2_with fail
  go_at_call 22
  refine HN.out.mono ?_
  rintro e w2 ⟨b2, rfl, hp, hb⟩
  obtain ⟨ns, hns⟩ : ∃ ns : List Nd, ns = [(54, .pointer (some ⟨b2, 0, none⟩), [(⟨#[97]⟩, ⟨#[47]⟩), (⟨#[98]⟩, ⟨#[47, 120]⟩)]), (54, .pointer (some ⟨b1, 0, none⟩), [(⟨#[98]⟩, ⟨#[47, 120]⟩)]), (39, .int .i64 5, [])] := ⟨_, rfl⟩
  have H2 : Hid (Pre w2 3 (.iface 54 (.pointer (some ⟨b2, 0, none⟩))) ns ∧ Below w.heap.size w w2) := ⟨by rw [hns]; exact hp, bel2e H1.out.2 hb⟩
  have E1 : Hid ((nums ns).headD 0 = 5) := by rw [hns]; rfl
  have E2 : Hid (txts (chainOf ns) = strs [⟨#[97, 32, 47]⟩, ⟨#[98, 32, 47, 120]⟩]) := by
    have : chainOf ns = [(⟨#[97]⟩, ⟨#[47]⟩), (⟨#[98]⟩, ⟨#[47, 120]⟩)] := by rw [hns]; rfl
    show _ = _
    rw [this]; simp [txts, strs, txt_a, txt_b]
  have E3 : Hid (hit 5 ns = true) := by rw [hns]; rfl
  clear hp hb HN H1 hns
  have HC : Hid (Calls Tryd.prog 18 _ _ _) := code_any 3 _ ns w2 H2.out.1 (HG.out.below H2.out.2)
  go_wp2_with fail
  go_at_call 18
  refine HC.out.mono ?_
  rintro e w3 ⟨rfl, hb⟩
  rw [E1.out]
  have H3 : Hid (Pre w3 3 (.iface 54 (.pointer (some ⟨b2, 0, none⟩))) ns ∧ Below w.heap.size w w3) := ⟨H2.out.1.below hb, bel2e H2.out.2 hb⟩
  clear hb HC H2
  have HC : Hid (Calls Tryd.prog 16 _ _ _) := chain_any 3 _ ns w3 H3.out.1 (HG.out.below H3.out.2) (by decide)
  go_wp2_with fail
  go_at_call 16
  refine HC.out.mono ?_
  rintro e w4 ⟨l, rfl, hr, hb⟩
  have H4 : Hid (Pre w4 3 (.iface 54 (.pointer (some ⟨b2, 0, none⟩))) ns ∧ Below w.heap.size w w4) := ⟨H3.out.1.below hb, bel2e H3.out.2 hb⟩
  have B5 : Hid (Below w4.heap.size w4 (w4.alloc (.cells #[.string ⟨#[97, 32, 47]⟩, .string ⟨#[98, 32, 47, 120]⟩] 9))) := (Below.refl _ _).alloc (Nat.le_refl _) _
  have S5 : Hid (Sees (w4.alloc (.cells #[.string ⟨#[97, 32, 47]⟩, .string ⟨#[98, 32, 47, 120]⟩] 9)) l (strs [⟨#[97, 32, 47]⟩, ⟨#[98, 32, 47, 120]⟩])) := by
    have h := hr.sees.below B5.out
    rw [E2.out] at h
    exact h
  have S6 : Hid (Sees (w4.alloc (.cells #[.string ⟨#[97, 32, 47]⟩, .string ⟨#[98, 32, 47, 120]⟩] 9)) (.slice (some ⟨w4.heap.size, 0, none⟩) 2 2) (strs [⟨#[97, 32, 47]⟩, ⟨#[98, 32, 47, 120]⟩])) := (rowV_lit w4 w4.heap.size 9 (strs [⟨#[97, 32, 47]⟩, ⟨#[98, 32, 47, 120]⟩]) (Nat.le_refl _) (by simp [strs, maxLen])).sees
  have HT : Hid (Calls Tryd.prog 15 _ _ _) := texts_any _ _ _ _ _ S5.out S6.out
  clear hb hr HC H3 E2 S5 S6
  go_wp2_with fail
  go_at_call 15
  refine HT.out.mono ?_
  rintro e w5 ⟨rfl, hb⟩
  simp only [decide_true]
  have H5 : Hid (Pre w5 3 (.iface 54 (.pointer (some ⟨b2, 0, none⟩))) ns ∧ Below w.heap.size w w5) := ⟨(H4.out.1.below B5.out).below hb, bel2e (bel2e H4.out.2 B5.out) hb⟩
  clear hb HT B5 H4
  have HI : Hid (Calls Tryd.prog 24 _ _ _) := is_any 5 3 _ ns w5 H5.out.1
  go_wp2_with fail
  go_at_call 24
  refine HI.out.mono ?_
  rintro e w6 ⟨rfl, hb⟩
  rw [E3.out]
  have H6 : Hid (Below w.heap.size w w6) := bel2e H5.out.2 hb
  clear hb HI H5
  go_wp2_with fail
  go_at_call 22
  refine (new_nil _ _ w6).mono ?_
  rintro e w7 ⟨rfl, hw⟩
  have hw := hw.symm
  subst hw
  go_wp2
  go_ret
  exact ⟨rfl, H6.out⟩
end Go.Proofs.YtlandjnhhcnbeaaDoor
