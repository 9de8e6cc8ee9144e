/- dolmenlaw1.awake answers true. -/
import Derived.Test.YtgkfbnjccfoaiaaViews
namespace Go.Proofs.Ytgkfbnjccfoaiaa
open Go.ChangeShapes Go.WideShapes Go.ChangeAt Go.RowKit
set_option linter.unusedVariables false

theorem words12 (w : World) : Calls Try.prog 14 #[.slice (some ⟨w.heap.size, 0, none⟩) 2 2] (w.alloc (.cells #[.int .u8 1, .int .u8 2] 5)) fun e w' => ∃ g cap, e = .returned (.slice (some ⟨g, 0, none⟩) 1 cap) ∧ w'.cell? ⟨g, 0, none⟩ = some (.int .u64 513) ∧ g < w'.heap.size ∧ Below w.heap.size w w' := by
  refine (words_some w.heap.size 0 2 [1, 2] _ (by simp) (by simp) (by simp) (by simp) (by simp) ?_ ?_).mono ?_
  · intro i hi
    match i, hi with
    | 0, _ => simp
    | 1, _ => simp
  · intro z hz; simp at hz; rcases hz with rfl | rfl <;> omega
  · rintro e w' ⟨v, rfl, hr, hb⟩
    obtain ⟨g, cap, rfl, _, hg, _, _, hc⟩ := row_form hr (by rw [wordsOf_len]; simp)
    refine ⟨g, cap, rfl, ?_, hg, ?_⟩
    · exact hc 0 (by rw [wordsOf_len]; simp)
    · exact ((Below.refl _ _).alloc (Nat.le_refl _) _).trans (hb.mono (by simp))

theorem vint300 : vint 300 = [172, 2] := by rw [vint_more (by omega), vint_one (by omega)]; rfl

set_option maxHeartbeats 1000000 in
theorem awake_any (w : World) : Calls Try.prog 9 #[] w fun e w' => e = .returned (.bool true) ∧ Below w.heap.size w w' := by
  have e4 : (strOf (vint 300)).toList = [172, 2] := by rw [vint300]; decide +kernel
  have e5 : (turn 1 == 72057594037927936) = true := by decide +kernel
  go_enter Try.func9, Try.ntmps9
  go_wp2_with (first | (go_at_call 14; refine (words12 _).mono ?_; rintro e w1 ⟨g, cap, rfl, hg, hgl, hb1⟩) | (go_at_call 22; refine (varint_any 300 _ (by omega) (by omega)).mono ?_; rintro e w2 ⟨v2, rfl, hr2, hb2⟩; have hcv := conv_view (row_view hr2)) | (go_at_call 16; refine (turn_any 1 _ (by omega) (by omega)).mono ?_; rintro e w3 ⟨rfl, rfl⟩))
  go_ret
  exact ⟨rfl, hb1.trans (hb2.mono hb1.size)⟩
end Go.Proofs.Ytgkfbnjccfoaiaa
