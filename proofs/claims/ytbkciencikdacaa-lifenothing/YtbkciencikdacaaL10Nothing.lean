/- dolmenlaw10.LifeNothing. -/
import Derived.Test.YtbkciencikdacaaLHas
namespace Go.Proofs.Ytbkciencikdacaa
open Go.RowKit Kit
set_option linter.unusedVariables false

theorem put0 (x : Th) : putT [] x = [x] := rfl
theorem out1 (id b d : Int) : outT [⟨id, b, d⟩] id = [] := by simp [outT]
set_option maxRecDepth 4000 in
set_option maxHeartbeats 8000000 in
theorem nothing_any (id : Int) (w : World) : Calls Try.prog 6 #[.int .i64 id] w fun e w' => e = .returned (.bool true) ∧ Below w.heap.size w w' := by
  have HN : Hid (BookAt (w.alloc (.cells #[.slice none 0 0] 57)) w.heap.size w.heap.size (.slice none 0 0) [] ∧ Below w.heap.size w (w.alloc (.cells #[.slice none 0 0] 57))) := ⟨new_book w, bel_newG _ _⟩
  obtain ⟨W, hW⟩ : ∃ z, z = w.alloc (.cells #[.slice none 0 0] 57) := ⟨_, rfl⟩
  rw [← hW] at HN
  go_enter Try.func6, Try.ntmps6
  go_upto_region 3 with fail
  rw [← hW]
  clear hW
  go_wp2_with fail
  go_at_call 11
  refine (fspan_no (.pointer none) [] id W (.inl ⟨rfl, rfl⟩) asc0 (by simp) rfl).mono ?_
  rintro e w2 ⟨rfl, k1⟩
  have H2 : Hid (Below W.heap.size W w2) := k1
  clear k1
  go_upto_region 4 with fail
  obtain ⟨w3, hw3⟩ : ∃ z, z = w2.alloc (.cells #[.int .i64 0, .int .i64 0] 36) := ⟨_, rfl⟩
  have H3 : Hid (Below W.heap.size W w3) := by rw [hw3]; exact bel_tr H2.out (bel_newG _ _)
  rw [← hw3]
  clear hw3
  go_wp2_with fail
  go_at_call 25
  refine (fbirth_bad (.pointer none) [] id 1 _ (.inl ⟨rfl, rfl⟩) asc0 (by simp) (.inl rfl)).mono ?_
  rintro e w4 ⟨rfl, k1⟩
  have H4 : Hid (Below W.heap.size W w4) := bel_tr H3.out k1
  clear k1
  unfold errA
  go_wp2_with fail
  go_at_call 27
  refine (code_num 1 _ (by omega) (by omega)).mono ?_
  rintro e w9 ⟨rfl, hw9⟩
  subst w9
  go_wp2_with fail
  go_at_call 28
  refine (fdrop_bad (.pointer none) [] id _ (.inl ⟨rfl, rfl⟩) asc0 (by simp) rfl).mono ?_
  rintro e w5 ⟨rfl, k1⟩
  have H5 : Hid (Below W.heap.size W w5) := bel_tr H4.out k1
  clear k1
  unfold errA
  go_wp2_with fail
  go_at_call 27
  refine (code_num 1 _ (by omega) (by omega)).mono ?_
  rintro e w9 ⟨rfl, hw9⟩
  subst w9
  go_wp2_with fail
  go_at_call 12
  refine (flen_any (.pointer none) [] _ (.inl ⟨rfl, rfl⟩)).mono ?_
  rintro e w9 ⟨rfl, hw9⟩
  subst w9
  go_wp2_with fail
  go_at_call 14
  refine (fat_any (.pointer none) [] 1 _ (.inl ⟨rfl, rfl⟩) (by simp)).mono ?_
  rintro e w6 ⟨r, rfl, k1, k2⟩
  obtain ⟨ao, cap, hr, _⟩ := k1.sees
  have hr : r = .slice ao 0 cap := hr
  subst hr
  have H6 : Hid (Below W.heap.size W w6) := bel_tr H5.out k2
  clear k1 k2
  go_wp2_with fail
  go_at_call 25
  refine (fbirth_good w.heap.size w.heap.size _ [] id 1 _ (HN.out.1.below H6.out) asc0 (by simp) ⟨by omega, by unfold maxE; omega, rfl⟩).mono ?_
  rintro e w7 ⟨rfl, v7, hm7, ht7⟩
  rw [put0] at hm7
  have H7 : Hid (BookAt w7 w.heap.size w.heap.size v7 [⟨id, 1, 0⟩] ∧ Below w.heap.size w w7) := ⟨hm7, ht7.below (bel_tr HN.out.2 H6.out) (bel_tr HN.out.2 H6.out).size (HN.out.1.below H6.out).foot⟩
  clear hm7 ht7
  go_wp2_with fail
  go_at_call 28
  refine (fdrop_good w.heap.size w.heap.size _ [⟨id, 1, 0⟩] id _ H7.out.1 (asc1 _) (by simp) (by simp [hasT])).mono ?_
  rintro e w8 ⟨rfl, v8, hm8, ht8⟩
  rw [out1] at hm8
  have H8 : Hid (BookAt w8 w.heap.size w.heap.size v8 [] ∧ Below w.heap.size w w8) := ⟨hm8, ht8.below H7.out.2 H7.out.2.size H7.out.1.foot⟩
  clear hm8 ht8
  go_wp2_with fail
  go_at_call 25
  refine (fbirth_good w.heap.size w.heap.size _ [] id 2 _ H8.out.1 asc0 (by simp) ⟨by omega, by unfold maxE; omega, rfl⟩).mono ?_
  rintro e w10 ⟨rfl, v10, hm10, ht10⟩
  rw [put0] at hm10
  have H10 : Hid (BookAt w10 w.heap.size w.heap.size v10 [⟨id, 2, 0⟩] ∧ Below w.heap.size w w10) := ⟨hm10, ht10.below H8.out.2 H8.out.2.size H8.out.1.foot⟩
  clear hm10 ht10
  go_wp2_with fail
  go_at_call 12
  refine (flen_any _ [⟨id, 2, 0⟩] _ H10.out.1.sees).mono ?_
  rintro e w9 ⟨rfl, hw9⟩
  subst w9
  go_wp2_with fail
  go_at_call 8
  refine (awake_any _).mono ?_
  rintro e w11 ⟨rfl, k1⟩
  have H11 : Hid (Below w.heap.size w w11) := bel_tr H10.out.2 k1
  clear k1
  go_wp2_with fail
  go_ret
  exact ⟨rfl, H11.out⟩
end Go.Proofs.Ytbkciencikdacaa
