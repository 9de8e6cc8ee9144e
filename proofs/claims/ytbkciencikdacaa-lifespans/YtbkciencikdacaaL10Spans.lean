/- dolmenlaw10.LifeSpans. -/
import Derived.Test.YtbkciencikdacaaL10Nothing
namespace Go.Proofs.Ytbkciencikdacaa
open Go.RowKit Kit
set_option linter.unusedVariables false

theorem died1 (id b d e : Int) : diedT [⟨id, b, d⟩] id e = [⟨id, b, e⟩] := by simp [diedT]
set_option maxRecDepth 4000 in
set_option maxHeartbeats 8000000 in
theorem spans_lo (id born died ep : Int) (w : World) (b1 : ¬ 1 ≤ born) : Calls Try.prog 5 #[.int .i64 id, .int .i64 born, .int .i64 died, .int .i64 ep] w fun e w' => e = .returned (.bool true) ∧ Below w.heap.size w w' := by
  have HN : Hid (BookAt (w.alloc (.cells #[.slice none 0 0] 57)) w.heap.size w.heap.size (.slice none 0 0) [] ∧ Below w.heap.size w (w.alloc (.cells #[.slice none 0 0] 57))) := ⟨new_book w, bel_newG _ _⟩
  have HB : Hid (¬ birthOk [] id born) := fun h => by obtain ⟨h1, h2, _⟩ := h; unfold maxE at h2; omega
  go_enter Try.func5, Try.ntmps5
  go_wp2_with fail
  go_at_call 9
  refine (fnew_any w).mono ?_
  rintro e w1 ⟨rfl, hw1⟩
  rw [← hw1] at HN
  clear hw1
  go_wp2_with fail
  go_at_call 25
  refine (fbirth_bad _ [] id born _ HN.out.1.sees asc0 (by simp) (.inr HB.out)).mono ?_
  rintro e w2 ⟨rfl, k1⟩
  have H2 : Hid (BookAt w2 w.heap.size w.heap.size (.slice none 0 0) [] ∧ Below w.heap.size w w2) := ⟨HN.out.1.below k1, bel_tr HN.out.2 k1⟩
  clear k1
  unfold errA
  go_wp2_with fail
  go_at_call 12
  refine (flen_any _ [] _ H2.out.1.sees).mono ?_
  rintro e w9 ⟨rfl, hw9⟩
  subst w9
  go_wp2_with fail
  go_at_call 8
  refine (awake_any _).mono ?_
  rintro e w3 ⟨rfl, k1⟩
  have H3 : Hid (Below w.heap.size w w3) := bel_tr H2.out.2 k1
  clear k1
  go_wp2_with fail
  go_ret
  exact ⟨rfl, H3.out⟩
set_option maxRecDepth 4000 in
set_option maxHeartbeats 8000000 in
theorem spans_hi (id born died ep : Int) (w : World) (b1 : 1 ≤ born) (b2 : ¬ born ≤ 1099511627776) : Calls Try.prog 5 #[.int .i64 id, .int .i64 born, .int .i64 died, .int .i64 ep] w fun e w' => e = .returned (.bool true) ∧ Below w.heap.size w w' := by
  have HN : Hid (BookAt (w.alloc (.cells #[.slice none 0 0] 57)) w.heap.size w.heap.size (.slice none 0 0) [] ∧ Below w.heap.size w (w.alloc (.cells #[.slice none 0 0] 57))) := ⟨new_book w, bel_newG _ _⟩
  have q1 : decide (born ≤ 1099511627776) = false := decide_eq_false b2
  have HB : Hid (¬ birthOk [] id born) := fun h => by obtain ⟨h1, h2, _⟩ := h; unfold maxE at h2; omega
  go_enter Try.func5, Try.ntmps5
  go_wp2_with fail
  go_at_call 9
  refine (fnew_any w).mono ?_
  rintro e w1 ⟨rfl, hw1⟩
  rw [← hw1] at HN
  clear hw1
  go_wp2_with fail
  go_at_call 25
  refine (fbirth_bad _ [] id born _ HN.out.1.sees asc0 (by simp) (.inr HB.out)).mono ?_
  rintro e w2 ⟨rfl, k1⟩
  have H2 : Hid (BookAt w2 w.heap.size w.heap.size (.slice none 0 0) [] ∧ Below w.heap.size w w2) := ⟨HN.out.1.below k1, bel_tr HN.out.2 k1⟩
  clear k1
  unfold errA
  go_wp2_with fail
  go_at_call 12
  refine (flen_any _ [] _ H2.out.1.sees).mono ?_
  rintro e w9 ⟨rfl, hw9⟩
  subst w9
  go_wp2_with fail
  go_at_call 8
  refine (awake_any _).mono ?_
  rintro e w3 ⟨rfl, k1⟩
  have H3 : Hid (Below w.heap.size w w3) := bel_tr H2.out.2 k1
  clear k1
  go_wp2_with fail
  go_ret
  exact ⟨rfl, H3.out⟩
set_option maxRecDepth 4000 in
set_option maxHeartbeats 8000000 in
theorem spans_early (id born died ep : Int) (w : World) (b1 : 1 ≤ born) (b2 : born ≤ 1099511627776) (d1 : ¬ born ≤ died) : Calls Try.prog 5 #[.int .i64 id, .int .i64 born, .int .i64 died, .int .i64 ep] w fun e w' => e = .returned (.bool true) ∧ Below w.heap.size w w' := by
  have HN : Hid (BookAt (w.alloc (.cells #[.slice none 0 0] 57)) w.heap.size w.heap.size (.slice none 0 0) [] ∧ Below w.heap.size w (w.alloc (.cells #[.slice none 0 0] 57))) := ⟨new_book w, bel_newG _ _⟩
  have HB : Hid (¬ deathOk [⟨id, born, 0⟩] id died) := fun h => by
    obtain ⟨h1, t, h2, _, _, h3⟩ := h
    rw [List.mem_singleton] at h2
    subst h2
    simp only at h3
    unfold maxE at h1
    omega
  go_enter Try.func5, Try.ntmps5
  go_wp2_with fail
  go_at_call 9
  refine (fnew_any w).mono ?_
  rintro e w1 ⟨rfl, hw1⟩
  rw [← hw1] at HN
  clear hw1
  go_wp2_with fail
  go_at_call 25
  refine (fbirth_good w.heap.size w.heap.size _ [] id born _ HN.out.1 asc0 (by simp) ⟨by omega, by unfold maxE; omega, rfl⟩).mono ?_
  rintro e w2 ⟨rfl, v2, hm2, ht2⟩
  rw [put0] at hm2
  have H2 : Hid (BookAt w2 w.heap.size w.heap.size v2 [⟨id, born, 0⟩] ∧ Below w.heap.size w w2) := ⟨hm2, ht2.below HN.out.2 HN.out.2.size HN.out.1.foot⟩
  clear hm2 ht2
  go_wp2_with fail
  go_at_call 26
  refine (fdeath_bad w.heap.size w.heap.size _ [⟨id, born, 0⟩] id died _ H2.out.1 (asc1 _) (by simp) HB.out).mono ?_
  rintro e w3 ⟨rfl, k1⟩
  have H3 : Hid (BookAt w3 w.heap.size w.heap.size v2 [⟨id, born, 0⟩] ∧ Below w.heap.size w w3) := ⟨H2.out.1.below k1, bel_tr H2.out.2 k1⟩
  clear k1
  unfold errA
  go_wp2_with fail
  go_at_call 26
  refine (fdeath_good w.heap.size w.heap.size _ [⟨id, born, 0⟩] id 1099511627776 _ H3.out.1 (asc1 _) (by simp) ⟨by unfold maxE; omega, ⟨id, born, 0⟩, List.mem_singleton.2 rfl, rfl, rfl, by simp only; omega⟩).mono ?_
  rintro e w4 ⟨rfl, v4, hm4, ht4⟩
  have H4 : Hid (Below w.heap.size w w4) := ht4.below H3.out.2 H3.out.2.size H3.out.1.foot
  clear hm4 ht4
  go_wp2_with fail
  go_at_call 8
  refine (awake_any _).mono ?_
  rintro e w5 ⟨rfl, k1⟩
  have H5 : Hid (Below w.heap.size w w5) := bel_tr H4.out k1
  clear k1
  go_wp2_with fail
  go_ret
  exact ⟨rfl, H5.out⟩
set_option maxRecDepth 4000 in
set_option maxHeartbeats 8000000 in
theorem spans_late (id born died ep : Int) (w : World) (b1 : 1 ≤ born) (b2 : born ≤ 1099511627776) (d1 : born ≤ died) (d2 : ¬ died ≤ 1099511627776) : Calls Try.prog 5 #[.int .i64 id, .int .i64 born, .int .i64 died, .int .i64 ep] w fun e w' => e = .returned (.bool true) ∧ Below w.heap.size w w' := by
  have HN : Hid (BookAt (w.alloc (.cells #[.slice none 0 0] 57)) w.heap.size w.heap.size (.slice none 0 0) [] ∧ Below w.heap.size w (w.alloc (.cells #[.slice none 0 0] 57))) := ⟨new_book w, bel_newG _ _⟩
  have q1 : decide (died ≤ 1099511627776) = false := decide_eq_false d2
  have HB : Hid (¬ deathOk [⟨id, born, 0⟩] id died) := fun h => by
    obtain ⟨h1, t, h2, _, _, h3⟩ := h
    rw [List.mem_singleton] at h2
    subst h2
    simp only at h3
    unfold maxE at h1
    omega
  go_enter Try.func5, Try.ntmps5
  go_wp2_with fail
  go_at_call 9
  refine (fnew_any w).mono ?_
  rintro e w1 ⟨rfl, hw1⟩
  rw [← hw1] at HN
  clear hw1
  go_wp2_with fail
  go_at_call 25
  refine (fbirth_good w.heap.size w.heap.size _ [] id born _ HN.out.1 asc0 (by simp) ⟨by omega, by unfold maxE; omega, rfl⟩).mono ?_
  rintro e w2 ⟨rfl, v2, hm2, ht2⟩
  rw [put0] at hm2
  have H2 : Hid (BookAt w2 w.heap.size w.heap.size v2 [⟨id, born, 0⟩] ∧ Below w.heap.size w w2) := ⟨hm2, ht2.below HN.out.2 HN.out.2.size HN.out.1.foot⟩
  clear hm2 ht2
  go_wp2_with fail
  go_at_call 26
  refine (fdeath_bad w.heap.size w.heap.size _ [⟨id, born, 0⟩] id died _ H2.out.1 (asc1 _) (by simp) HB.out).mono ?_
  rintro e w3 ⟨rfl, k1⟩
  have H3 : Hid (BookAt w3 w.heap.size w.heap.size v2 [⟨id, born, 0⟩] ∧ Below w.heap.size w w3) := ⟨H2.out.1.below k1, bel_tr H2.out.2 k1⟩
  clear k1
  unfold errA
  go_wp2_with fail
  go_at_call 26
  refine (fdeath_good w.heap.size w.heap.size _ [⟨id, born, 0⟩] id 1099511627776 _ H3.out.1 (asc1 _) (by simp) ⟨by unfold maxE; omega, ⟨id, born, 0⟩, List.mem_singleton.2 rfl, rfl, rfl, by simp only; omega⟩).mono ?_
  rintro e w4 ⟨rfl, v4, hm4, ht4⟩
  have H4 : Hid (Below w.heap.size w w4) := ht4.below H3.out.2 H3.out.2.size H3.out.1.foot
  clear hm4 ht4
  go_wp2_with fail
  go_at_call 8
  refine (awake_any _).mono ?_
  rintro e w5 ⟨rfl, k1⟩
  have H5 : Hid (Below w.heap.size w w5) := bel_tr H4.out k1
  clear k1
  go_wp2_with fail
  go_ret
  exact ⟨rfl, H5.out⟩
set_option maxRecDepth 4000 in
set_option maxHeartbeats 8000000 in
theorem spans_yes (id born died ep : Int) (w : World) (b1 : 1 ≤ born) (b2 : born ≤ 1099511627776) (d1 : born ≤ died) (d2 : died ≤ 1099511627776) (a1 : born ≤ ep) (a2 : ep < died) : Calls Try.prog 5 #[.int .i64 id, .int .i64 born, .int .i64 died, .int .i64 ep] w fun e w' => e = .returned (.bool true) ∧ Below w.heap.size w w' := by
  have HN : Hid (BookAt (w.alloc (.cells #[.slice none 0 0] 57)) w.heap.size w.heap.size (.slice none 0 0) [] ∧ Below w.heap.size w (w.alloc (.cells #[.slice none 0 0] 57))) := ⟨new_book w, bel_newG _ _⟩
  have HH : Hid (holdsB born died ep = true) := by
    show _ = _
    unfold holdsB
    rw [decide_eq_true (by omega : born ≤ ep), decide_eq_true (by omega : ep < died)]; simp
  have HD : Hid (needB born died [ep] = true) := by
    show _ = _
    unfold needB
    rw [List.any_cons, List.any_nil, HH.out, decide_eq_false (by omega : ¬ died = 0)]
    rfl
  have HBD : Hid (¬ deathOk [⟨id, born, died⟩] id 1099511627776) := fun h => by
    obtain ⟨h1, t, h2, _, h4, h3⟩ := h
    rw [List.mem_singleton] at h2
    subst h2
    simp only at h4
    omega
  go_enter Try.func5, Try.ntmps5
  go_wp2_with fail
  go_at_call 9
  refine (fnew_any w).mono ?_
  rintro e w1 ⟨rfl, hw1⟩
  rw [← hw1] at HN
  clear hw1
  go_wp2_with fail
  go_at_call 25
  refine (fbirth_good w.heap.size w.heap.size _ [] id born _ HN.out.1 asc0 (by simp) ⟨by omega, by unfold maxE; omega, rfl⟩).mono ?_
  rintro e w2 ⟨rfl, v2, hm2, ht2⟩
  rw [put0] at hm2
  have H2 : Hid (BookAt w2 w.heap.size w.heap.size v2 [⟨id, born, 0⟩] ∧ Below w.heap.size w w2) := ⟨hm2, ht2.below HN.out.2 HN.out.2.size HN.out.1.foot⟩
  clear hm2 ht2
  go_wp2_with fail
  go_at_call 26
  refine (fdeath_good w.heap.size w.heap.size _ [⟨id, born, 0⟩] id died _ H2.out.1 (asc1 _) (by simp) ⟨by unfold maxE; omega, ⟨id, born, 0⟩, List.mem_singleton.2 rfl, rfl, rfl, by simp only; omega⟩).mono ?_
  rintro e w3 ⟨rfl, v3, hm3, ht3⟩
  rw [died1] at hm3
  have H3 : Hid (BookAt w3 w.heap.size w.heap.size v3 [⟨id, born, died⟩] ∧ Below w.heap.size w w3) := ⟨hm3, ht3.below H2.out.2 H2.out.2.size H2.out.1.foot⟩
  clear hm3 ht3
  go_wp2_with fail
  go_at_call 26
  refine (fdeath_bad w.heap.size w.heap.size _ [⟨id, born, died⟩] id 1099511627776 _ H3.out.1 (asc1 _) (by simp) HBD.out).mono ?_
  rintro e w4 ⟨rfl, k1⟩
  have H4 : Hid (BookAt w4 w.heap.size w.heap.size v3 [⟨id, born, died⟩] ∧ Below w.heap.size w w4) := ⟨H3.out.1.below k1, bel_tr H3.out.2 k1⟩
  clear k1
  unfold errA
  go_wp2_with fail
  go_at_call 14
  refine (fat_any _ [⟨id, born, died⟩] ep _ H4.out.1.sees (by simp)).mono ?_
  rintro e w5 ⟨r, rfl, k1, k2⟩
  have H5 : Hid (Sees w5 r (iV [id]) ∧ Below w4.heap.size w4 w5) := by
    refine ⟨?_, k2⟩
    have k3 := k1.sees
    have e9 : idsT (fun t => holdsB t.born t.died ep) [⟨id, born, died⟩] = [id] := by unfold idsT; simp [HH.out]
    rw [e9] at k3
    exact k3
  clear k1 k2
  go_wp2_with fail
  go_at_call 24
  refine (lhas_any r [id] id _ H5.out.1).mono ?_
  rw [show inL [id] id = true by unfold inL; simp]
  rintro e w9 ⟨rfl, hw9⟩
  subst w9
  go_wp2_with fail
  go_at_call 18
  refine (fdead_any _ _ [⟨id, born, died⟩] [ep] _ ((H4.out.1.below H5.out.2).below (bel_newG _ _)).sees (by simp) (sees_one _ _ _ _ rfl) (by simp)).mono ?_
  rintro e w6 ⟨r2, rfl, k1, k2⟩
  have H6 : Hid (Sees w6 r2 (iV []) ∧ Below w.heap.size w w6) := by
    refine ⟨?_, bel_tr H4.out.2 (bel_tr H5.out.2 (bel_tr (bel_newG _ _) k2))⟩
    have k3 := k1.sees
    have e9 : idsT (fun t => !needB t.born t.died [ep]) [⟨id, born, died⟩] = [] := by unfold idsT; simp [HD.out]
    rw [e9] at k3
    exact k3
  clear k1 k2
  go_wp2_with fail
  go_at_call 24
  refine (lhas_any r2 [] id _ H6.out.1).mono ?_
  rw [show inL [] id = false by unfold inL; simp]
  rintro e w9 ⟨rfl, hw9⟩
  subst w9
  go_wp2_with fail
  go_at_call 8
  refine (awake_any _).mono ?_
  rintro e w7 ⟨rfl, k1⟩
  have H7 : Hid (Below w.heap.size w w7) := bel_tr H6.out.2 k1
  clear k1
  go_wp2_with fail
  go_ret
  exact ⟨rfl, H7.out⟩
set_option maxRecDepth 4000 in
set_option maxHeartbeats 8000000 in
theorem spans_ahead (id born died ep : Int) (w : World) (b1 : 1 ≤ born) (b2 : born ≤ 1099511627776) (d1 : born ≤ died) (d2 : died ≤ 1099511627776) (a1 : ¬ born ≤ ep) : Calls Try.prog 5 #[.int .i64 id, .int .i64 born, .int .i64 died, .int .i64 ep] w fun e w' => e = .returned (.bool true) ∧ Below w.heap.size w w' := by
  have HN : Hid (BookAt (w.alloc (.cells #[.slice none 0 0] 57)) w.heap.size w.heap.size (.slice none 0 0) [] ∧ Below w.heap.size w (w.alloc (.cells #[.slice none 0 0] 57))) := ⟨new_book w, bel_newG _ _⟩
  have HH : Hid (holdsB born died ep = false) := by
    show _ = _
    unfold holdsB
    rw [decide_eq_false (by omega : ¬ died = 0)]
    by_cases h9 : born ≤ ep
    · rw [decide_eq_false (by omega : ¬ ep < died)]; simp
    · rw [decide_eq_false h9]; rfl
  have HD : Hid (needB born died [ep] = false) := by
    show _ = _
    unfold needB
    rw [List.any_cons, List.any_nil, HH.out, decide_eq_false (by omega : ¬ died = 0)]
    rfl
  have HBD : Hid (¬ deathOk [⟨id, born, died⟩] id 1099511627776) := fun h => by
    obtain ⟨h1, t, h2, _, h4, h3⟩ := h
    rw [List.mem_singleton] at h2
    subst h2
    simp only at h4
    omega
  go_enter Try.func5, Try.ntmps5
  go_wp2_with fail
  go_at_call 9
  refine (fnew_any w).mono ?_
  rintro e w1 ⟨rfl, hw1⟩
  rw [← hw1] at HN
  clear hw1
  go_wp2_with fail
  go_at_call 25
  refine (fbirth_good w.heap.size w.heap.size _ [] id born _ HN.out.1 asc0 (by simp) ⟨by omega, by unfold maxE; omega, rfl⟩).mono ?_
  rintro e w2 ⟨rfl, v2, hm2, ht2⟩
  rw [put0] at hm2
  have H2 : Hid (BookAt w2 w.heap.size w.heap.size v2 [⟨id, born, 0⟩] ∧ Below w.heap.size w w2) := ⟨hm2, ht2.below HN.out.2 HN.out.2.size HN.out.1.foot⟩
  clear hm2 ht2
  go_wp2_with fail
  go_at_call 26
  refine (fdeath_good w.heap.size w.heap.size _ [⟨id, born, 0⟩] id died _ H2.out.1 (asc1 _) (by simp) ⟨by unfold maxE; omega, ⟨id, born, 0⟩, List.mem_singleton.2 rfl, rfl, rfl, by simp only; omega⟩).mono ?_
  rintro e w3 ⟨rfl, v3, hm3, ht3⟩
  rw [died1] at hm3
  have H3 : Hid (BookAt w3 w.heap.size w.heap.size v3 [⟨id, born, died⟩] ∧ Below w.heap.size w w3) := ⟨hm3, ht3.below H2.out.2 H2.out.2.size H2.out.1.foot⟩
  clear hm3 ht3
  go_wp2_with fail
  go_at_call 26
  refine (fdeath_bad w.heap.size w.heap.size _ [⟨id, born, died⟩] id 1099511627776 _ H3.out.1 (asc1 _) (by simp) HBD.out).mono ?_
  rintro e w4 ⟨rfl, k1⟩
  have H4 : Hid (BookAt w4 w.heap.size w.heap.size v3 [⟨id, born, died⟩] ∧ Below w.heap.size w w4) := ⟨H3.out.1.below k1, bel_tr H3.out.2 k1⟩
  clear k1
  unfold errA
  go_wp2_with fail
  go_at_call 14
  refine (fat_any _ [⟨id, born, died⟩] ep _ H4.out.1.sees (by simp)).mono ?_
  rintro e w5 ⟨r, rfl, k1, k2⟩
  have H5 : Hid (Sees w5 r (iV []) ∧ Below w4.heap.size w4 w5) := by
    refine ⟨?_, k2⟩
    have k3 := k1.sees
    have e9 : idsT (fun t => holdsB t.born t.died ep) [⟨id, born, died⟩] = [] := by unfold idsT; simp [HH.out]
    rw [e9] at k3
    exact k3
  clear k1 k2
  go_wp2_with fail
  go_at_call 24
  refine (lhas_any r [] id _ H5.out.1).mono ?_
  rw [show inL [] id = false by unfold inL; simp]
  rintro e w9 ⟨rfl, hw9⟩
  subst w9
  go_wp2_with fail
  go_at_call 18
  refine (fdead_any _ _ [⟨id, born, died⟩] [ep] _ ((H4.out.1.below H5.out.2).below (bel_newG _ _)).sees (by simp) (sees_one _ _ _ _ rfl) (by simp)).mono ?_
  rintro e w6 ⟨r2, rfl, k1, k2⟩
  have H6 : Hid (Sees w6 r2 (iV [id]) ∧ Below w.heap.size w w6) := by
    refine ⟨?_, bel_tr H4.out.2 (bel_tr H5.out.2 (bel_tr (bel_newG _ _) k2))⟩
    have k3 := k1.sees
    have e9 : idsT (fun t => !needB t.born t.died [ep]) [⟨id, born, died⟩] = [id] := by unfold idsT; simp [HD.out]
    rw [e9] at k3
    exact k3
  clear k1 k2
  go_wp2_with fail
  go_at_call 24
  refine (lhas_any r2 [id] id _ H6.out.1).mono ?_
  rw [show inL [id] id = true by unfold inL; simp]
  rintro e w9 ⟨rfl, hw9⟩
  subst w9
  go_wp2_with fail
  go_at_call 8
  refine (awake_any _).mono ?_
  rintro e w7 ⟨rfl, k1⟩
  have H7 : Hid (Below w.heap.size w w7) := bel_tr H6.out.2 k1
  clear k1
  go_wp2_with fail
  go_ret
  exact ⟨rfl, H7.out⟩
set_option maxRecDepth 4000 in
set_option maxHeartbeats 8000000 in
theorem spans_behind (id born died ep : Int) (w : World) (b1 : 1 ≤ born) (b2 : born ≤ 1099511627776) (d1 : born ≤ died) (d2 : died ≤ 1099511627776) (a1 : born ≤ ep) (a2 : ¬ ep < died) : Calls Try.prog 5 #[.int .i64 id, .int .i64 born, .int .i64 died, .int .i64 ep] w fun e w' => e = .returned (.bool true) ∧ Below w.heap.size w w' := by
  have HN : Hid (BookAt (w.alloc (.cells #[.slice none 0 0] 57)) w.heap.size w.heap.size (.slice none 0 0) [] ∧ Below w.heap.size w (w.alloc (.cells #[.slice none 0 0] 57))) := ⟨new_book w, bel_newG _ _⟩
  have HH : Hid (holdsB born died ep = false) := by
    show _ = _
    unfold holdsB
    rw [decide_eq_false (by omega : ¬ died = 0)]
    by_cases h9 : born ≤ ep
    · rw [decide_eq_false (by omega : ¬ ep < died)]; simp
    · rw [decide_eq_false h9]; rfl
  have HD : Hid (needB born died [ep] = false) := by
    show _ = _
    unfold needB
    rw [List.any_cons, List.any_nil, HH.out, decide_eq_false (by omega : ¬ died = 0)]
    rfl
  have HBD : Hid (¬ deathOk [⟨id, born, died⟩] id 1099511627776) := fun h => by
    obtain ⟨h1, t, h2, _, h4, h3⟩ := h
    rw [List.mem_singleton] at h2
    subst h2
    simp only at h4
    omega
  have q1 : decide (ep < died) = false := decide_eq_false a2
  go_enter Try.func5, Try.ntmps5
  go_wp2_with fail
  go_at_call 9
  refine (fnew_any w).mono ?_
  rintro e w1 ⟨rfl, hw1⟩
  rw [← hw1] at HN
  clear hw1
  go_wp2_with fail
  go_at_call 25
  refine (fbirth_good w.heap.size w.heap.size _ [] id born _ HN.out.1 asc0 (by simp) ⟨by omega, by unfold maxE; omega, rfl⟩).mono ?_
  rintro e w2 ⟨rfl, v2, hm2, ht2⟩
  rw [put0] at hm2
  have H2 : Hid (BookAt w2 w.heap.size w.heap.size v2 [⟨id, born, 0⟩] ∧ Below w.heap.size w w2) := ⟨hm2, ht2.below HN.out.2 HN.out.2.size HN.out.1.foot⟩
  clear hm2 ht2
  go_wp2_with fail
  go_at_call 26
  refine (fdeath_good w.heap.size w.heap.size _ [⟨id, born, 0⟩] id died _ H2.out.1 (asc1 _) (by simp) ⟨by unfold maxE; omega, ⟨id, born, 0⟩, List.mem_singleton.2 rfl, rfl, rfl, by simp only; omega⟩).mono ?_
  rintro e w3 ⟨rfl, v3, hm3, ht3⟩
  rw [died1] at hm3
  have H3 : Hid (BookAt w3 w.heap.size w.heap.size v3 [⟨id, born, died⟩] ∧ Below w.heap.size w w3) := ⟨hm3, ht3.below H2.out.2 H2.out.2.size H2.out.1.foot⟩
  clear hm3 ht3
  go_wp2_with fail
  go_at_call 26
  refine (fdeath_bad w.heap.size w.heap.size _ [⟨id, born, died⟩] id 1099511627776 _ H3.out.1 (asc1 _) (by simp) HBD.out).mono ?_
  rintro e w4 ⟨rfl, k1⟩
  have H4 : Hid (BookAt w4 w.heap.size w.heap.size v3 [⟨id, born, died⟩] ∧ Below w.heap.size w w4) := ⟨H3.out.1.below k1, bel_tr H3.out.2 k1⟩
  clear k1
  unfold errA
  go_wp2_with fail
  go_at_call 14
  refine (fat_any _ [⟨id, born, died⟩] ep _ H4.out.1.sees (by simp)).mono ?_
  rintro e w5 ⟨r, rfl, k1, k2⟩
  have H5 : Hid (Sees w5 r (iV []) ∧ Below w4.heap.size w4 w5) := by
    refine ⟨?_, k2⟩
    have k3 := k1.sees
    have e9 : idsT (fun t => holdsB t.born t.died ep) [⟨id, born, died⟩] = [] := by unfold idsT; simp [HH.out]
    rw [e9] at k3
    exact k3
  clear k1 k2
  go_wp2_with fail
  go_at_call 24
  refine (lhas_any r [] id _ H5.out.1).mono ?_
  rw [show inL [] id = false by unfold inL; simp]
  rintro e w9 ⟨rfl, hw9⟩
  subst w9
  go_wp2_with fail
  go_at_call 18
  refine (fdead_any _ _ [⟨id, born, died⟩] [ep] _ ((H4.out.1.below H5.out.2).below (bel_newG _ _)).sees (by simp) (sees_one _ _ _ _ rfl) (by simp)).mono ?_
  rintro e w6 ⟨r2, rfl, k1, k2⟩
  have H6 : Hid (Sees w6 r2 (iV [id]) ∧ Below w.heap.size w w6) := by
    refine ⟨?_, bel_tr H4.out.2 (bel_tr H5.out.2 (bel_tr (bel_newG _ _) k2))⟩
    have k3 := k1.sees
    have e9 : idsT (fun t => !needB t.born t.died [ep]) [⟨id, born, died⟩] = [id] := by unfold idsT; simp [HD.out]
    rw [e9] at k3
    exact k3
  clear k1 k2
  go_wp2_with fail
  go_at_call 24
  refine (lhas_any r2 [id] id _ H6.out.1).mono ?_
  rw [show inL [id] id = true by unfold inL; simp]
  rintro e w9 ⟨rfl, hw9⟩
  subst w9
  go_wp2_with fail
  go_at_call 8
  refine (awake_any _).mono ?_
  rintro e w7 ⟨rfl, k1⟩
  have H7 : Hid (Below w.heap.size w w7) := bel_tr H6.out.2 k1
  clear k1
  go_wp2_with fail
  go_ret
  exact ⟨rfl, H7.out⟩
theorem spans_any (id born died ep : Int) (w : World) : Calls Try.prog 5 #[.int .i64 id, .int .i64 born, .int .i64 died, .int .i64 ep] w fun e w' => e = .returned (.bool true) ∧ Below w.heap.size w w' := by
  by_cases b1 : 1 ≤ born
  · by_cases b2 : born ≤ 1099511627776
    · by_cases d1 : born ≤ died
      · by_cases d2 : died ≤ 1099511627776
        · by_cases a1 : born ≤ ep
          · by_cases a2 : ep < died
            · exact spans_yes id born died ep w b1 b2 d1 d2 a1 a2
            · exact spans_behind id born died ep w b1 b2 d1 d2 a1 a2
          · exact spans_ahead id born died ep w b1 b2 d1 d2 a1
        · exact spans_late id born died ep w b1 b2 d1 d2
      · exact spans_early id born died ep w b1 b2 d1
    · exact spans_hi id born died ep w b1 b2
  · exact spans_lo id born died ep w b1
end Go.Proofs.Ytbkciencikdacaa
