/- dolmenlaw10.has, awake. -/
import Derived.Test.YtbkciencikdacaaFDeath
import Derived.Test.YtbkciencikdacaaFNeed2
import Derived.Test.YtbkciencikdacaaLCode
import Derived.Test.YtbkciencikdacaaLInts
namespace Go.Proofs.Ytbkciencikdacaa
open Go.RowKit Kit
set_option linter.unusedVariables false

/-- Is a number in a list? -/
def inL (l : List Int) (x : Int) : Bool := decide (x ∈ l)
theorem inL_snoc {l : List Int} {k : Nat} {x : Int} (h : inL (l.take k) x = false) (hk : k < l.length) (hx : ¬ l.getD k 0 = x) : inL (l.take (k + 1)) x = false := by
  unfold inL at *
  rw [decide_eq_false_iff_not] at *
  rw [List.take_succ_eq_append_getElem hk, List.mem_append, List.mem_singleton]
  rintro (h1 | h1)
  · exact h h1
  · exact hx (by rw [getD9 hk, h1])
set_option maxRecDepth 4000 in
set_option maxHeartbeats 2000000 in
theorem lhas_any (v : Value) (l : List Int) (x : Int) (w : World) (hv : Sees w v (iV l)) :
    Calls Try.prog 24 #[v, .int .i64 x] w fun e w' => e = .returned (.bool (inL l x)) ∧ w' = w := by
  obtain ⟨ao, cap, rfl, h1, h2, h3, h4⟩ := hv
  rw [iV_len] at h1 h4 ⊢
  obtain ⟨n, hn⟩ : ∃ n, n = l.length := ⟨_, rfl⟩
  rw [← hn] at h1 h4 ⊢
  have hm : (n : Int) ≤ 9223372036854775807 := by unfold maxLen at h2; omega
  have H4 : Hid (0 < n → ∃ b off, ao = some ⟨b, off, none⟩ ∧ b < w.heap.size ∧ ∀ (i : Nat) (x : Value), (iV l)[i]? = some x → w.cell? ⟨b, off + i, none⟩ = some x) := h4
  have HN : Hid (n = l.length) := hn
  clear h1 h2 h3 h4 hn
  go_enter Try.func24, Try.ntmps24
  go_wp2
  go_loopw [5] (fun s wr => ∃ k : Nat, k ≤ n ∧ s = .int .i64 (k : Int) ∧ Hid (inL (l.take k) x = false) ∧ wr = w) (fun s _ => n - (intOf s).toNat)
  case atStart => exact ⟨0, Nat.zero_le _, rfl, by show _ = _; unfold inL; simp, rfl⟩
  case round =>
    obtain ⟨k, hk, rfl, HK, hw⟩ := hrel
    subst hw
    by_cases hlt : k < n
    · obtain ⟨b, off, e, hbl, hc⟩ := H4.out (by omega)
      subst e
      have hkl : k < l.length := by have := HN.out; omega
      have c0 := hc k _ (iV_at l k hkl)
      obtain ⟨y, hy⟩ : ∃ y, y = l.getD k 0 := ⟨_, rfl⟩
      rw [← hy] at c0
      have HY : Hid (l.getD k 0 = y) := hy.symm
      have HKL : Hid (k < l.length) := hkl
      have HM : Hid (y ∈ l) := by
        show _ ∈ _
        rw [hy, getD9 hkl]
        exact List.getElem_mem _
      have i0 : (k : Int) < (n : Int) := by omega
      have i2 : (0 : Int) ≤ (k : Int) := by omega
      clear hc hy hbl
      by_cases hxy : y = x
      · subst hxy
        have HT : Hid (inL l y = true) := by show _ = _; unfold inL; exact decide_eq_true HM.out
        go_wp2
        go_ret
        exact ⟨by rw [HT.out]; rfl, rfl⟩
      · have hb : (y == x) = false := beq_eq_false_iff_ne.2 hxy
        have HS2 : Hid (inL (l.take (k + 1)) x = false) := inL_snoc HK.out HKL.out (by rw [HY.out]; exact hxy)
        clear HK
        go_wp2
        go_roundw
        case rel => exact ⟨k + 1, by omega, by go_num, HS2.out, by first | trivial | rfl⟩
        case measure => simp [intOf]; omega
    · have i0 : ¬ (k : Int) < (n : Int) := by omega
      have HT : Hid (inL l x = false) := by
        have h1 := HK.out
        rw [List.take_of_length_le (by have := HN.out; omega)] at h1
        exact h1
      go_wp2
      go_ret
      exact ⟨by rw [HT.out]; rfl, rfl⟩
theorem asc1 (t : Th) : Asc [t] := List.pairwise_singleton _ _
theorem asc0 : Asc [] := List.Pairwise.nil
set_option maxRecDepth 4000 in
set_option maxHeartbeats 8000000 in
theorem awake_any (w : World) : Calls Try.prog 8 #[] w fun e w' => e = .returned (.bool true) ∧ Below w.heap.size w w' := by
  have HN : Hid (BookAt (w.alloc (.cells #[.slice none 0 0] 57)) w.heap.size w.heap.size (.slice none 0 0) [] ∧ Below w.heap.size w (w.alloc (.cells #[.slice none 0 0] 57))) := ⟨new_book w, bel_newG _ _⟩
  go_enter Try.func8, Try.ntmps8
  go_wp2_with fail
  go_at_call 9
  refine (fnew_any w).mono ?_
  rintro e w1 ⟨rfl, hw1⟩
  rw [← hw1] at HN
  clear hw1
  go_wp2_with fail
  go_at_call 25
  refine (fbirth_good w.heap.size w.heap.size _ [] 7 3 _ HN.out.1 asc0 (by simp) ⟨by omega, by unfold maxE; omega, rfl⟩).mono ?_
  rintro e w2 ⟨rfl, v2, hm2, ht2⟩
  have hm2 : BookAt w2 w.heap.size w.heap.size v2 [⟨7, 3, 0⟩] := hm2
  have H2 : Hid (BookAt w2 w.heap.size w.heap.size v2 [⟨7, 3, 0⟩] ∧ Below w.heap.size w w2) := ⟨hm2, ht2.below HN.out.2 HN.out.2.size HN.out.1.foot⟩
  clear hm2 ht2
  go_wp2_with fail
  go_at_call 26
  refine (fdeath_good w.heap.size w.heap.size _ [⟨7, 3, 0⟩] 7 5 _ H2.out.1 (asc1 _) (by simp) ⟨by unfold maxE; omega, ⟨7, 3, 0⟩, List.mem_singleton.2 rfl, rfl, rfl, by simp⟩).mono ?_
  rintro e w3 ⟨rfl, v3, hm3, ht3⟩
  have hm3 : BookAt w3 w.heap.size w.heap.size v3 [⟨7, 3, 5⟩] := hm3
  have H3 : Hid (BookAt w3 w.heap.size w.heap.size v3 [⟨7, 3, 5⟩] ∧ Below w.heap.size w w3) := ⟨hm3, ht3.below H2.out.2 H2.out.2.size H2.out.1.foot⟩
  clear hm3 ht3
  have HA : Hid (∀ (e : Int) (L : List Int), idsT (fun t => holdsB t.born t.died e) [⟨7, 3, 5⟩] = L → ∀ X, Below w3.heap.size w3 X → Calls Try.prog 14 #[.pointer (some ⟨w.heap.size, 0, none⟩), .int .i64 e] X fun x w' => ∃ ao cap, x = .returned (.slice ao L.length cap) ∧ Sees w' (.slice ao L.length cap) (iV L) ∧ Below X.heap.size X w') := fun e L hL X hb =>
    (fat_any _ [⟨7, 3, 5⟩] e X (H3.out.1.below hb).sees (by simp)).mono fun x w' ⟨r, h1, h2, h3⟩ => by
      rw [hL] at h2
      obtain ⟨ao, cap, hf, _⟩ := id h2.sees
      rw [iV_len] at hf
      subst hf
      exact ⟨ao, cap, h1, h2.sees, h3⟩
  have HE1 : idsT (fun t => holdsB t.born t.died 3) [⟨7, 3, 5⟩] = [7] := by decide
  have HE2 : idsT (fun t => holdsB t.born t.died 4) [⟨7, 3, 5⟩] = [7] := by decide
  have HE3 : idsT (fun t => holdsB t.born t.died 5) [⟨7, 3, 5⟩] = [] := by decide
  have HA1 : Hid _ := HA.out 3 [7] HE1
  have HA2 : Hid _ := HA.out 4 [7] HE2
  have HA3 : Hid _ := HA.out 5 [] HE3
  clear HE1 HE2 HE3 HA
  go_wp2_with fail
  go_at_call 14
  refine (HA1.out _ (Below.refl _ _)).mono ?_
  rintro e w4 ⟨ao, cap, rfl, k1, k2⟩
  have H4 : Hid (Below w3.heap.size w3 w4 ∧ Sees w4 (.slice ao 1 cap) (iV [7])) := ⟨k2, k1⟩
  clear k1 k2
  go_wp2_with fail
  go_at_call 13
  refine (ints_same _ _ [7] _ (H4.out.2.below (bel_newG _ _)) (sees_one _ _ _ _ rfl)).mono ?_
  rintro e w5 ⟨rfl, k1⟩
  have H5 : Hid (Below w3.heap.size w3 w5) := bel_tr H4.out.1 (bel_tr (bel_newG _ _) k1)
  clear k1
  go_wp2_with fail
  go_at_call 14
  refine (HA2.out _ H5.out).mono ?_
  rintro e w6 ⟨bo, bcap, rfl, k1, k2⟩
  have H6 : Hid (Below w3.heap.size w3 w6 ∧ Sees w6 (.slice bo 1 bcap) (iV [7])) := ⟨bel_tr H5.out k2, k1⟩
  clear k1 k2
  go_wp2_with fail
  go_at_call 13
  refine (ints_same _ _ [7] _ (H6.out.2.below (bel_newG _ _)) (sees_one _ _ _ _ rfl)).mono ?_
  rintro e w7 ⟨rfl, k1⟩
  have H7 : Hid (Below w3.heap.size w3 w7) := bel_tr H6.out.1 (bel_tr (bel_newG _ _) k1)
  clear k1
  go_wp2_with fail
  go_at_call 14
  refine (HA3.out _ H7.out).mono ?_
  rintro e w8 ⟨co, ccap, rfl, k1, k2⟩
  have H8 : Hid (Below w3.heap.size w3 w8) := bel_tr H7.out k2
  clear k1 k2
  go_wp2_with fail
  go_at_call 25
  refine (fbirth_bad _ [⟨7, 3, 5⟩] 7 1 _ (H3.out.1.below H8.out).sees (asc1 _) (by simp) (.inr (fun h => by have := h.2.2; revert this; decide))).mono ?_
  rintro e w9 ⟨rfl, k1⟩
  have H9 : Hid (Below w.heap.size w w9) := bel_tr H3.out.2 (bel_tr H8.out k1)
  clear k1
  unfold errA
  go_wp2_with (go_at_call 27; refine (code_num 1 _ (by omega) (by omega)).mono ?_; rintro e w10 ⟨rfl, hw10⟩; subst w10)
  go_ret
  exact ⟨rfl, H9.out⟩
end Go.Proofs.Ytbkciencikdacaa
