/- dolmenlaw9.awake. -/
import Derived.Test.YthdmclhccbjgoaaEPut
import Derived.Test.YthdmclhccbjgoaaECut
import Derived.Test.YthdmclhccbjgoaaEReads
import Derived.Test.YthdmclhccbjgoaaLCode
namespace Go.Proofs.Ythdmclhccbjgoaa
open Go.RowKit Kit
set_option linter.unusedVariables false

theorem Turn9.below {p B : Nat} {v v' : Value} {w0 w w' : World} (h : Turn9 p v v' w w') (h0 : Below B w0 w) (hB : B ≤ w.heap.size) (hp : B ≤ p) (hv : ∀ k, v.ownBlock = some k → B ≤ k) : Below B w0 w' :=
  ⟨h.os.trans h0.os, h.tape.trans h0.tape, h.output.trans h0.output, Nat.le_trans h0.size h.size, fun k hk => (h.block k (by omega) (by omega) (fun e => by have := hv k e; omega)).trans (h0.block k hk)⟩
theorem awake_1 : putB [] ⟨0, 10, 1, 0⟩ = [⟨0, 10, 1, 0⟩] := by rfl
theorem awake_2 : putB [⟨0, 10, 1, 0⟩] ⟨3, 2, 2, 0⟩ = [⟨0, 3, 1, 0⟩, ⟨3, 2, 2, 0⟩, ⟨5, 5, 1, 5⟩] := by rfl
set_option maxRecDepth 4000 in
set_option maxHeartbeats 8000000 in
theorem awake9_any (w : World) : Calls Try.prog 8 #[] w fun e w' => e = .returned (.bool true) ∧ Below w.heap.size w w' := by
  have HN : Hid (EMap (w.alloc (.cells #[.slice none 0 0] 59)) w.heap.size (w.heap.size + 1) (.slice none 0 0) [] ∧ Below w.heap.size w (w.alloc (.cells #[.slice none 0 0] 59))) := ⟨enew_map w, bel_newG _ _⟩
  go_enter Try.func8, Try.ntmps8
  go_wp2_with fail
  go_at_call 9
  refine (enew_any w).mono ?_
  rintro e w1 ⟨rfl, hw1⟩
  rw [← hw1] at HN
  clear hw1
  go_wp2_with fail
  go_at_call 25
  refine (eput_good w.heap.size _ 0 10 1 0 _ [] _ HN.out.1 good9_nil (by simp) (by unfold Put9; simp only; omega)).mono ?_
  rw [awake_1]
  rintro e w2 ⟨rfl, v2, hm2, ht2⟩
  have H2 : Hid (EMap w2 w.heap.size (w.heap.size + 1) v2 [⟨0, 10, 1, 0⟩] ∧ Below w.heap.size w w2 ∧ Good9 [⟨0, 10, 1, 0⟩]) := ⟨hm2, ht2.below HN.out.2 HN.out.2.size (Nat.le_refl _) (fun k hk => by simp [Value.ownBlock] at hk), by rw [← awake_1]; exact good9_put good9_nil (by unfold Fit; simp only; omega)⟩
  clear hm2 ht2
  go_wp2_with fail
  go_at_call 25
  refine (eput_good w.heap.size _ 3 2 2 0 _ _ _ H2.out.1 H2.out.2.2 (by simp) (by unfold Put9; simp only; omega)).mono ?_
  rw [awake_2]
  rintro e w3 ⟨rfl, v3, hm3, ht3⟩
  have H3 : Hid (EMap w3 w.heap.size (w.heap.size + 1) v3 [⟨0, 3, 1, 0⟩, ⟨3, 2, 2, 0⟩, ⟨5, 5, 1, 5⟩] ∧ Below w.heap.size w w3 ∧ Fits [⟨0, 3, 1, 0⟩, ⟨3, 2, 2, 0⟩, ⟨5, 5, 1, 5⟩]) := ⟨hm3, ht3.below H2.out.2.1 H2.out.2.1.size (Nat.le_refl _) (fun k hk => by have := H2.out.1.row.block k hk; omega), by rw [← awake_2]; exact fits_put H2.out.2.2.fits (by unfold Fit; simp only; omega)⟩
  clear hm3 ht3
  go_wp2_with fail
  go_at_call 14
  refine (epieces_any w.heap.size _ _ _ _ H3.out.1 (by simp)).mono ?_
  rintro e w4 ⟨v4, rfl, k1, k2⟩
  obtain ⟨a4, c4, hv4⟩ := k1.sees.form
  have hv4 : v4 = .slice a4 3 c4 := hv4
  subst hv4
  have H4 : Hid (EMap w4 w.heap.size (w.heap.size + 1) v3 [⟨0, 3, 1, 0⟩, ⟨3, 2, 2, 0⟩, ⟨5, 5, 1, 5⟩] ∧ Below w.heap.size w w4) := ⟨H3.out.1.below k2, bel_tr H3.out.2.1 k2⟩
  clear k1 k2
  have HE4 : Hid (Calls Try.prog 21 #[.pointer (some ⟨w.heap.size, 0, none⟩)] w4 fun e w' => e = .returned (.int .i64 10) ∧ Below w4.heap.size w4 w') := eend_any w.heap.size _ _ _ _ H4.out.1 (by simp) H3.out.2.2
  go_wp2_with fail
  go_at_call 21
  refine HE4.out.mono ?_
  rintro e w5 ⟨rfl, hb5⟩
  have H5 : Hid (Below w.heap.size w w5) := bel_tr H4.out.2 hb5
  clear hb5 HE4
  go_wp2_with (first
    | (go_at_call 24; refine (ecut_bad w.heap.size 3 2 _ (.inr (.inl (by omega)))).mono ?_; rintro e w6 ⟨rfl, rfl⟩)
    | (go_at_call 27; refine (code_num 12 _ (by omega) (by omega)).mono ?_; rintro e w7 ⟨rfl, rfl⟩)
    | fail)
  go_ret
  exact ⟨rfl, H5.out⟩
end Go.Proofs.Ythdmclhccbjgoaa
