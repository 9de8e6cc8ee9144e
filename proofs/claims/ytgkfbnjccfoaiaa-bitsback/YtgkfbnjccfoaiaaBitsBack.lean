/-
  Proved here: for all bytes and every number the law BitsBack returns true and leaves its arguments as they were: bytes laid as words are read as they were, and as no other length of so many words, unless noughts stand there. No condition.
-/
import Derived.Test.YtgkfbnjccfoaiaaRows
import Derived.Test.YtgkfbnjccfoaiaaWordsV
import Derived.WalkKit
import Derived.ProofKit
import Derived.OpenShut
import Derived.ShutString
import Derived.ChangeOld
import Derived.Below
namespace Go.Proofs.Ytgkfbnjccfoaiaa.bitsBack
open Go.ChangeShapes Go.WideShapes Go.ChangeAt Go.RowKit
open Go.ChangeMaps (open_string shut_string)
set_option linter.unusedVariables false

theorem own : ownKnob Try.prog.godebug = none := by kernel_rfl
theorem laidOut : laidOutB Try.prog = true := by kernel_rfl

set_option maxHeartbeats 1000000 in
theorem walk (a0 : Option Addr) (len0 cap0 : Nat) (z0 : List Int) (a1 : Int) (w : World) (w0 : IsRow .u8 w a0 len0 cap0 z0) (w1 : (Lit.int .i64 a1).wf = true) :
    Calls Try.prog 5 #[.slice a0 len0 cap0, .int .i64 a1] w fun e w' => e = .returned (.bool true) ∧ Below w.heap.size w w' := by
  have x1 : -9223372036854775808 ≤ a1 ∧ a1 ≤ 9223372036854775807 := by have := bounds_i64 w1; omega
  obtain ⟨r0, r1⟩ := x1
  obtain ⟨hl1, hl2, hl3⟩ := isRow_len w0
  unfold maxLen at hl3
  have hlen0 : (len0 : Int) ≤ 9223372036854775807 := by omega
  have HVB : Hid (Vw w.heap.size w .u8 (.slice a0 len0 cap0) (z0.take len0)) := isRow_view w0
  have HBB : Hid (bytesIn (z0.take len0)) := isRow_bytes w0
  generalize hL : z0.take len0 = L at *
  clear w0 w1 hl2 hl3 hL
  by_cases hout : 2000 < len0 ∨ a1 < 0 ∨ 4000 < a1
  · by_cases h1 : 2000 < len0
    · go_enter Try.func5, Try.ntmps5
      go_wp2_with (first | (go_at_call 9; refine (awake_any _).mono ?_; rintro e w' ⟨rfl, hb⟩))
      go_ret
      exact ⟨rfl, hb⟩
    by_cases h2 : a1 < 0
    · go_enter Try.func5, Try.ntmps5
      go_wp2_with (first | (go_at_call 9; refine (awake_any _).mono ?_; rintro e w' ⟨rfl, hb⟩))
      go_ret
      exact ⟨rfl, hb⟩
    have h3 : 4000 < a1 := by omega
    go_enter Try.func5, Try.ntmps5
    go_wp2_with (first | (go_at_call 9; refine (awake_any _).mono ?_; rintro e w' ⟨rfl, hb⟩))
    go_ret
    exact ⟨rfl, hb⟩
  have q1 : len0 ≤ 2000 := by omega
  have q2 : 0 ≤ a1 := by omega
  have q3 : a1 ≤ 4000 := by omega
  clear hout
  by_cases hok : bytesOk (wordsOf L) a1
  · obtain ⟨m, rfl⟩ := Int.eq_ofNat_of_zero_le q2
    have HOKM : Hid (bytesOk (wordsOf L) (m : Int)) := hok
    have hEq : ((m : Int) + 7) / 8 = ((len0 : Int) + 7) / 8 := by have := hok.2.2.1; rw [wordsOf_len, hl1] at this; omega
    have HNO : Hid (∀ k, m ≤ k → k < L.length → L.getD k 0 = 0) := fun k h1 h2 => ok_noughts L HBB.out m hok k h1 h2
    clear hok
    rcases (show m < len0 ∨ len0 < m ∨ len0 = m by omega) with hml | hml | hml
    · have HVB0 := HVB
      rcases HVB0 with ⟨hL0, ao, cap, hv, hn, hcm⟩ | ⟨hz, b, off, cap, hv, h1, h2, h3, h4⟩
      · rw [hL0] at hl1; simp at hl1; omega
      injection hv with e1 e2 e3
      subst e1
      have HCW : Hid (∀ i, i < L.length → w.cell? ⟨b, off + i, none⟩ = some (.int .u8 (L.getD i 0))) := h4
      clear h4 e2 e3 h1 h2
      have HOK : Hid (bytesOk (wordsOf L) (len0 : Int)) := by have := ok_words L HBB.out; rw [hl1] at this; exact this
      have HUP : Hid (bytesUpto (wordsOf L) len0 = L) := by have := bytes_words L HBB.out; rw [hl1] at this; exact this
      have HWL : Hid ((wordsOf L).length = (len0 + 7) / 8) := by have := wordsOf_len L; rw [hl1] at this; exact this
      have HWI : Hid (wordsIn (wordsOf L)) := words_in L HBB.out
      go_enter Try.func5, Try.ntmps5
      go_wp2_with (first
        | (go_at_call 14; refine (words_view _ L _ HVB.out HBB.out (by omega)).mono ?_; rintro e w1 ⟨v1, rfl, hr1, hb1⟩; obtain ⟨ao1, cap1, hv1⟩ := row_shape hr1; rw [HWL.out] at hv1; subst hv1; have hs1 := hb1.size; have HR1 : Hid (Row w1 w.heap.size .u64 34 (.slice ao1 ((len0 + 7) / 8) cap1) (wordsOf L)) := hr1; have HV1 : Hid (Vw w.heap.size w1 .u8 (.slice (some ⟨b, off, none⟩) len0 cap0) L) := HVB.out.below hb1; clear hr1 HVB))
      go_at_call 10
      refine (bytes_ok _ (wordsOf L) len0 _ (row_view HR1.out) HWI.out (by rw [HWL.out]; omega) HOK.out).mono ?_
      rw [HUP.out]
      rintro e w2 ⟨v2, rfl, hr2, hb2⟩
      have hcv := conv_view (row_view hr2)
      have hcb := conv_view (HV1.out.below (hb2.mono hs1))
      have HW : Hid (Vw w2.heap.size w2 .u64 (.slice ao1 ((len0 + 7) / 8) cap1) (wordsOf L)) := ((row_view HR1.out).below hb2).mono hb2.size
      have hb02 : Below w.heap.size w w2 := hb1.trans (hb2.mono hs1)
      have hs2 := hb02.size
      clear hr2 HR1 HOK HUP
      go_wp2_with fail
      go_at_call 10
      refine (bytes_ok _ (wordsOf L) m _ HW.out HWI.out (by rw [HWL.out]; omega) HOKM.out).mono ?_
      rintro e w3 ⟨v3, rfl, hr3, hb3⟩
      obtain ⟨ao3, cap3, hv3⟩ := row_shape hr3
      rw [bytesUpto_len] at hv3
      subst hv3
      have hb03 : Below w.heap.size w w3 := hb02.trans (hb3.mono hs2)
      have hs3 := hb03.size
      clear hr3 HW
      have HC : Hid (∀ k, m ≤ k → k < len0 → w3.cell? ⟨b, off + k, none⟩ = some (.int .u8 0)) := fun k hk1 hk2 => by
        rw [hb03.cell (by exact h3), HCW.out k (by omega), HNO.out k hk1 (by omega)]
      go_wp2
      go_loop [10] (fun i => ∃ k : Nat, m ≤ k ∧ k ≤ len0 ∧ i = .int .i64 k) (fun i => len0 - (intOf i).toNat)
      case atStart => exact ⟨m, by omega, by omega, rfl⟩
      case round =>
        obtain ⟨k, hk1, hk2, rfl⟩ := hrel
        by_cases hlt : k < len0
        · have hcell := HC.out k hk1 hlt
          go_wp2
          go_round
          case rel => exact ⟨k + 1, by omega, by omega, by go_num⟩
          case measure => simp [intOf]; omega
        · obtain rfl : k = len0 := by omega
          go_wp2_with (first
            | (go_at_call 9; refine (awake_any _).mono ?_; rintro e w5 ⟨rfl, hb5⟩))
          go_ret
          exact ⟨rfl, hb03.trans (hb5.mono hs3)⟩
    · have hml2 : (len0 : Int) < m := by omega
      have HOK : Hid (bytesOk (wordsOf L) (len0 : Int)) := by have := ok_words L HBB.out; rw [hl1] at this; exact this
      have HUP : Hid (bytesUpto (wordsOf L) len0 = L) := by have := bytes_words L HBB.out; rw [hl1] at this; exact this
      have HWL : Hid ((wordsOf L).length = (len0 + 7) / 8) := by have := wordsOf_len L; rw [hl1] at this; exact this
      have HWI : Hid (wordsIn (wordsOf L)) := words_in L HBB.out
      go_enter Try.func5, Try.ntmps5
      go_wp2_with (first
        | (go_at_call 14; refine (words_view _ L _ HVB.out HBB.out (by omega)).mono ?_; rintro e w1 ⟨v1, rfl, hr1, hb1⟩; obtain ⟨ao1, cap1, hv1⟩ := row_shape hr1; rw [HWL.out] at hv1; subst hv1; have hs1 := hb1.size; have HR1 : Hid (Row w1 w.heap.size .u64 34 (.slice ao1 ((len0 + 7) / 8) cap1) (wordsOf L)) := hr1; have HV1 : Hid (Vw w.heap.size w1 .u8 (.slice a0 len0 cap0) L) := HVB.out.below hb1; clear hr1 HVB))
      go_at_call 10
      refine (bytes_ok _ (wordsOf L) len0 _ (row_view HR1.out) HWI.out (by rw [HWL.out]; omega) HOK.out).mono ?_
      rw [HUP.out]
      rintro e w2 ⟨v2, rfl, hr2, hb2⟩
      have hcv := conv_view (row_view hr2)
      have hcb := conv_view (HV1.out.below (hb2.mono hs1))
      have HW : Hid (Vw w2.heap.size w2 .u64 (.slice ao1 ((len0 + 7) / 8) cap1) (wordsOf L)) := ((row_view HR1.out).below hb2).mono hb2.size
      have hb02 : Below w.heap.size w w2 := hb1.trans (hb2.mono hs1)
      have hs2 := hb02.size
      clear hr2 HR1 HOK HUP
      go_wp2_with fail
      go_at_call 10
      refine (bytes_ok _ (wordsOf L) m _ HW.out HWI.out (by rw [HWL.out]; omega) HOKM.out).mono ?_
      rintro e w3 ⟨v3, rfl, hr3, hb3⟩
      obtain ⟨ao3, cap3, hv3⟩ := row_shape hr3
      rw [bytesUpto_len] at hv3
      subst hv3
      have hb03 : Below w.heap.size w w3 := hb02.trans (hb3.mono hs2)
      have hs3 := hb03.size
      clear hr3 HW
      go_wp2
      go_loop [10] (fun i => i = .int .i64 len0) (fun i => 1)
      case atStart => rfl
      case round =>
        subst hrel
        go_wp2_with (first
          | (go_at_call 9; refine (awake_any _).mono ?_; rintro e w5 ⟨rfl, hb5⟩))
        go_ret
        exact ⟨rfl, hb03.trans (hb5.mono hs3)⟩
    · subst hml
      have HOK : Hid (bytesOk (wordsOf L) (len0 : Int)) := by have := ok_words L HBB.out; rw [hl1] at this; exact this
      have HUP : Hid (bytesUpto (wordsOf L) len0 = L) := by have := bytes_words L HBB.out; rw [hl1] at this; exact this
      have HWL : Hid ((wordsOf L).length = (len0 + 7) / 8) := by have := wordsOf_len L; rw [hl1] at this; exact this
      have HWI : Hid (wordsIn (wordsOf L)) := words_in L HBB.out
      go_enter Try.func5, Try.ntmps5
      go_wp2_with (first
        | (go_at_call 14; refine (words_view _ L _ HVB.out HBB.out (by omega)).mono ?_; rintro e w1 ⟨v1, rfl, hr1, hb1⟩; obtain ⟨ao1, cap1, hv1⟩ := row_shape hr1; rw [HWL.out] at hv1; subst hv1; have hs1 := hb1.size; have HR1 : Hid (Row w1 w.heap.size .u64 34 (.slice ao1 ((len0 + 7) / 8) cap1) (wordsOf L)) := hr1; have HV1 : Hid (Vw w.heap.size w1 .u8 (.slice a0 len0 cap0) L) := HVB.out.below hb1; clear hr1 HVB))
      go_at_call 10
      refine (bytes_ok _ (wordsOf L) len0 _ (row_view HR1.out) HWI.out (by rw [HWL.out]; omega) HOK.out).mono ?_
      rw [HUP.out]
      rintro e w2 ⟨v2, rfl, hr2, hb2⟩
      have hcv := conv_view (row_view hr2)
      have hcb := conv_view (HV1.out.below (hb2.mono hs1))
      have HW : Hid (Vw w2.heap.size w2 .u64 (.slice ao1 ((len0 + 7) / 8) cap1) (wordsOf L)) := ((row_view HR1.out).below hb2).mono hb2.size
      have hb02 : Below w.heap.size w w2 := hb1.trans (hb2.mono hs1)
      have hs2 := hb02.size
      clear hr2 HR1 HUP
      go_wp2_with fail
      go_at_call 10
      refine (bytes_ok _ (wordsOf L) len0 _ HW.out HWI.out (by rw [HWL.out]; omega) HOK.out).mono ?_
      rintro e w3 ⟨v3, rfl, hr3, hb3⟩
      obtain ⟨ao3, cap3, hv3⟩ := row_shape hr3
      rw [bytesUpto_len] at hv3
      subst hv3
      have hb03 : Below w.heap.size w w3 := hb02.trans (hb3.mono hs2)
      have hs3 := hb03.size
      clear hr3 HW
      go_wp2
      go_loop [10] (fun i => i = .int .i64 len0) (fun i => 1)
      case atStart => rfl
      case round =>
        subst hrel
        go_wp2_with (first
          | (go_at_call 9; refine (awake_any _).mono ?_; rintro e w5 ⟨rfl, hb5⟩))
        go_ret
        exact ⟨rfl, hb03.trans (hb5.mono hs3)⟩
  · have hne : (a1 != (len0 : Int)) = true := bne_iff_ne.2 (fun h => hok (by rw [h, ← hl1]; exact ok_words L HBB.out))
    have HOK : Hid (bytesOk (wordsOf L) (len0 : Int)) := by have := ok_words L HBB.out; rw [hl1] at this; exact this
    have HUP : Hid (bytesUpto (wordsOf L) len0 = L) := by have := bytes_words L HBB.out; rw [hl1] at this; exact this
    have HWL : Hid ((wordsOf L).length = (len0 + 7) / 8) := by have := wordsOf_len L; rw [hl1] at this; exact this
    have HWI : Hid (wordsIn (wordsOf L)) := words_in L HBB.out
    go_enter Try.func5, Try.ntmps5
    go_wp2_with (first
      | (go_at_call 14; refine (words_view _ L _ HVB.out HBB.out (by omega)).mono ?_; rintro e w1 ⟨v1, rfl, hr1, hb1⟩; obtain ⟨ao1, cap1, hv1⟩ := row_shape hr1; rw [HWL.out] at hv1; subst hv1; have hs1 := hb1.size; have HR1 : Hid (Row w1 w.heap.size .u64 34 (.slice ao1 ((len0 + 7) / 8) cap1) (wordsOf L)) := hr1; have HV1 : Hid (Vw w.heap.size w1 .u8 (.slice a0 len0 cap0) L) := HVB.out.below hb1; clear hr1 HVB))
    go_at_call 10
    refine (bytes_ok _ (wordsOf L) len0 _ (row_view HR1.out) HWI.out (by rw [HWL.out]; omega) HOK.out).mono ?_
    rw [HUP.out]
    rintro e w2 ⟨v2, rfl, hr2, hb2⟩
    have hcv := conv_view (row_view hr2)
    have hcb := conv_view (HV1.out.below (hb2.mono hs1))
    have HW : Hid (Vw w2.heap.size w2 .u64 (.slice ao1 ((len0 + 7) / 8) cap1) (wordsOf L)) := ((row_view HR1.out).below hb2).mono hb2.size
    have hb02 : Below w.heap.size w w2 := hb1.trans (hb2.mono hs1)
    have hs2 := hb02.size
    clear hr2 HR1 HOK HUP
    go_wp2_with fail
    go_at_call 10
    refine (bytes_bad _ (wordsOf L) a1 _ _ HW.out (by rw [HWL.out]; omega) r0 r1 hok).mono ?_
    rintro e w3 ⟨rfl, rfl⟩
    go_wp2_with (first
      | (go_at_call 12; refine (code_bad _).mono ?_; rintro e w4 ⟨rfl, rfl⟩)
      | (go_at_call 9; refine (awake_any _).mono ?_; rintro e w5 ⟨rfl, hb5⟩))
    go_ret
    exact ⟨rfl, hb02.trans (hb5.mono hs2)⟩

/-! THE ROW's STEP -/
set_option maxRecDepth 100000 in
theorem lifted (os : Os) (started : os.Started) (H : Type) (enc : TypeId × Value → H) :
    ReturnsInHanded {} Try.checked os 5 .any (Rows.bitsBackSpec.pre6 enc Try.prog Try.f5 Rows.bitsBackRow.domain false) (Rows.bitsBackSpec.post enc Try.prog Try.f5 false true false false) := by
  refine returnsInHanded_of_change (C := Try.checked) own started (by kernel_rfl) Try.func5
    (ChangeSpec.witness6 (enc := enc) (C := Try.checked) false ⟨#[], #[.slice none 0 0, .int .i64 0], []⟩ 8 (by kernel_rfl) (by kernel_rfl) (by kernel_rfl) (by kernel_rfl)) ?_
  intro W base args ds gs before hval0 hW hcnd _
  have hval : ∀ (j : Nat) t v, Try.f5.params[j]? = some t → args[j]? = some v → Value.okWide Try.prog W .any base t v := hval0
  have hW' := hW
  obtain ⟨p, q, hA0, hV, rfl, hfz, hnd⟩ := hW
  have hA : DataW.TrodAll enc Try.prog W 0 (fun _ => true) true Try.f5.params.toList args.toList ds p := hA0
  rw [Try.params5] at hA hval
  obtain ⟨v0, vs0, d0, ds0, p0, q0, hargs, rfl, rfl, h0, r0⟩ := trodAll_cons hA
  obtain ⟨v1, vs1, d1, ds1, p1, q1, rfl, rfl, rfl, h1, r1⟩ := trodAll_cons r0
  obtain ⟨rfl, rfl, rfl⟩ := trodAll_nil r1
  obtain rfl : args = #[v0, v1] := by cases args; simp_all
  obtain ⟨rfl, rfl⟩ := trodVars_none hV
  obtain ⟨a0, len0, cap0, rfl⟩ := okWide_slice Try.underlying22 (hval 0 22 v0 rfl rfl)
  have k0 := h0
  have lt0 : ∀ x ∈ p0, x.block < W.heap.size := by obtain ⟨m, hm⟩ := k0; exact DataW.trod_lt m _ _ _ hm
  obtain ⟨z0, w0⟩ : ∃ zs, IsRow .u8 W a0 len0 cap0 zs := by
    obtain ⟨fuel, hf⟩ := h0
    rcases open_ints Try.underlying22 Try.underlying5 (by kernel_rfl) hf with ⟨hcs, _⟩ | ⟨x, l, c, zs, hcs, _, hl, hm, hz, _, hcell, hwz⟩
    · simp [Value.cells] at hcs
      obtain ⟨rfl, rfl, rfl⟩ := hcs
      exact ⟨[], .inl ⟨rfl, rfl, rfl, rfl⟩⟩
    · simp [Value.cells] at hcs
      obtain ⟨rfl, rfl, rfl⟩ := hcs
      exact ⟨zs, .inr ⟨_, rfl, hl, hm, by simpa using hz, hcell, hwz⟩⟩
  obtain ⟨a1, rfl, rfl, rfl, w1⟩ := open_int Try.underlying3 (hval 1 3 v1 rfl rfl) h1
  clear hA0 hval0
  refine (walk a0 len0 cap0 z0 a1 W w0 w1).mono fun e W' ⟨he, bel⟩ => ?_
  subst he
  exact ⟨_, rfl, _, _, _, [], _, [], hW', trodAll_mk1 (shut_bool Try.underlying4 _), (trodAll_cons_mk (Below.trod laidOut (by kernel_rfl) (of_decide_eq_true (by kernel_rfl)) k0 bel lt0) (trodAll_cons_mk (shut_int Try.underlying3 w1) trodAll_mk0)), rfl, bel.frame _, fun h => by cases h⟩

theorem over : Rows.bitsBackRow.holds Try.pinned (OpenSpec.ofChange Rows.bitsBackSpec) :=
  OpenClaim.holds_of_wide 5 Try.f5 rfl rfl rfl rfl rfl rfl rfl ⟨rfl, rfl, rfl, rfl, rfl⟩ rfl rfl rfl rfl rfl (by kernel_rfl) Try.func5 (by kernel_rfl)
    (of_decide_eq_true (by kernel_rfl)) (by unfold Func.isWrapper; first | (rw [if_pos (by decide +kernel)]; kernel_rfl) | (rw [if_neg (by decide +kernel)]; exact ⟨rfl, rfl⟩))
    (fun os started H enc _ => lifted os started H enc)

/-- The statement, by the row. -/
theorem proved : Rows.BitsBackSaid := over
end Go.Proofs.Ytgkfbnjccfoaiaa.bitsBack

namespace Go.Proofs.Ytgkfbnjccfoaiaa
/-- THE STATEMENT. -/
theorem bitsBack_holds : Rows.BitsBackSaid := bitsBack.proved
#print axioms bitsBack_holds
end Go.Proofs.Ytgkfbnjccfoaiaa
