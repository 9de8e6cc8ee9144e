/-
  Proved here: for all bytes, words and numbers the law BitsAsks returns true and leaves its arguments as they were: any bytes are laid as words, any words read as bytes, or refused, and any word is turned, as the document says. No condition.
-/
import Derived.Test.YtgkfbnjccfoaiaaRows
import Derived.Test.YtgkfbnjccfoaiaaWordsV
import Derived.Test.YtgkfbnjccfoaiaaRefX
import Derived.WalkSmall
import Derived.BigQuiet
import Derived.Deep.QuietTactic
import Derived.WalkKit
import Derived.ProofKit
import Derived.OpenShut
import Derived.ShutString
import Derived.ChangeOld
import Derived.Below
namespace Go.Proofs.Ytgkfbnjccfoaiaa.bitsAsks
open Go.ChangeShapes Go.WideShapes Go.ChangeAt Go.RowKit
open Go.ChangeMaps (open_string shut_string)
set_option linter.unusedVariables false

theorem own : ownKnob Try.prog.godebug = none := by kernel_rfl
theorem laidOut : laidOutB Try.prog = true := by kernel_rfl

theorem isRow_words {w : World} {a : Option Addr} {len cap : Nat} {zs : List Int} (h : IsRow .u64 w a len cap zs) : wordsIn (zs.take len) := by
  rcases h with ⟨rfl, rfl, rfl, rfl⟩ | ⟨x, rfl, h1, h2, h3, h4, h5⟩
  · intro z hz; simp at hz
  · intro z hz
    have := bounds_u64 (h5 z (List.mem_of_mem_take hz)); omega

set_option maxHeartbeats 4000000 in
theorem walk (a0 : Option Addr) (len0 cap0 : Nat) (z0 : List Int) (a1 : Option Addr) (len1 cap1 : Nat) (z1 : List Int) (a2 : Int) (w : World) (w0 : IsRow .u8 w a0 len0 cap0 z0) (w1 : IsRow .u64 w a1 len1 cap1 z1) (w2 : (Lit.int .i64 a2).wf = true) :
    Calls Try.prog 3 #[.slice a0 len0 cap0, .slice a1 len1 cap1, .int .i64 a2] w fun e w' => e = .returned (.bool true) ∧ Below w.heap.size w w' := by
  have x2 : -9223372036854775808 ≤ a2 ∧ a2 ≤ 9223372036854775807 := by have := bounds_i64 w2; omega
  obtain ⟨r0, r1⟩ := x2
  obtain ⟨hl1, hl2, hl3⟩ := isRow_len w0
  obtain ⟨hm1, hm2, hm3⟩ := isRow_len w1
  unfold maxLen at hl3 hm3
  have hlen0 : (len0 : Int) ≤ 9223372036854775807 := by omega
  have hlen1 : (len1 : Int) ≤ 9223372036854775807 := by omega
  have HVB : Hid (Vw w.heap.size w .u8 (.slice a0 len0 cap0) (z0.take len0)) := isRow_view w0
  have HBB : Hid (bytesIn (z0.take len0)) := isRow_bytes w0
  have HVW : Hid (Vw w.heap.size w .u64 (.slice a1 len1 cap1) (z1.take len1)) := isRow_view w1
  have HWI : Hid (wordsIn (z1.take len1)) := isRow_words w1
  generalize hL0 : z0.take len0 = L0 at *
  generalize hL1 : z1.take len1 = L1 at *
  clear w0 w1 w2 hl2 hl3 hm2 hm3 hL0 hL1
  by_cases h1 : 2000 < len0
  · go_enter Try.func3, Try.ntmps3
    go_wp2_with (first | (go_at_call 9; refine (awake_any _).mono ?_; rintro e w' ⟨rfl, hb⟩))
    go_ret
    exact ⟨rfl, hb⟩
  by_cases h2 : 200 < len1
  · go_enter Try.func3, Try.ntmps3
    go_wp2_with (first | (go_at_call 9; refine (awake_any _).mono ?_; rintro e w' ⟨rfl, hb⟩))
    go_ret
    exact ⟨rfl, hb⟩
  by_cases h3 : 1099511627776 < a2
  · go_enter Try.func3, Try.ntmps3
    go_wp2_with (first | (go_at_call 9; refine (awake_any _).mono ?_; rintro e w' ⟨rfl, hb⟩))
    go_ret
    exact ⟨rfl, hb⟩
  have q0 : len0 ≤ 2000 := by omega
  have q1 : len1 ≤ 200 := by omega
  have q2 : a2 ≤ 1099511627776 := by omega
  clear h1 h2 h3
  by_cases hok : bytesOk L1 a2
  · obtain ⟨m, rfl⟩ := Int.eq_ofNat_of_zero_le hok.1
    have HOK : Hid (bytesOk L1 (m : Int)) := hok
    clear hok
    have HVW0 := HVW
    rcases HVW0 with ⟨hL0, ao, cap, hv, hn, hcm⟩ | ⟨hz, b1, off1, cap, hv, h1, h2, hb1l, h4⟩
    · have HL0 : Hid ((len1 : Int) ≤ 0) := by unfold Hid; rw [← hm1, hL0]; simp
      clear hL0 hv hn hcm
      have HW0 : Hid (Vw w.heap.size w .u64 (.slice a1 len1 cap1) L1) := HVW.out
      have hce := conv_empty
      go_enter Try.func3, Try.ntmps3
      go_wp2_with (first
        | (go_at_call 10; refine (bytes_ok _ L1 m _ HW0.out HWI.out (by omega) HOK.out).mono ?_; rintro e w1 ⟨v1, rfl, hr1, hb1⟩; have hs1 := hb1.size; have HW1 : Hid (Vw w1.heap.size w1 .u64 (.slice a1 len1 cap1) L1) := (HW0.out.below hb1).mono hs1; have HR1 : Hid (Row w1 w.heap.size .u8 5 v1 (bytesUpto L1 m)) := hr1; clear hr1)
        | (go_at_call 11; refine (rbytes_good _ L1 m _ HW1.out HWI.out (by omega) HOK.out).mono ?_; rintro e w2 ⟨v2, rfl, hr2, hb2⟩; have hc1 := conv_view ((row_view HR1.out).below hb2); have hc2 := conv_view (row_view hr2); have hW2 : Below w.heap.size w w2 := hb1.trans (hb2.mono hs1); have hs2 := hW2.size; clear hr2 HR1 hb1 hb2)
        | (go_at_call 12; refine (code_nil _).mono ?_; rintro e w2' ⟨rfl, hx⟩; have hx := hx.symm; subst hx)
        | (go_at_call 14; refine (words_view _ L0 _ ((HVB.out.below hW2).mono hs2) HBB.out (by omega)).mono ?_; rintro e w3 ⟨v3, rfl, hr3, hb3⟩; have hs3 := hb3.size; have hW3 : Below w.heap.size w w3 := hW2.trans (hb3.mono hs2); have HR3 : Hid (Row w3 w2.heap.size .u64 34 v3 (wordsOf L0)) := hr3; clear hr3)
        | (go_at_call 15; refine (rwords_view _ L0 _ ((HVB.out.below hW3).mono hW3.size) HBB.out (by omega)).mono ?_; rintro e w4 ⟨v4, rfl, hr4, hb4⟩; have hW4 : Below w.heap.size w w4 := hW3.trans (hb4.mono hW3.size); have HR4 : Hid (Row w4 w3.heap.size .u64 34 v4 (wordsOf L0)) := hr4; clear hr4)
        | (go_at_call 13; refine (r9_view _ _ _ _ (wordsOf L0) _ ((row_view HR3.out).below hb4) (row_view HR4.out) (by rw [wordsOf_len]; omega)).mono ?_; rintro e w5 ⟨rfl, n5, h5⟩; have hW5 : Below w.heap.size w w5 := (by rw [h5]; exact below_drewN hW4 n5); clear h5 HR3 HR4 hW4 hb4 hW3 hb3 hW2))
      refine wp_loop_rounds 1 ?_
      rw [rounds_succ]
      have hl0 := HL0.out
      go_wp2_with (first
        | (go_at_call 9; refine (awake_any _).mono ?_; rintro e w6 ⟨rfl, hb6⟩))
      go_ret
      exact ⟨rfl, hW5.trans (hb6.mono hW5.size)⟩
    · injection hv with e1 e2 e3
      subst e1
      have HC1 : Hid (∀ i, i < L1.length → w.cell? ⟨b1, off1 + i, none⟩ = some (.int .u64 (L1.getD i 0))) := h4
      clear h4 e2 e3 h1 h2
      have HW0 : Hid (Vw w.heap.size w .u64 (.slice (some ⟨b1, off1, none⟩) len1 cap1) L1) := HVW.out
      have hce := conv_empty
      go_enter Try.func3, Try.ntmps3
      go_wp2_with (first
        | (go_at_call 10; refine (bytes_ok _ L1 m _ HW0.out HWI.out (by omega) HOK.out).mono ?_; rintro e w1 ⟨v1, rfl, hr1, hb1⟩; have hs1 := hb1.size; have HW1 : Hid (Vw w1.heap.size w1 .u64 (.slice (some ⟨b1, off1, none⟩) len1 cap1) L1) := (HW0.out.below hb1).mono hs1; have HR1 : Hid (Row w1 w.heap.size .u8 5 v1 (bytesUpto L1 m)) := hr1; clear hr1)
        | (go_at_call 11; refine (rbytes_good _ L1 m _ HW1.out HWI.out (by omega) HOK.out).mono ?_; rintro e w2 ⟨v2, rfl, hr2, hb2⟩; have hc1 := conv_view ((row_view HR1.out).below hb2); have hc2 := conv_view (row_view hr2); have hW2 : Below w.heap.size w w2 := hb1.trans (hb2.mono hs1); have hs2 := hW2.size; clear hr2 HR1 hb1 hb2)
        | (go_at_call 12; refine (code_nil _).mono ?_; rintro e w2' ⟨rfl, hx⟩; have hx := hx.symm; subst hx)
        | (go_at_call 14; refine (words_view _ L0 _ ((HVB.out.below hW2).mono hs2) HBB.out (by omega)).mono ?_; rintro e w3 ⟨v3, rfl, hr3, hb3⟩; have hs3 := hb3.size; have hW3 : Below w.heap.size w w3 := hW2.trans (hb3.mono hs2); have HR3 : Hid (Row w3 w2.heap.size .u64 34 v3 (wordsOf L0)) := hr3; clear hr3)
        | (go_at_call 15; refine (rwords_view _ L0 _ ((HVB.out.below hW3).mono hW3.size) HBB.out (by omega)).mono ?_; rintro e w4 ⟨v4, rfl, hr4, hb4⟩; have hW4 : Below w.heap.size w w4 := hW3.trans (hb4.mono hW3.size); have HR4 : Hid (Row w4 w3.heap.size .u64 34 v4 (wordsOf L0)) := hr4; clear hr4)
        | (go_at_call 13; refine (r9_view _ _ _ _ (wordsOf L0) _ ((row_view HR3.out).below hb4) (row_view HR4.out) (by rw [wordsOf_len]; omega)).mono ?_; rintro e w5 ⟨rfl, n5, h5⟩; have hW5 : Below w.heap.size w w5 := (by rw [h5]; exact below_drewN hW4 n5); clear h5 HR3 HR4 hW4 hb4 hW3 hb3 hW2))
      have HCW : Hid (∀ i, i < len1 → w5.cell? ⟨b1, off1 + i, none⟩ = some (.int .u64 (L1.getD i 0))) := fun i hi => (hW5.cell (by exact hb1l)).trans (HC1.out i (by omega))
      go_loopw [11] (fun i wr => ∃ k j : Nat, k ≤ len1 ∧ i = .int .i64 k ∧ wr = w5.drewN j) (fun i _ => len1 - (intOf i).toNat)
      case atStart => exact ⟨0, 0, by omega, rfl, rfl⟩
      case round =>
        obtain ⟨k, j, hk, rfl, rfl⟩ := hrel
        by_cases hlt : k < len1
        · have hcell := HCW.out k hlt
          have hzb := wordsIn_get HWI.out (show k < L1.length by omega)
          generalize L1.getD k 0 = z at hcell hzb
          obtain ⟨z0', z1'⟩ := hzb
          go_wp2
          go_quiet ((first | (go_at_call 16; exact (turn_any z _ z0' z1').mono fun e w' h => ⟨h.1, _, h.2⟩) | (go_at_call 17; exact (rturn_any z _ z0' z1').mono fun e w' h => ⟨h.1, _, h.2⟩)))
          go_wp2
          go_roundw
          case rel => exact ⟨k + 1, j + nq, by omega, by go_num, rfl⟩
          case measure => simp [intOf]; omega
        · obtain rfl : k = len1 := by omega
          go_wp2_with (first
            | (go_at_call 9; refine (awake_any _).mono ?_; rintro e w6 ⟨rfl, hb6⟩))
          go_ret
          exact ⟨rfl, (below_drewN hW5 j).trans (hb6.mono hW5.size)⟩
  · have HOK : Hid (¬ bytesOk L1 a2) := hok
    clear hok
    have HVW0 := HVW
    rcases HVW0 with ⟨hL0, ao, cap, hv, hn, hcm⟩ | ⟨hz, b1, off1, cap, hv, h1, h2, hb1l, h4⟩
    · have HL0 : Hid ((len1 : Int) ≤ 0) := by unfold Hid; rw [← hm1, hL0]; simp
      clear hL0 hv hn hcm
      have HW0 : Hid (Vw w.heap.size w .u64 (.slice a1 len1 cap1) L1) := HVW.out
      have hce := conv_empty
      go_enter Try.func3, Try.ntmps3
      go_wp2_with (first
        | (go_at_call 10; refine (bytes_bad _ L1 a2 w _ HW0.out (by omega) r0 r1 HOK.out).mono ?_; rintro e w1 ⟨rfl, hx⟩; have hx := hx.symm; subst hx)
        | (go_at_call 11; refine (rbytes_bad _ L1 a2 _ HW0.out HWI.out (by omega) r0 (by omega) HOK.out).mono ?_; rintro e w2 ⟨rfl, hW2⟩; have hs2 := hW2.size)
        | (go_at_call 12; refine (code_bad _).mono ?_; rintro e w2' ⟨rfl, hx⟩; have hx := hx.symm; subst hx)
        | (go_at_call 14; refine (words_view _ L0 _ ((HVB.out.below hW2).mono hs2) HBB.out (by omega)).mono ?_; rintro e w3 ⟨v3, rfl, hr3, hb3⟩; have hs3 := hb3.size; have hW3 : Below w.heap.size w w3 := hW2.trans (hb3.mono hs2); have HR3 : Hid (Row w3 w2.heap.size .u64 34 v3 (wordsOf L0)) := hr3; clear hr3)
        | (go_at_call 15; refine (rwords_view _ L0 _ ((HVB.out.below hW3).mono hW3.size) HBB.out (by omega)).mono ?_; rintro e w4 ⟨v4, rfl, hr4, hb4⟩; have hW4 : Below w.heap.size w w4 := hW3.trans (hb4.mono hW3.size); have HR4 : Hid (Row w4 w3.heap.size .u64 34 v4 (wordsOf L0)) := hr4; clear hr4)
        | (go_at_call 13; refine (r9_view _ _ _ _ (wordsOf L0) _ ((row_view HR3.out).below hb4) (row_view HR4.out) (by rw [wordsOf_len]; omega)).mono ?_; rintro e w5 ⟨rfl, n5, h5⟩; have hW5 : Below w.heap.size w w5 := (by rw [h5]; exact below_drewN hW4 n5); clear h5 HR3 HR4 hW4 hb4 hW3 hb3 hW2))
      refine wp_loop_rounds 1 ?_
      rw [rounds_succ]
      have hl0 := HL0.out
      go_wp2_with (first
        | (go_at_call 9; refine (awake_any _).mono ?_; rintro e w6 ⟨rfl, hb6⟩))
      go_ret
      exact ⟨rfl, hW5.trans (hb6.mono hW5.size)⟩
    · injection hv with e1 e2 e3
      subst e1
      have HC1 : Hid (∀ i, i < L1.length → w.cell? ⟨b1, off1 + i, none⟩ = some (.int .u64 (L1.getD i 0))) := h4
      clear h4 e2 e3 h1 h2
      have HW0 : Hid (Vw w.heap.size w .u64 (.slice (some ⟨b1, off1, none⟩) len1 cap1) L1) := HVW.out
      have hce := conv_empty
      go_enter Try.func3, Try.ntmps3
      go_wp2_with (first
        | (go_at_call 10; refine (bytes_bad _ L1 a2 w _ HW0.out (by omega) r0 r1 HOK.out).mono ?_; rintro e w1 ⟨rfl, hx⟩; have hx := hx.symm; subst hx)
        | (go_at_call 11; refine (rbytes_bad _ L1 a2 _ HW0.out HWI.out (by omega) r0 (by omega) HOK.out).mono ?_; rintro e w2 ⟨rfl, hW2⟩; have hs2 := hW2.size)
        | (go_at_call 12; refine (code_bad _).mono ?_; rintro e w2' ⟨rfl, hx⟩; have hx := hx.symm; subst hx)
        | (go_at_call 14; refine (words_view _ L0 _ ((HVB.out.below hW2).mono hs2) HBB.out (by omega)).mono ?_; rintro e w3 ⟨v3, rfl, hr3, hb3⟩; have hs3 := hb3.size; have hW3 : Below w.heap.size w w3 := hW2.trans (hb3.mono hs2); have HR3 : Hid (Row w3 w2.heap.size .u64 34 v3 (wordsOf L0)) := hr3; clear hr3)
        | (go_at_call 15; refine (rwords_view _ L0 _ ((HVB.out.below hW3).mono hW3.size) HBB.out (by omega)).mono ?_; rintro e w4 ⟨v4, rfl, hr4, hb4⟩; have hW4 : Below w.heap.size w w4 := hW3.trans (hb4.mono hW3.size); have HR4 : Hid (Row w4 w3.heap.size .u64 34 v4 (wordsOf L0)) := hr4; clear hr4)
        | (go_at_call 13; refine (r9_view _ _ _ _ (wordsOf L0) _ ((row_view HR3.out).below hb4) (row_view HR4.out) (by rw [wordsOf_len]; omega)).mono ?_; rintro e w5 ⟨rfl, n5, h5⟩; have hW5 : Below w.heap.size w w5 := (by rw [h5]; exact below_drewN hW4 n5); clear h5 HR3 HR4 hW4 hb4 hW3 hb3 hW2))
      have HCW : Hid (∀ i, i < len1 → w5.cell? ⟨b1, off1 + i, none⟩ = some (.int .u64 (L1.getD i 0))) := fun i hi => (hW5.cell (by exact hb1l)).trans (HC1.out i (by omega))
      go_loopw [11] (fun i wr => ∃ k j : Nat, k ≤ len1 ∧ i = .int .i64 k ∧ wr = w5.drewN j) (fun i _ => len1 - (intOf i).toNat)
      case atStart => exact ⟨0, 0, by omega, rfl, rfl⟩
      case round =>
        obtain ⟨k, j, hk, rfl, rfl⟩ := hrel
        by_cases hlt : k < len1
        · have hcell := HCW.out k hlt
          have hzb := wordsIn_get HWI.out (show k < L1.length by omega)
          generalize L1.getD k 0 = z at hcell hzb
          obtain ⟨z0', z1'⟩ := hzb
          go_wp2
          go_quiet ((first | (go_at_call 16; exact (turn_any z _ z0' z1').mono fun e w' h => ⟨h.1, _, h.2⟩) | (go_at_call 17; exact (rturn_any z _ z0' z1').mono fun e w' h => ⟨h.1, _, h.2⟩)))
          go_wp2
          go_roundw
          case rel => exact ⟨k + 1, j + nq, by omega, by go_num, rfl⟩
          case measure => simp [intOf]; omega
        · obtain rfl : k = len1 := by omega
          go_wp2_with (first
            | (go_at_call 9; refine (awake_any _).mono ?_; rintro e w6 ⟨rfl, hb6⟩))
          go_ret
          exact ⟨rfl, (below_drewN hW5 j).trans (hb6.mono hW5.size)⟩

/-! THE ROW's STEP -/
set_option maxRecDepth 100000 in
theorem lifted (os : Os) (started : os.Started) (H : Type) (enc : TypeId × Value → H) :
    ReturnsInHanded {} Try.checked os 3 .any (Rows.bitsAsksSpec.pre6 enc Try.prog Try.f3 Rows.bitsAsksRow.domain false) (Rows.bitsAsksSpec.post enc Try.prog Try.f3 false true false false) := by
  refine returnsInHanded_of_change (C := Try.checked) own started (by kernel_rfl) Try.func3
    (ChangeSpec.witness6 (enc := enc) (C := Try.checked) false ⟨#[], #[.slice none 0 0, .slice none 0 0, .int .i64 0], []⟩ 8 (by kernel_rfl) (by kernel_rfl) (by kernel_rfl) (by kernel_rfl)) ?_
  intro W base args ds gs before hval0 hW hcnd _
  have hval : ∀ (j : Nat) t v, Try.f3.params[j]? = some t → args[j]? = some v → Value.okWide Try.prog W .any base t v := hval0
  have hW' := hW
  obtain ⟨p, q, hA0, hV, rfl, hfz, hnd⟩ := hW
  have hA : DataW.TrodAll enc Try.prog W 0 (fun _ => true) true Try.f3.params.toList args.toList ds p := hA0
  rw [Try.params3] at hA hval
  obtain ⟨v0, vs0, d0, ds0, p0, q0, hargs, rfl, rfl, h0, r0⟩ := trodAll_cons hA
  obtain ⟨v1, vs1, d1, ds1, p1, q1, rfl, rfl, rfl, h1, r1⟩ := trodAll_cons r0
  obtain ⟨v2, vs2, d2, ds2, p2, q2, rfl, rfl, rfl, h2, r2⟩ := trodAll_cons r1
  obtain ⟨rfl, rfl, rfl⟩ := trodAll_nil r2
  obtain rfl : args = #[v0, v1, v2] := by cases args; simp_all
  obtain ⟨rfl, rfl⟩ := trodVars_none hV
  obtain ⟨a0, len0, cap0, rfl⟩ := okWide_slice Try.underlying22 (hval 0 22 v0 rfl rfl)
  have k0 := h0
  have lt0 : ∀ x ∈ p0, x.block < W.heap.size := by obtain ⟨m, hm⟩ := k0; exact DataW.trod_lt m _ _ _ hm
  obtain ⟨z0, w0⟩ : ∃ zs, IsRow .u8 W a0 len0 cap0 zs := by
    obtain ⟨fuel, hf⟩ := h0
    rcases open_ints Try.underlying22 Try.underlying5 (by kernel_rfl) hf with ⟨hcs, _⟩ | ⟨x, l, c, zs, hcs, _, hl, hm, hz, _, hcell, hwz⟩
    · simp [Value.cells] at hcs
      obtain ⟨rfl, rfl, rfl⟩ := hcs
      exact ⟨[], .inl ⟨rfl, rfl, rfl, rfl⟩⟩
    · simp [Value.cells] at hcs
      obtain ⟨rfl, rfl, rfl⟩ := hcs
      exact ⟨zs, .inr ⟨_, rfl, hl, hm, by simpa using hz, hcell, hwz⟩⟩
  obtain ⟨a1, len1, cap1, rfl⟩ := okWide_slice Try.underlying23 (hval 1 23 v1 rfl rfl)
  have k1 := h1
  have lt1 : ∀ x ∈ p1, x.block < W.heap.size := by obtain ⟨m, hm⟩ := k1; exact DataW.trod_lt m _ _ _ hm
  obtain ⟨z1, w1⟩ : ∃ zs, IsRow .u64 W a1 len1 cap1 zs := by
    obtain ⟨fuel, hf⟩ := h1
    rcases open_ints Try.underlying23 Try.underlying34 (by kernel_rfl) hf with ⟨hcs, _⟩ | ⟨x, l, c, zs, hcs, _, hl, hm, hz, _, hcell, hwz⟩
    · simp [Value.cells] at hcs
      obtain ⟨rfl, rfl, rfl⟩ := hcs
      exact ⟨[], .inl ⟨rfl, rfl, rfl, rfl⟩⟩
    · simp [Value.cells] at hcs
      obtain ⟨rfl, rfl, rfl⟩ := hcs
      exact ⟨zs, .inr ⟨_, rfl, hl, hm, by simpa using hz, hcell, hwz⟩⟩
  obtain ⟨a2, rfl, rfl, rfl, w2⟩ := open_int Try.underlying3 (hval 2 3 v2 rfl rfl) h2
  clear hA0 hval0
  refine (walk a0 len0 cap0 z0 a1 len1 cap1 z1 a2 W w0 w1 w2).mono fun e W' ⟨he, bel⟩ => ?_
  subst he
  exact ⟨_, rfl, _, _, _, [], _, [], hW', trodAll_mk1 (shut_bool Try.underlying4 _), (trodAll_cons_mk (Below.trod laidOut (by kernel_rfl) (of_decide_eq_true (by kernel_rfl)) k0 bel lt0) (trodAll_cons_mk (Below.trod laidOut (by kernel_rfl) (of_decide_eq_true (by kernel_rfl)) k1 bel lt1) (trodAll_cons_mk (shut_int Try.underlying3 w2) trodAll_mk0))), rfl, bel.frame _, fun h => by cases h⟩

theorem over : Rows.bitsAsksRow.holds Try.pinned (OpenSpec.ofChange Rows.bitsAsksSpec) :=
  OpenClaim.holds_of_wide 3 Try.f3 rfl rfl rfl rfl rfl rfl rfl ⟨rfl, rfl, rfl, rfl, rfl⟩ rfl rfl rfl rfl rfl (by kernel_rfl) Try.func3 (by kernel_rfl)
    (of_decide_eq_true (by kernel_rfl)) (by unfold Func.isWrapper; first | (rw [if_pos (by decide +kernel)]; kernel_rfl) | (rw [if_neg (by decide +kernel)]; exact ⟨rfl, rfl⟩))
    (fun os started H enc _ => lifted os started H enc)

/-- The statement, by the row. -/
theorem proved : Rows.BitsAsksSaid := over
end Go.Proofs.Ytgkfbnjccfoaiaa.bitsAsks

namespace Go.Proofs.Ytgkfbnjccfoaiaa
/-- THE STATEMENT. -/
theorem bitsAsks_holds : Rows.BitsAsksSaid := bitsAsks.proved
#print axioms bitsAsks_holds
end Go.Proofs.Ytgkfbnjccfoaiaa
