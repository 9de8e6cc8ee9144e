/-
  Proved here: for every value, text, bytes behind and cut the law BitsTexts returns true and leaves its arguments as they were: a varint, a text is read as it was laid, whatever stands behind; no beginning of it is one. No condition.
-/
import Derived.Test.YtgkfbnjccfoaiaaRows
import Derived.Test.YtgkfbnjccfoaiaaArgs
import Derived.WalkKit
import Derived.ProofKit
import Derived.OpenShut
import Derived.ShutString
import Derived.ChangeOld
import Derived.Below
namespace Go.Proofs.Ytgkfbnjccfoaiaa.bitsTexts
open Go.ChangeShapes Go.WideShapes Go.ChangeAt Go.RowKit
open Go.ChangeMaps (open_string shut_string)
set_option linter.unusedVariables false

theorem own : ownKnob Try.prog.godebug = none := by kernel_rfl
theorem laidOut : laidOutB Try.prog = true := by kernel_rfl

set_option maxHeartbeats 4000000 in
theorem walk (a0 : Int) (a1 : ByteArray) (a2 : Option Addr) (len2 cap2 : Nat) (z2 : List Int) (a3 : Int) (w : World) (w0 : (Lit.int .u64 a0).wf = true) (w1 : a1.size ≤ maxLen) (w2 : IsRow .u8 w a2 len2 cap2 z2) (w3 : (Lit.int .i64 a3).wf = true) :
    Calls Try.prog 6 #[.int .u64 a0, .string a1, .slice a2 len2 cap2, .int .i64 a3] w fun e w' => e = .returned (.bool true) ∧ Below w.heap.size w w' := by
  have x0 : 0 ≤ a0 ∧ a0 < 18446744073709551616 := by have := bounds_u64 w0; omega
  have x3 : -9223372036854775808 ≤ a3 ∧ a3 ≤ 9223372036854775807 := by have := bounds_i64 w3; omega
  obtain ⟨p0, p1⟩ := x0
  obtain ⟨r0, r1⟩ := x3
  obtain ⟨hl1, hl2, hl3⟩ := isRow_len w2
  unfold maxLen at w1 hl3
  have hlen2 : (len2 : Int) ≤ 9223372036854775807 := by omega
  have hlen1 : (a1.size : Int) ≤ 9223372036854775807 := by omega
  have HVB : Hid (Vw w.heap.size w .u8 (.slice a2 len2 cap2) (z2.take len2)) := isRow_view w2
  have HBB : Hid (bytesIn (z2.take len2)) := isRow_bytes w2
  generalize hL : z2.take len2 = L at *
  clear w0 w3 w1 w2 hl2 hl3 hL
  by_cases hs : 2000 < a1.size
  · go_enter Try.func6, Try.ntmps6
    go_wp2_with (first | (go_at_call 9; refine (awake_any _).mono ?_; rintro e w' ⟨rfl, hb⟩))
    go_ret
    exact ⟨rfl, hb⟩
  by_cases hb2 : 100 < len2
  · go_enter Try.func6, Try.ntmps6
    go_wp2_with (first | (go_at_call 9; refine (awake_any _).mono ?_; rintro e w' ⟨rfl, hb⟩))
    go_ret
    exact ⟨rfl, hb⟩
  have hp0 := vint_pos a0
  have ht0 := vint_ten p1
  have htl := textOf_len a1
  have hps := vint_pos (a1.size : Int)
  have hts := vint_ten (v := (a1.size : Int)) (by omega)
  have htp : 0 < (textOf a1).length := by omega
  have htm : (textOf a1).length ≤ 3000 := by omega
  clear htl hps hts
  go_enter Try.func6, Try.ntmps6
  go_wp2_with (first
    | (go_at_call 22; refine (varint_any a0 _ p0 p1).mono ?_; rintro e w1 ⟨v1, rfl, hr1, hb1⟩; obtain ⟨g1, cap1, rfl, hg1, hgl1, hc1, hm1, hce1⟩ := row_form hr1 hp0; have HR1 : Hid (Row w1 w.heap.size .u8 5 (.slice (some ⟨g1, 0, none⟩) (vint a0).length cap1) (vint a0)) := hr1; have hs1 := hb1.size; clear hr1 hce1)
    | (at_builtin; refine wpList_app rfl (.tmp 33) (.tmp 34) rfl w1.heap.size _ [] rfl (row_empty w1 w1.heap.size (Nat.le_refl _)) w1.heap.size _ (vint a0) rfl ((row_view HR1.out).below ((Below.refl _ _).alloc (Nat.le_refl _) _)) (by simp; omega) (by simp) ?_; intro v2 w2 hr2 hb2; simp only [List.nil_append] at hr2; have HR2 : Hid (Row w2 w1.heap.size .u8 5 v2 (vint a0)) := hr2; have hs2 : w1.heap.size + 1 ≤ w2.heap.size := (by have := hb2.size; simpa using this); have hb12 : Below w1.heap.size w1 w2 := ((Below.refl _ _).alloc (Nat.le_refl _) _).trans hb2; clear hr2 hb2)
    | (at_builtin; refine wpList_app rfl (.tmp 35) (.tmp 36) rfl w1.heap.size _ (vint a0) rfl HR2.out w.heap.size _ L rfl (HVB.out.below (hb1.trans (hb12.mono hs1))) (by omega) (by omega) ?_; intro v3 w3 hr3 hb3; have HR3 : Hid (Row w3 w1.heap.size .u8 5 v3 (vint a0 ++ L)) := hr3; have hb13 : Below w1.heap.size w1 w3 := hb12.trans hb3; have hs3 := hb13.size; clear hr3 hb3))
  go_at_call 18
  refine (unv_view _ _ _ _ (row_view HR3.out) (bytesIn_append (bytesIn_vint a0 p0) HBB.out)).mono ?_
  rw [vval_vint a0 p0 p1, vlen_vint a0 p0 p1]
  rintro e w3' ⟨rfl, rfl⟩
  have hW3 : Below w.heap.size w w3' := hb1.trans (hb13.mono hs1)
  have hs03 := hW3.size
  clear HR3 HR2 hb12 hs2
  go_wp2_with (first
    | (go_at_call 24; refine (text_any a1 _ (by omega)).mono ?_; rintro e w4 ⟨v4, rfl, hr4, hb4⟩; obtain ⟨g4, cap4, rfl, hg4, hgl4, hc4, hm4, hce4⟩ := row_form hr4 htp; have HR4 : Hid (Row w4 w3'.heap.size .u8 5 (.slice (some ⟨g4, 0, none⟩) (textOf a1).length cap4) (textOf a1)) := hr4; have hs4 := hb4.size; have hW4 : Below w.heap.size w w4 := hW3.trans (hb4.mono hs03); have hb14 : Below w1.heap.size w1 w4 := hb13.trans (hb4.mono hs3); clear hr4 hce4)
    | (at_builtin; refine wpList_app rfl (.tmp 44) (.tmp 45) rfl w4.heap.size _ [] rfl (row_empty w4 w4.heap.size (Nat.le_refl _)) w4.heap.size _ (textOf a1) rfl ((row_view HR4.out).below ((Below.refl _ _).alloc (Nat.le_refl _) _)) (by simp; omega) (by simp) ?_; intro v5 w5 hr5 hb5; simp only [List.nil_append] at hr5; have HR5 : Hid (Row w5 w4.heap.size .u8 5 v5 (textOf a1)) := hr5; have hs5 : w4.heap.size + 1 ≤ w5.heap.size := (by have := hb5.size; simpa using this); have hb45 : Below w4.heap.size w4 w5 := ((Below.refl _ _).alloc (Nat.le_refl _) _).trans hb5; clear hr5 hb5)
    | (at_builtin; refine wpList_app rfl (.tmp 46) (.tmp 47) rfl w4.heap.size _ (textOf a1) rfl HR5.out w.heap.size _ L rfl (HVB.out.below (hW4.trans (hb45.mono hW4.size))) (by omega) (by omega) ?_; intro v6 w6 hr6 hb6; have HR6 : Hid (Row w6 w4.heap.size .u8 5 v6 (textOf a1 ++ L)) := hr6; have hb46 : Below w4.heap.size w4 w6 := hb45.trans hb6; clear hr6 hb6))
  go_at_call 20
  refine (untext_text _ _ a1 L _ (row_view HR6.out) HBB.out (by omega)).mono ?_
  rintro e w6' ⟨rfl, rfl⟩
  have hW6 : Below w.heap.size w w6' := hW4.trans (hb46.mono hW4.size)
  have hb16 : Below w1.heap.size w1 w6' := hb14.trans (hb46.mono hb14.size)
  have HV1 : Hid (Vw w1.heap.size w6' .u8 (.slice (some ⟨g1, 0, none⟩) (vint a0).length cap1) (vint a0)) := (row_view HR1.out).below hb16
  have HV4 : Hid (Vw w4.heap.size w6' .u8 (.slice (some ⟨g4, 0, none⟩) (textOf a1).length cap4) (textOf a1)) := (row_view HR4.out).below hb46
  clear HR6 HR5 HR4 HR1 hb45 hs5 hb46 hb16 hb14
  have hz1 : (((vint a0).length : Int) == 0) = false := beq_eq_false_iff_ne.2 (by omega)
  have hz2 : (((textOf a1).length : Int) == 0) = false := beq_eq_false_iff_ne.2 (by omega)
  have hk1 : roundOf a3 (vint a0).length < (vint a0).length := round_lt a3 _ (by omega)
  have hk2 : roundOf a3 (textOf a1).length < (textOf a1).length := round_lt a3 _ (by omega)
  unfold maxLen at hm1 hm4
  have hm1' : (cap1 : Int) ≤ 9223372036854775807 := by omega
  have hm4' : (cap4 : Int) ≤ 9223372036854775807 := by omega
  clear hm1 hm4
  go_wp2_with (first
    | (go_at_call 26; refine (round_any a3 _ _ r0 r1 (by omega) (by omega)).mono ?_; rintro e w7 ⟨rfl, rfl⟩))
  go_at_call 18
  refine (unv_view _ _ _ _ (HV1.out.cut _ (by omega)) (bytesIn_take (bytesIn_vint a0 p0) _)).mono ?_
  rw [vlen_cut a0 p0 _ hk1]
  rintro e w8 ⟨rfl, rfl⟩
  go_wp2_with (first
    | (go_at_call 26; refine (round_any a3 _ _ r0 r1 (by omega) (by omega)).mono ?_; rintro e w9 ⟨rfl, rfl⟩))
  go_at_call 20
  refine (untext_cut _ _ a1 _ _ hk2 (HV4.out.cut _ (by omega)) (by omega)).mono ?_
  rintro e w10 ⟨rfl, rfl⟩
  go_wp2_with (first
    | (go_at_call 12; refine (code_bad _).mono ?_; rintro e w11 ⟨rfl, rfl⟩)
    | (go_at_call 9; refine (awake_any _).mono ?_; rintro e w12 ⟨rfl, hb12⟩))
  go_ret
  exact ⟨rfl, hW6.trans (hb12.mono hW6.size)⟩

/-! THE ROW's STEP -/
set_option maxRecDepth 100000 in
theorem lifted (os : Os) (started : os.Started) (H : Type) (enc : TypeId × Value → H) :
    ReturnsInHanded {} Try.checked os 6 .any (Rows.bitsTextsSpec.pre6 enc Try.prog Try.f6 Rows.bitsTextsRow.domain false) (Rows.bitsTextsSpec.post enc Try.prog Try.f6 false true false false) := by
  refine returnsInHanded_of_change (C := Try.checked) own started (by kernel_rfl) Try.func6
    (ChangeSpec.witness6 (enc := enc) (C := Try.checked) false ⟨#[], #[.int .u64 0, .string ByteArray.empty, .slice none 0 0, .int .i64 0], []⟩ 8 (by kernel_rfl) (by kernel_rfl) (by kernel_rfl) (by kernel_rfl)) ?_
  intro W base args ds gs before hval0 hW hcnd _
  have hval : ∀ (j : Nat) t v, Try.f6.params[j]? = some t → args[j]? = some v → Value.okWide Try.prog W .any base t v := hval0
  have hW' := hW
  obtain ⟨p, q, hA0, hV, rfl, hfz, hnd⟩ := hW
  have hA : DataW.TrodAll enc Try.prog W 0 (fun _ => true) true Try.f6.params.toList args.toList ds p := hA0
  rw [Try.params6] at hA hval
  obtain ⟨v0, vs0, d0, ds0, p0, q0, hargs, rfl, rfl, h0, r0⟩ := trodAll_cons hA
  obtain ⟨v1, vs1, d1, ds1, p1, q1, rfl, rfl, rfl, h1, r1⟩ := trodAll_cons r0
  obtain ⟨v2, vs2, d2, ds2, p2, q2, rfl, rfl, rfl, h2, r2⟩ := trodAll_cons r1
  obtain ⟨v3, vs3, d3, ds3, p3, q3, rfl, rfl, rfl, h3, r3⟩ := trodAll_cons r2
  obtain ⟨rfl, rfl, rfl⟩ := trodAll_nil r3
  obtain rfl : args = #[v0, v1, v2, v3] := by cases args; simp_all
  obtain ⟨rfl, rfl⟩ := trodVars_none hV
  obtain ⟨a0, rfl, rfl, rfl, w0⟩ := open_int Try.underlying34 (hval 0 34 v0 rfl rfl) h0
  obtain ⟨a1, rfl, rfl, rfl, w1⟩ := open_string Try.underlying9 (hval 1 9 v1 rfl rfl) h1
  obtain ⟨a2, len2, cap2, rfl⟩ := okWide_slice Try.underlying22 (hval 2 22 v2 rfl rfl)
  have k2 := h2
  have lt2 : ∀ x ∈ p2, x.block < W.heap.size := by obtain ⟨m, hm⟩ := k2; exact DataW.trod_lt m _ _ _ hm
  obtain ⟨z2, w2⟩ : ∃ zs, IsRow .u8 W a2 len2 cap2 zs := by
    obtain ⟨fuel, hf⟩ := h2
    rcases open_ints Try.underlying22 Try.underlying5 (by kernel_rfl) hf with ⟨hcs, _⟩ | ⟨x, l, c, zs, hcs, _, hl, hm, hz, _, hcell, hwz⟩
    · simp [Value.cells] at hcs
      obtain ⟨rfl, rfl, rfl⟩ := hcs
      exact ⟨[], .inl ⟨rfl, rfl, rfl, rfl⟩⟩
    · simp [Value.cells] at hcs
      obtain ⟨rfl, rfl, rfl⟩ := hcs
      exact ⟨zs, .inr ⟨_, rfl, hl, hm, by simpa using hz, hcell, hwz⟩⟩
  obtain ⟨a3, rfl, rfl, rfl, w3⟩ := open_int Try.underlying3 (hval 3 3 v3 rfl rfl) h3
  clear hA0 hval0
  refine (walk a0 a1 a2 len2 cap2 z2 a3 W w0 w1 w2 w3).mono fun e W' ⟨he, bel⟩ => ?_
  subst he
  exact ⟨_, rfl, _, _, _, [], _, [], hW', trodAll_mk1 (shut_bool Try.underlying4 _), (trodAll_cons_mk (shut_int Try.underlying34 w0) (trodAll_cons_mk (shut_string Try.underlying9 w1) (trodAll_cons_mk (Below.trod laidOut (by kernel_rfl) (of_decide_eq_true (by kernel_rfl)) k2 bel lt2) (trodAll_cons_mk (shut_int Try.underlying3 w3) trodAll_mk0)))), rfl, bel.frame _, fun h => by cases h⟩

theorem over : Rows.bitsTextsRow.holds Try.pinned (OpenSpec.ofChange Rows.bitsTextsSpec) :=
  OpenClaim.holds_of_wide 6 Try.f6 rfl rfl rfl rfl rfl rfl rfl ⟨rfl, rfl, rfl, rfl, rfl⟩ rfl rfl rfl rfl rfl (by kernel_rfl) Try.func6 (by kernel_rfl)
    (of_decide_eq_true (by kernel_rfl)) (by unfold Func.isWrapper; first | (rw [if_pos (by decide +kernel)]; kernel_rfl) | (rw [if_neg (by decide +kernel)]; exact ⟨rfl, rfl⟩))
    (fun os started H enc _ => lifted os started H enc)

/-- The statement, by the row. -/
theorem proved : Rows.BitsTextsSaid := over
end Go.Proofs.Ytgkfbnjccfoaiaa.bitsTexts

namespace Go.Proofs.Ytgkfbnjccfoaiaa
/-- THE STATEMENT. -/
theorem bitsTexts_holds : Rows.BitsTextsSaid := bitsTexts.proved
#print axioms bitsTexts_holds
end Go.Proofs.Ytgkfbnjccfoaiaa
