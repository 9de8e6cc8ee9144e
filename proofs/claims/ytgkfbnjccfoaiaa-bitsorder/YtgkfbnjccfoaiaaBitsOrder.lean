/-
  Proved here: for every two values the law BitsOrder returns true and leaves its arguments as they were: varints of unlike values are unlike; a greater value has no fewer bytes; noughts behind a value make it none. No condition.
-/
import Derived.Test.YtgkfbnjccfoaiaaRows
import Derived.Test.YtgkfbnjccfoaiaaAwake
import Derived.Test.YtgkfbnjccfoaiaaUnvarint
import Derived.Test.YtgkfbnjccfoaiaaMathO
import Derived.Test.YtgkfbnjccfoaiaaAppend
import Derived.WalkKit
import Derived.ProofKit
import Derived.OpenShut
import Derived.ShutString
namespace Go.Proofs.Ytgkfbnjccfoaiaa.bitsOrder
open Go.ChangeShapes Go.WideShapes Go.ChangeAt Go.RowKit
open Go.ChangeMaps (open_string shut_string)
set_option linter.unusedVariables false      -- a walk need not use every 'w<i>' (that an integer argument fits its kind)

theorem own : ownKnob Try.prog.godebug = none := by kernel_rfl

theorem fin {w2 w3 w5 w6 : World} {o1 o2 : Obj} {g3 j : Nat} {u : Value} (hb3 : Below w2.heap.size (w2.alloc o1) w3) (hg3 : w2.heap.size ≤ g3) (hs3 : w2.heap.size + 1 ≤ w3.heap.size)
    (hb4 : Below w2.heap.size ((w3.setCell ⟨g3, j, none⟩ u).alloc o2) w5) (hb6 : Below w5.heap.size w5 w6) : Below w2.heap.size w2 w6 := by
  have h4 := hb4.size
  simp at h4
  exact (((((Below.refl _ _).alloc (Nat.le_refl _) o1).trans hb3).setCell (by exact hg3) u).alloc (by simp; omega) o2).trans (hb4.trans (hb6.mono (by omega)))

set_option maxHeartbeats 4000000 in
theorem walk (a0 : Int) (a1 : Int) (w0 : (Lit.int .u64 a0).wf = true) (w1 : (Lit.int .u64 a1).wf = true) (w : World) :
    Calls Try.prog 8 #[.int .u64 a0, .int .u64 a1] w fun e w' => e = .returned (.bool true) ∧ Below w.heap.size w w' := by
  have x0 : 0 ≤ a0 ∧ a0 < 18446744073709551616 := by have := bounds_u64 w0; omega
  have x1 : 0 ≤ a1 ∧ a1 < 18446744073709551616 := by have := bounds_u64 w1; omega
  obtain ⟨p0, p1⟩ := x0
  obtain ⟨q0, q1⟩ := x1
  have hp0 := vint_pos a0
  have hp1 := vint_pos a1
  have ht0 := vint_ten p1
  have ht1 := vint_ten q1
  have HM : Hid (a0 ≤ a1 → (vint a0).length ≤ (vint a1).length) := vint_mono a0 a1
  clear w0 w1
  have hEq : ((strOf (vint a0)).toList == (strOf (vint a1)).toList) = (a0 == a1) := by
    rw [str_eq (bytesIn_vint a0 p0) (bytesIn_vint a1 q0)]
    by_cases h : a0 = a1
    · subst h; simp
    · have : ¬ vint a0 = vint a1 := fun k => h (vint_inj p0 q0 k)
      rw [beq_eq_false_iff_ne.2 h]; simp [this]
  go_enter Try.func8, Try.ntmps8
  go_wp2_with fail
  go_at_call 22
  refine (varint_any a0 w p0 p1).mono ?_
  rintro e w1 ⟨v1, rfl, hr1, hb1⟩
  obtain ⟨g1, cap1, rfl, hg1, hl1, hc1, hm1, hce1⟩ := row_form hr1 hp0
  have HR1 : Hid (Row w1 w.heap.size .u8 5 (.slice (some ⟨g1, 0, none⟩) (vint a0).length cap1) (vint a0)) := hr1
  clear hr1 hce1
  go_wp2_with fail
  go_at_call 22
  refine (varint_any a1 w1 q0 q1).mono ?_
  rintro e w2 ⟨v2, rfl, hr2, hb2⟩
  obtain ⟨g2, cap2, rfl, hg2, hl2, hc2, hm2, hce2⟩ := row_form hr2 hp1
  have hcv1 := conv_view ((row_view HR1.out).below hb2)
  have hcv2 := conv_view (row_view hr2)
  have HV1 : Hid (Vw w2.heap.size w2 .u8 (.slice (some ⟨g1, 0, none⟩) (vint a0).length cap1) (vint a0)) := ((row_view HR1.out).below hb2).mono hb2.size
  clear hr2 hce2 HR1
  have bz : ∃ z, z = (vint a0).getD ((vint a0).length - 1) 0 ∧ 0 ≤ z ∧ z < 256 := ⟨_, rfl, bytesIn_get (bytesIn_vint a0 p0) (by omega)⟩
  obtain ⟨z, hz, z0, z1⟩ := bz
  have HZ : Hid (z = (vint a0).getD ((vint a0).length - 1) 0) := hz
  have hor : 128 ≤ bits .or .u8 z 128 ∧ bits .or .u8 z 128 < 256 := by rw [or128b z z0 z1]; omega
  have HB : Hid (bytesIn ((vint a0).set ((vint a0).length - 1) (bits .or .u8 z 128) ++ [0])) := bytesIn_append (bytesIn_set (bytesIn_vint a0 p0) _ (by omega) (by omega)) (fun y hy => by simp at hy; omega)
  have HL : Hid (vlen ((vint a0).set ((vint a0).length - 1) (bits .or .u8 z 128) ++ [0]) = 0) := vlen_padded a0 _ p0 hor.1
  have HN : Hid (((vint a0).set ((vint a0).length - 1) (bits .or .u8 z 128) ++ [0]).length = (vint a0).length + 1) := by show _ = _; simp
  have hb12 : Below w.heap.size w w2 := hb1.trans (hb2.mono hb1.size)
  clear hz hor hb1 hb2
  have hzz : (((vint a0).length : Int) == 0) = false := beq_eq_false_iff_ne.2 (by omega)
  by_cases hle : a0 ≤ a1
  · have hll := HM.out hle
    have hdl : decide ((vint a1).length < (vint a0).length) = false := by simp; omega
    clear HM
    go_wp2_with (first
      | (at_builtin; refine wpList_app rfl (.tmp 40) (.tmp 41) rfl w2.heap.size _ [] rfl (row_empty w2 w2.heap.size (Nat.le_refl _)) w2.heap.size _ (vint a0) rfl (HV1.out.below ((Below.refl _ _).alloc (Nat.le_refl _) _)) (by simp; omega) (by simp) ?_; intro v3 w3 hr3 hb3; simp only [List.nil_append] at hr3; obtain ⟨g3, cap3, rfl, hg3, hl3, hc3, hm3, hce3⟩ := row_form hr3 hp0; have hk3 := hce3 ((vint a0).length - 1) (by omega); rw [← HZ.out] at hk3; have hf3 := hr3.frozen rfl ((vint a0).length - 1); have HR3 : Hid (Row w3 w2.heap.size .u8 5 (.slice (some ⟨g3, 0, none⟩) (vint a0).length cap3) (vint a0)) := hr3; have hs3 : w2.heap.size + 1 ≤ w3.heap.size := (by have := hb3.size; simpa using this); clear hr3 hce3)
      | (at_builtin; refine wpList_app rfl (.tmp 56) (.tmp 57) rfl w2.heap.size _ ((vint a0).set ((vint a0).length - 1) (bits .or .u8 z 128)) rfl ((HR3.out.stored rfl _ _).alloc _) _ _ [0] rfl (view_one _ 0 w3.heap.size (by simp)) (by simp; omega) (by simp; omega) ?_; intro v4 w4 hr4 hb4)
      | (go_at_call 18; refine (unv_view _ _ _ _ (row_view hr4) HB.out).mono ?_; rw [HL.out]; rintro e w5 ⟨rfl, rfl⟩)
      | (go_at_call 9; refine (awake_any _).mono ?_; rintro e w6 ⟨rfl, hb6⟩))
    go_ret
    exact ⟨rfl, hb12.trans ((fin hb3 hg3 hs3 hb4 hb6).mono hb12.size)⟩
  · clear HM
    go_wp2_with (first
      | (at_builtin; refine wpList_app rfl (.tmp 40) (.tmp 41) rfl w2.heap.size _ [] rfl (row_empty w2 w2.heap.size (Nat.le_refl _)) w2.heap.size _ (vint a0) rfl (HV1.out.below ((Below.refl _ _).alloc (Nat.le_refl _) _)) (by simp; omega) (by simp) ?_; intro v3 w3 hr3 hb3; simp only [List.nil_append] at hr3; obtain ⟨g3, cap3, rfl, hg3, hl3, hc3, hm3, hce3⟩ := row_form hr3 hp0; have hk3 := hce3 ((vint a0).length - 1) (by omega); rw [← HZ.out] at hk3; have hf3 := hr3.frozen rfl ((vint a0).length - 1); have HR3 : Hid (Row w3 w2.heap.size .u8 5 (.slice (some ⟨g3, 0, none⟩) (vint a0).length cap3) (vint a0)) := hr3; have hs3 : w2.heap.size + 1 ≤ w3.heap.size := (by have := hb3.size; simpa using this); clear hr3 hce3)
      | (at_builtin; refine wpList_app rfl (.tmp 56) (.tmp 57) rfl w2.heap.size _ ((vint a0).set ((vint a0).length - 1) (bits .or .u8 z 128)) rfl ((HR3.out.stored rfl _ _).alloc _) _ _ [0] rfl (view_one _ 0 w3.heap.size (by simp)) (by simp; omega) (by simp; omega) ?_; intro v4 w4 hr4 hb4)
      | (go_at_call 18; refine (unv_view _ _ _ _ (row_view hr4) HB.out).mono ?_; rw [HL.out]; rintro e w5 ⟨rfl, rfl⟩)
      | (go_at_call 9; refine (awake_any _).mono ?_; rintro e w6 ⟨rfl, hb6⟩))
    go_ret
    exact ⟨rfl, hb12.trans ((fin hb3 hg3 hs3 hb4 hb6).mono hb12.size)⟩

/-! THE ROW's STEP -/
set_option maxRecDepth 100000 in
theorem lifted (os : Os) (started : os.Started) (H : Type) (enc : TypeId × Value → H) :
    ReturnsInHanded {} Try.checked os 8 .any (Rows.bitsOrderSpec.pre6 enc Try.prog Try.f8 Rows.bitsOrderRow.domain false) (Rows.bitsOrderSpec.post enc Try.prog Try.f8 false true false false) := by
  refine returnsInHanded_of_change (C := Try.checked) own started (by kernel_rfl) Try.func8
    (ChangeSpec.witness6 (enc := enc) (C := Try.checked) false ⟨#[], #[.int .u64 0, .int .u64 0], []⟩ 8 (by kernel_rfl) (by kernel_rfl) (by kernel_rfl) (by kernel_rfl)) ?_
  intro W base args ds gs before hval0 hW hcnd _
  have hval : ∀ (j : Nat) t v, Try.f8.params[j]? = some t → args[j]? = some v → Value.okWide Try.prog W .any base t v := hval0
  have hW' := hW
  obtain ⟨p, q, hA0, hV, rfl, hfz, hnd⟩ := hW
  have hA : DataW.TrodAll enc Try.prog W 0 (fun _ => true) true Try.f8.params.toList args.toList ds p := hA0
  rw [Try.params8] at hA hval
  obtain ⟨v0, vs0, d0, ds0, p0, q0, hargs, rfl, rfl, h0, r0⟩ := trodAll_cons hA
  obtain ⟨v1, vs1, d1, ds1, p1, q1, rfl, rfl, rfl, h1, r1⟩ := trodAll_cons r0
  obtain ⟨rfl, rfl, rfl⟩ := trodAll_nil r1
  obtain rfl : args = #[v0, v1] := by cases args; simp_all
  obtain ⟨rfl, rfl⟩ := trodVars_none hV
  obtain ⟨a0, rfl, rfl, rfl, w0⟩ := open_int Try.underlying34 (hval 0 34 v0 rfl rfl) h0
  obtain ⟨a1, rfl, rfl, rfl, w1⟩ := open_int Try.underlying34 (hval 1 34 v1 rfl rfl) h1
  clear hA0 hval0
  refine (walk a0 a1 w0 w1 W).mono fun e W' ⟨he, bel⟩ => ?_
  subst he
  exact ⟨_, rfl, _, _, _, [], _, [], hW', trodAll_mk1 (shut_bool Try.underlying4 _), (trodAll_cons_mk (shut_int Try.underlying34 w0) (trodAll_cons_mk (shut_int Try.underlying34 w1) trodAll_mk0)), rfl, bel.frame _, fun h => by cases h⟩

theorem over : Rows.bitsOrderRow.holds Try.pinned (OpenSpec.ofChange Rows.bitsOrderSpec) :=
  OpenClaim.holds_of_wide 8 Try.f8 rfl rfl rfl rfl rfl rfl rfl ⟨rfl, rfl, rfl, rfl, rfl⟩ rfl rfl rfl rfl rfl (by kernel_rfl) Try.func8 (by kernel_rfl)
    (of_decide_eq_true (by kernel_rfl)) (by unfold Func.isWrapper; first | (rw [if_pos (by decide +kernel)]; kernel_rfl) | (rw [if_neg (by decide +kernel)]; exact ⟨rfl, rfl⟩))
    (fun os started H enc _ => lifted os started H enc)

/-- The statement, by the row. -/
theorem proved : Rows.BitsOrderSaid :=
  over
end Go.Proofs.Ytgkfbnjccfoaiaa.bitsOrder

namespace Go.Proofs.Ytgkfbnjccfoaiaa
/-- THE STATEMENT. -/
theorem bitsOrder_holds : Rows.BitsOrderSaid := bitsOrder.proved
#print axioms bitsOrder_holds
end Go.Proofs.Ytgkfbnjccfoaiaa
