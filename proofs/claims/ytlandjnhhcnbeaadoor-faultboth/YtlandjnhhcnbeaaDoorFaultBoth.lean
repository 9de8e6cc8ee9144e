/-
  Proved here: for every two numbers the law FaultBoth returns true and leaves its arguments as they were: of two errors both are within, the first one first; of one it is that one; of none it is none. The listed variable is tied to the program text (the card). No condition besides.
-/
import Derived.Test.YtlandjnhhcnbeaaDoorRows
import Derived.Test.YtlandjnhhcnbeaaDoorTie
import Derived.Test.YtlandjnhhcnbeaaDoorCards
import Derived.Test.YtlandjnhhcnbeaaDoorFns2
import Derived.Test.YtlandjnhhcnbeaaDoorDoor
import Derived.WalkKit
import Derived.ProofKit
import Derived.OpenShut
import Derived.ShutString
import Derived.ChangeOld
import Derived.Below
import Derived.SevenTiedAt
namespace Go.Proofs.YtlandjnhhcnbeaaDoor.faultBoth
open Go.ChangeShapes Go.WideShapes Go.ChangeAt Go.RowKit Go.ChangeMaps Kit
set_option linter.unusedVariables false

theorem is_num (v : Value) (w : World) : (Instr.typeAssert (.iface 39 v) 29 39 true).run Tryd.prog w = .ok (.tuple #[v, .bool true]) w := by kernel_rfl
set_option maxRecDepth 4000 in
set_option maxHeartbeats 2000000 in
theorem out (a0 a1 : Int) (w : World) (hT : Tied w) (h : a0 < 1 ∨ a1 < 1 ∨ 19 < a0 ∨ 19 < a1) :
    Calls Tryd.prog 6 #[.int .i64 a0, .int .i64 a1] w fun e w' => e = .returned (.bool true) ∧ Below w.heap.size w w' := by
  have HX : Hid (Calls Tryd.prog 10 _ _ _) := awake_any w hT
  clear hT
  by_cases c0 : a0 < 1
  · clear h
    go_enter Tryd.func6, Tryd.ntmps6
    go_wp2_with fail
    go_at_call 10
    refine HX.out.mono ?_
    rintro e w1 ⟨rfl, hb⟩
    have HB : Hid (Below w.heap.size w w1) := hb
    clear hb HX
    go_wp2
    go_ret
    exact ⟨rfl, HB.out⟩
  by_cases c1 : a1 < 1
  · clear h
    go_enter Tryd.func6, Tryd.ntmps6
    go_wp2_with fail
    go_at_call 10
    refine HX.out.mono ?_
    rintro e w1 ⟨rfl, hb⟩
    have HB : Hid (Below w.heap.size w w1) := hb
    clear hb HX
    go_wp2
    go_ret
    exact ⟨rfl, HB.out⟩
  by_cases c2 : 19 < a0
  · clear h
    go_enter Tryd.func6, Tryd.ntmps6
    go_wp2_with fail
    go_at_call 10
    refine HX.out.mono ?_
    rintro e w1 ⟨rfl, hb⟩
    have HB : Hid (Below w.heap.size w w1) := hb
    clear hb HX
    go_wp2
    go_ret
    exact ⟨rfl, HB.out⟩
  have c3 : 19 < a1 := by omega
  clear h
  go_enter Tryd.func6, Tryd.ntmps6
  go_wp2_with fail
  go_at_call 10
  refine HX.out.mono ?_
  rintro e w1 ⟨rfl, hb⟩
  have HB : Hid (Below w.heap.size w w1) := hb
  clear hb HX
  go_wp2
  go_ret
  exact ⟨rfl, HB.out⟩
set_option maxRecDepth 4000 in
set_option maxHeartbeats 4000000 in
theorem inside (a0 a1 : Int) (w : World) (hT : Tied w) (h0 : ¬ a0 < 1) (h1 : ¬ a1 < 1) (h2 : ¬ 19 < a0) (h3 : ¬ 19 < a1) :
    Calls Tryd.prog 6 #[.int .i64 a0, .int .i64 a1] w fun e w' => e = .returned (.bool true) ∧ Below w.heap.size w w' := by
  have HT : Hid (Tied w) := hT
  have HN : Hid (Calls Tryd.prog 23 _ _ _) := both_any 1 (.iface 39 (.int .i64 a0)) (.iface 39 (.int .i64 a1)) _ _ w (by simp) (by simp) (pre_num w 0 a0) (pre_num w 0 a1)
  have q2 := is_num
  clear hT
  go_enter Tryd.func6, Tryd.ntmps6
  go_wp2_with fail
  go_at_call 23
  refine HN.out.mono ?_
  rintro e w1 ⟨p, rfl, hp, hb⟩
  obtain ⟨ns, hns⟩ : ∃ ns : List Nd, ns = [(72, .pointer (some ⟨p, 0, none⟩), []), (39, .int .i64 a0, []), (39, .int .i64 a1, [])] := ⟨_, rfl⟩
  have H1 : Hid (Pre w1 2 (.iface 72 (.pointer (some ⟨p, 0, none⟩))) ns ∧ Below w.heap.size w w1) := ⟨by rw [hns]; exact hp, hb⟩
  have E0 : Hid (nums ns = [a0, a1]) := by rw [hns]; rfl
  have E1 : Hid (hit a0 ns = true) := by show _ = _; unfold hit; rw [E0.out]; simp
  have E2 : Hid (hit a1 ns = true) := by show _ = _; unfold hit; rw [E0.out]; simp
  have E3 : Hid ((nums ns).headD 0 = a0) := by show _ = _; rw [E0.out]; rfl
  clear hp hb HN hns E0
  go_wp2_with fail
  go_at_call 23
  refine (both_left _ w1).mono ?_
  rintro e w2 ⟨rfl, hw⟩
  have hw := hw.symm
  subst hw
  go_wp2_with fail
  go_at_call 23
  refine (both_right _ _ w1).mono ?_
  rintro e w2 ⟨rfl, hw⟩
  have hw := hw.symm
  subst hw
  have HI : Hid (Calls Tryd.prog 24 _ _ _) := is_any a0 2 _ ns w1 H1.out.1
  go_wp2_with fail
  go_at_call 24
  refine HI.out.mono ?_
  rintro e w2 ⟨rfl, hb⟩
  rw [E1.out]
  have H2 : Hid (Pre w2 2 (.iface 72 (.pointer (some ⟨p, 0, none⟩))) ns ∧ Below w.heap.size w w2) := ⟨H1.out.1.below hb, bel2e H1.out.2 hb⟩
  clear hb HI H1
  have HI : Hid (Calls Tryd.prog 24 _ _ _) := is_any a1 2 _ ns w2 H2.out.1
  go_wp2_with fail
  go_at_call 24
  refine HI.out.mono ?_
  rintro e w3 ⟨rfl, hb⟩
  rw [E2.out]
  have H3 : Hid (Pre w3 2 (.iface 72 (.pointer (some ⟨p, 0, none⟩))) ns ∧ Below w.heap.size w w3) := ⟨H2.out.1.below hb, bel2e H2.out.2 hb⟩
  clear hb HI H2
  have HI : Hid (Calls Tryd.prog 18 _ _ _) := code_any 2 _ ns w3 H3.out.1 (HT.out.below H3.out.2)
  go_wp2_with fail
  go_at_call 18
  refine HI.out.mono ?_
  rintro e w4 ⟨rfl, hb⟩
  rw [E3.out]
  have H4 : Hid (Below w.heap.size w w4) := bel2e H3.out.2 hb
  clear hb HI H3
  go_wp2_with fail
  go_at_call 23
  refine (both_left _ w4).mono ?_
  rintro e w5 ⟨rfl, hw⟩
  have hw := hw.symm
  subst hw
  have HI : Hid (Calls Tryd.prog 10 _ _ _) := awake_any w4 (HT.out.below H4.out)
  go_wp2_with fail
  go_at_call 10
  refine HI.out.mono ?_
  rintro e w5 ⟨rfl, hb⟩
  have H5 : Hid (Below w.heap.size w w5) := bel2e H4.out hb
  clear hb HI H4
  go_wp2
  go_ret
  exact ⟨rfl, H5.out⟩
theorem walk (a0 a1 : Int) (w : World) (hT : Tied w) :
    Calls Tryd.prog 6 #[.int .i64 a0, .int .i64 a1] w fun e w' => e = .returned (.bool true) ∧ Below w.heap.size w w' := by
  by_cases h : a0 < 1 ∨ a1 < 1 ∨ 19 < a0 ∨ 19 < a1
  · exact out a0 a1 w hT h
  · exact inside a0 a1 w hT (by omega) (by omega) (by omega) (by omega)

/-! The row's step. -/
set_option maxRecDepth 100000 in
theorem lifted (os : Os) (started : os.Started) (H : Type) (enc : TypeId × Value → H) :
    ReturnsInHanded {} Tryd.checked os 6 .any (fun w args => (Rows.faultBothSpec.pre enc Tryd.prog Tryd.f6 [] false w args ∧ laidMetH Tryd.prog laid1 w) ∧ sizedMet enc Tryd.prog Tryd.f6 (OpenSpec.ofChange Rows.faultBothSpec) false w args)
      (Rows.faultBothSpec.post enc Tryd.prog Tryd.f6 false true false false) := by
  refine returnsInHanded_of_change_and (C := Tryd.checked) (X := fun w _ => laidMetH Tryd.prog laid1 w) (fun _ _ _ hh h => h.of_heap hh) own started (by kernel_rfl) Tryd.func6
    (ChangeSpec.witness_shaped (enc := enc) (C := Tryd.checked) (os := os) (X := fun w _ => laidMetH Tryd.prog laid1 w) false (World.doorLaid Tryd.prog 16 os) #[.int .i64 0, .int .i64 0] 8 rfl (World.shaped_of_RefB (by kernel_rfl) (by kernel_rfl)) (by kernel_rfl) (by kernel_rfl) (by kernel_rfl) (door_met os _)) ?_
  intro W base args ds gs before hval0 hW hcnd hsz hL _
  have hval : ∀ (j : Nat) t v, Tryd.f6.params[j]? = some t → args[j]? = some v → Value.okWide Tryd.prog W .any base t v := hval0
  have hW' := hW
  obtain ⟨p, q, hA0, hV, rfl, hfz, hnd⟩ := hW
  have hA : DataW.TrodAll enc Tryd.prog W 0 (fun _ => true) true Tryd.f6.params.toList args.toList ds p := hA0
  rw [Tryd.params6] at hA hval
  obtain ⟨v0, vs0, d0, ds0, p0, q0, hargs, rfl, rfl, h0, r0⟩ := trodAll_cons hA
  obtain ⟨v1, vs1, d1, ds1, p1, q1, rfl, rfl, rfl, h1, r1⟩ := trodAll_cons r0
  obtain ⟨rfl, rfl, rfl⟩ := trodAll_nil r1
  obtain rfl : args = #[v0, v1] := by cases args; simp_all
  obtain ⟨rfl, rfl⟩ := trodVars_none hV
  obtain ⟨a0, rfl, rfl, rfl, w0⟩ := open_int Tryd.underlying3 (hval 0 3 v0 rfl rfl) h0
  obtain ⟨a1, rfl, rfl, rfl, w1⟩ := open_int Tryd.underlying3 (hval 1 3 v1 rfl rfl) h1
  clear hA0 hval0
  refine (walk a0 a1 W (tied_of_laid hL)).mono fun e W' ⟨he, bel⟩ => ?_
  subst he
  exact ⟨_, rfl, _, _, _, [], _, [], hW', trodAll_mk1 (shut_bool Tryd.underlying4 _), (trodAll_cons_mk (shut_int Tryd.underlying3 w0) (trodAll_cons_mk (shut_int Tryd.underlying3 w1) trodAll_mk0)), rfl, bel.frame _, fun h => by cases h⟩

theorem over : Rows.faultBothRow.holds Tryd.pinned (OpenSpec.ofChange Rows.faultBothSpec) :=
  OpenClaim.holds_of_wide 6 Tryd.f6 rfl rfl rfl rfl rfl rfl rfl ⟨rfl, rfl, rfl, rfl, rfl⟩ rfl rfl rfl rfl rfl (by kernel_rfl) Tryd.func6 (by kernel_rfl)
    (of_decide_eq_true (by kernel_rfl)) (by unfold Func.isWrapper; first | (rw [if_pos (by decide +kernel)]; kernel_rfl) | (rw [if_neg (by decide +kernel)]; exact ⟨rfl, rfl⟩))
    (fun os started H enc _ => lifted os started H enc)

/-- The card, tied. -/
theorem proved : Rows.FaultBothCardSaid :=
  Claim7.holds_tied_plain_at .later [] [.handle] true (true, "a2a5e8d745dccc1ea1945e6c68f635ba049041312b0aa45080a4b6eb55ba1ec7") true
    over (fun _ h => by cases h) (by kernel_rfl) (fun _ h => by cases h) faultBoth_row_tie rfl ⟨rfl, rfl⟩ (by kernel_rfl) rfl
    (fun f fn hf hfn => by
      obtain rfl : f = 6 := Option.some.inj ((show Tryd.prog.funcNamed Rows.faultBothRow.func = some 6 by kernel_rfl).symm.trans hf) |>.symm
      obtain rfl : fn = Tryd.f6 := (Option.some.inj (Tryd.func6.symm.trans hfn)).symm
      exact ⟨by kernel_rfl, fun j t ht => by
        rw [Tryd.params6] at ht
        have hm : t ∈ [3, 3] := by simpa using Array.mem_of_getElem? ht
        have hall : ([3, 3].all fun u => !Tryd.prog.wantsStandIn u) = true := by kernel_rfl
        exact (show Tryd.prog.wantsStandIn t = false by simpa using List.all_eq_true.1 hall t hm)⟩)
    (by kernel_rfl)
end Go.Proofs.YtlandjnhhcnbeaaDoor.faultBoth

namespace Go.Proofs.YtlandjnhhcnbeaaDoor
/-- THE STATEMENT. -/
theorem faultBoth_holds : Rows.FaultBothCardSaid := faultBoth.proved
#print axioms faultBoth_holds
end Go.Proofs.YtlandjnhhcnbeaaDoor
