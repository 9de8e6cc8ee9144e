/-
  Proved here: for every two texts and every number the law FaultKeeps returns true and leaves its arguments as they were: a Fault has just the operation, the place and the error that it was made of. The listed variable is tied to the program text (the card). No condition besides.
-/
import Derived.Test.YtlandjnhhcnbeabDoorRows
import Derived.Test.YtlandjnhhcnbeabDoorTie
import Derived.Test.YtlandjnhhcnbeabDoorCards
import Derived.Test.YtlandjnhhcnbeabDoorDoor
import Derived.WalkKit
import Derived.ProofKit
import Derived.OpenShut
import Derived.ShutString
import Derived.ChangeOld
import Derived.Below
import Derived.SevenTiedAt
namespace Go.Proofs.YtlandjnhhcnbeabDoor.faultKeeps
open Go.ChangeShapes Go.WideShapes Go.ChangeAt Go.RowKit Go.ChangeMaps Kit
set_option linter.unusedVariables false

theorem is_fault (v : Value) (w : World) : (Instr.typeAssert (.iface 23 v) 26 23 true).run Tryd.prog w = .ok (.tuple #[v, .bool true]) w := by kernel_rfl
theorem is_num (v : Value) (w : World) : (Instr.typeAssert (.iface 28 v) 26 28 true).run Tryd.prog w = .ok (.tuple #[v, .bool true]) w := by kernel_rfl
set_option maxRecDepth 4000 in
set_option maxHeartbeats 2000000 in
theorem out (a0 a1 : ByteArray) (a2 : Int) (w : World) (hT : Tied w) (h : a0.size > 100 ∨ a1.size > 100 ∨ a2 < 1 ∨ a2 > 19) :
    Calls Tryd.prog 3 #[.string a0, .string a1, .int .i64 a2] w fun e w' => e = .returned (.bool true) ∧ Below w.heap.size w w' := by
  have HX : Hid (Calls Tryd.prog 4 _ _ _) := awake_any w hT
  clear hT
  by_cases c0 : (100 : Int) < (a0.size : Int)
  · clear h
    go_enter Tryd.func3, Tryd.ntmps3
    go_wp2_with fail
    go_at_call 4
    refine HX.out.mono ?_
    rintro e w1 ⟨rfl, hb⟩
    have HB : Hid (Below w.heap.size w w1) := hb
    clear hb HX
    go_wp2
    go_ret
    exact ⟨rfl, HB.out⟩
  by_cases c1 : (100 : Int) < (a1.size : Int)
  · clear h
    go_enter Tryd.func3, Tryd.ntmps3
    go_wp2_with fail
    go_at_call 4
    refine HX.out.mono ?_
    rintro e w1 ⟨rfl, hb⟩
    have HB : Hid (Below w.heap.size w w1) := hb
    clear hb HX
    go_wp2
    go_ret
    exact ⟨rfl, HB.out⟩
  by_cases c2 : a2 < 1
  · clear h
    go_enter Tryd.func3, Tryd.ntmps3
    go_wp2_with fail
    go_at_call 4
    refine HX.out.mono ?_
    rintro e w1 ⟨rfl, hb⟩
    have HB : Hid (Below w.heap.size w w1) := hb
    clear hb HX
    go_wp2
    go_ret
    exact ⟨rfl, HB.out⟩
  have c3 : 19 < a2 := by omega
  clear h
  go_enter Tryd.func3, Tryd.ntmps3
  go_wp2_with fail
  go_at_call 4
  refine HX.out.mono ?_
  rintro e w1 ⟨rfl, hb⟩
  have HB : Hid (Below w.heap.size w w1) := hb
  clear hb HX
  go_wp2
  go_ret
  exact ⟨rfl, HB.out⟩
set_option maxRecDepth 4000 in
set_option maxHeartbeats 2000000 in
theorem inside (a0 a1 : ByteArray) (a2 : Int) (w : World) (hT : Tied w) (h0 : ¬ (100 : Int) < (a0.size : Int)) (h1 : ¬ (100 : Int) < (a1.size : Int)) (h2 : ¬ a2 < 1) (h3 : ¬ 19 < a2) :
    Calls Tryd.prog 3 #[.string a0, .string a1, .int .i64 a2] w fun e w' => e = .returned (.bool true) ∧ Below w.heap.size w w' := by
  have HB : Hid (Below w.heap.size w (w.alloc (.cells #[.string a0, .string a1, .iface 28 (.int .i64 a2)] 31))) := (Below.refl _ _).alloc (Nat.le_refl _) _
  have HX : Hid (Calls Tryd.prog 4 _ _ _) := awake_any _ (hT.below HB.out)
  have HN : Hid (Calls Tryd.prog 5 _ _ _) := new_some a0 a1 28 (.int .i64 a2) w
  have q1 := is_fault
  have q2 := is_num
  clear hT
  go_enter Tryd.func3, Tryd.ntmps3
  go_wp2_with fail
  go_at_call 5
  refine HN.out.mono ?_
  rintro e w1 ⟨rfl, hw⟩
  have hw := hw.symm
  subst hw
  clear HN
  go_wp2_with fail
  go_at_call 4
  refine HX.out.mono ?_
  rintro e w1 ⟨rfl, hb⟩
  have H2 : Hid (Below w.heap.size w w1) := bel2e HB.out hb
  clear hb HX HB
  go_wp2
  go_ret
  exact ⟨rfl, H2.out⟩
theorem walk (a0 a1 : ByteArray) (a2 : Int) (w : World) (hT : Tied w) :
    Calls Tryd.prog 3 #[.string a0, .string a1, .int .i64 a2] w fun e w' => e = .returned (.bool true) ∧ Below w.heap.size w w' := by
  by_cases h : a0.size > 100 ∨ a1.size > 100 ∨ a2 < 1 ∨ a2 > 19
  · exact out a0 a1 a2 w hT h
  · exact inside a0 a1 a2 w hT (by omega) (by omega) (by omega) (by omega)

/-! The row's step. -/
set_option maxRecDepth 100000 in
theorem lifted (os : Os) (started : os.Started) (H : Type) (enc : TypeId × Value → H) :
    ReturnsInHanded {} Tryd.checked os 3 .any (fun w args => (Rows.faultKeepsSpec.pre enc Tryd.prog Tryd.f3 [] false w args ∧ laidMetH Tryd.prog laid1 w) ∧ sizedMet enc Tryd.prog Tryd.f3 (OpenSpec.ofChange Rows.faultKeepsSpec) false w args)
      (Rows.faultKeepsSpec.post enc Tryd.prog Tryd.f3 false true false false) := by
  refine returnsInHanded_of_change_and (C := Tryd.checked) (X := fun w _ => laidMetH Tryd.prog laid1 w) (fun _ _ _ hh h => h.of_heap hh) own started (by kernel_rfl) Tryd.func3
    (ChangeSpec.witness_shaped (enc := enc) (C := Tryd.checked) (os := os) (X := fun w _ => laidMetH Tryd.prog laid1 w) false (World.doorLaid Tryd.prog 16 os) #[.string ⟨#[]⟩, .string ⟨#[]⟩, .int .i64 0] 8 rfl (World.shaped_of_RefB (by kernel_rfl) (by kernel_rfl)) (by kernel_rfl) (by kernel_rfl) (by kernel_rfl) (door_met os _)) ?_
  intro W base args ds gs before hval0 hW hcnd hsz hL _
  have hval : ∀ (j : Nat) t v, Tryd.f3.params[j]? = some t → args[j]? = some v → Value.okWide Tryd.prog W .any base t v := hval0
  have hW' := hW
  obtain ⟨p, q, hA0, hV, rfl, hfz, hnd⟩ := hW
  have hA : DataW.TrodAll enc Tryd.prog W 0 (fun _ => true) true Tryd.f3.params.toList args.toList ds p := hA0
  rw [Tryd.params3] at hA hval
  obtain ⟨v0, vs0, d0, ds0, p0, q0, hargs, rfl, rfl, h0, r0⟩ := trodAll_cons hA
  obtain ⟨v1, vs1, d1, ds1, p1, q1, rfl, rfl, rfl, h1, r1⟩ := trodAll_cons r0
  obtain ⟨v2, vs2, d2, ds2, p2, q2, rfl, rfl, rfl, h2, r2⟩ := trodAll_cons r1
  obtain ⟨rfl, rfl, rfl⟩ := trodAll_nil r2
  obtain rfl : args = #[v0, v1, v2] := by cases args; simp_all
  obtain ⟨rfl, rfl⟩ := trodVars_none hV
  obtain ⟨a0, rfl, rfl, rfl, w0⟩ := open_string Tryd.underlying9 (hval 0 9 v0 rfl rfl) h0
  obtain ⟨a1, rfl, rfl, rfl, w1⟩ := open_string Tryd.underlying9 (hval 1 9 v1 rfl rfl) h1
  obtain ⟨a2, rfl, rfl, rfl, w2⟩ := open_int Tryd.underlying3 (hval 2 3 v2 rfl rfl) h2
  clear hA0 hval0
  refine (walk a0 a1 a2 W (tied_of_laid hL)).mono fun e W' ⟨he, bel⟩ => ?_
  subst he
  exact ⟨_, rfl, _, _, _, [], _, [], hW', trodAll_mk1 (shut_bool Tryd.underlying4 _), (trodAll_cons_mk (shut_string Tryd.underlying9 w0) (trodAll_cons_mk (shut_string Tryd.underlying9 w1) (trodAll_cons_mk (shut_int Tryd.underlying3 w2) trodAll_mk0))), rfl, bel.frame _, fun h => by cases h⟩

theorem over : Rows.faultKeepsRow.holds Tryd.pinned (OpenSpec.ofChange Rows.faultKeepsSpec) :=
  OpenClaim.holds_of_wide 3 Tryd.f3 rfl rfl rfl rfl rfl rfl rfl ⟨rfl, rfl, rfl, rfl, rfl⟩ rfl rfl rfl rfl rfl (by kernel_rfl) Tryd.func3 (by kernel_rfl)
    (of_decide_eq_true (by kernel_rfl)) (by unfold Func.isWrapper; first | (rw [if_pos (by decide +kernel)]; kernel_rfl) | (rw [if_neg (by decide +kernel)]; exact ⟨rfl, rfl⟩))
    (fun os started H enc _ => lifted os started H enc)

/-- The card, tied. -/
theorem proved : Rows.FaultKeepsCardSaid :=
  Claim7.holds_tied_plain_at .later [] [.handle] true (true, "1c377766459b0b6dab11d8dbae8aed13f6aea35f51e5b1d5f2154fc50a2ab3b9") true
    over (fun _ h => by cases h) (by kernel_rfl) (fun _ h => by cases h) faultKeeps_row_tie rfl ⟨rfl, rfl⟩ (by kernel_rfl) rfl
    (fun f fn hf hfn => by
      obtain rfl : f = 3 := Option.some.inj ((show Tryd.prog.funcNamed Rows.faultKeepsRow.func = some 3 by kernel_rfl).symm.trans hf) |>.symm
      obtain rfl : fn = Tryd.f3 := (Option.some.inj (Tryd.func3.symm.trans hfn)).symm
      exact ⟨by kernel_rfl, fun j t ht => by
        rw [Tryd.params3] at ht
        have hm : t ∈ [9, 9, 3] := by simpa using Array.mem_of_getElem? ht
        have hall : ([9, 9, 3].all fun u => !Tryd.prog.wantsStandIn u) = true := by kernel_rfl
        exact (show Tryd.prog.wantsStandIn t = false by simpa using List.all_eq_true.1 hall t hm)⟩)
    (by kernel_rfl)
end Go.Proofs.YtlandjnhhcnbeabDoor.faultKeeps

namespace Go.Proofs.YtlandjnhhcnbeabDoor
/-- THE STATEMENT. -/
theorem faultKeeps_holds : Rows.FaultKeepsCardSaid := faultKeeps.proved
#print axioms faultKeeps_holds
end Go.Proofs.YtlandjnhhcnbeabDoor
