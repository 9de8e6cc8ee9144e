/-
  Proved here: for every list of bools and every text the law FaultNone returns true and leaves its arguments as they were: however often nothing is wrapped, or put together, it is nothing; of nothing nothing is told. The listed variable is tied to the program text (the card). No condition besides.
-/
import Derived.Test.YtlandjnhhcnbeaaDoorRows
import Derived.Test.YtlandjnhhcnbeaaDoorTie
import Derived.Test.YtlandjnhhcnbeaaDoorCards
import Derived.Test.YtlandjnhhcnbeaaDoorArgs
import Derived.Test.YtlandjnhhcnbeaaDoorInner
import Derived.Test.YtlandjnhhcnbeaaDoorDoor
import Derived.WalkKit
import Derived.ProofKit
import Derived.OpenShut
import Derived.ShutString
import Derived.ChangeOld
import Derived.Below
import Derived.SevenTiedAt
namespace Go.Proofs.YtlandjnhhcnbeaaDoor.faultNone
open Go.ChangeShapes Go.WideShapes Go.ChangeAt Go.RowKit Go.ChangeMaps Kit
set_option linter.unusedVariables false

set_option maxRecDepth 4000 in
set_option maxHeartbeats 2000000 in
theorem out (ao : Option Addr) (bs : List Bool) (cap : Nat) (a1 : ByteArray) (w : World) (hT : Tied w) (h : (60 : Int) < (bs.length : Int) ∨ (100 : Int) < (a1.size : Int)) :
    Calls Tryd.prog 8 #[.slice ao bs.length cap, .string a1] w fun e w' => e = .returned (.bool true) ∧ Below w.heap.size w w' := by
  have HX : Hid (Calls Tryd.prog 10 _ _ _) := awake_any w hT
  clear hT
  by_cases c0 : (60 : Int) < (bs.length : Int)
  · clear h
    go_enter Tryd.func8, Tryd.ntmps8
    go_wp2_with fail
    go_at_call 10
    refine HX.out.mono ?_
    rintro e w1 ⟨rfl, hb⟩
    have HB : Hid (Below w.heap.size w w1) := hb
    clear hb HX
    go_wp2
    go_ret
    exact ⟨rfl, HB.out⟩
  have c1 : (100 : Int) < (a1.size : Int) := by omega
  clear h
  go_enter Tryd.func8, Tryd.ntmps8
  go_wp2_with fail
  go_at_call 10
  refine HX.out.mono ?_
  rintro e w1 ⟨rfl, hb⟩
  have HB : Hid (Below w.heap.size w w1) := hb
  clear hb HX
  go_wp2
  go_ret
  exact ⟨rfl, HB.out⟩
set_option maxRecDepth 4000 in
set_option maxHeartbeats 4000000 in
theorem inside (ao : Option Addr) (bs : List Bool) (cap : Nat) (a1 : ByteArray) (w : World) (hT : Tied w) (H4 : Hid (0 < bs.length → ∃ b off, ao = some ⟨b, off, none⟩ ∧ b < w.heap.size ∧ ∀ (i : Nat) x, (bs.map Value.bool)[i]? = some x → w.cell? ⟨b, off + i, none⟩ = some x)) (h0 : ¬ (60 : Int) < (bs.length : Int)) (h1 : ¬ (100 : Int) < (a1.size : Int)) :
    Calls Tryd.prog 8 #[.slice ao bs.length cap, .string a1] w fun e w' => e = .returned (.bool true) ∧ Below w.heap.size w w' := by
  have HT : Hid (Tied w) := hT
  have HP : Hid (∀ w', Pre w' 0 .nilIface []) := fun w' => ⟨rfl, rfl⟩
  clear hT
  go_enter Tryd.func8, Tryd.ntmps8
  go_wp2
  go_loopw [5, 6] (fun e i wr => ∃ k : Nat, k ≤ bs.length ∧ i = .int .i64 (k : Int) ∧ e = .nilIface ∧ wr = w) (fun _ i _ => bs.length - (intOf i).toNat)
  case atStart => exact ⟨0, Nat.zero_le _, rfl, rfl, rfl⟩
  case round =>
    obtain ⟨k, hk, rfl, rfl, hw⟩ := hrel
    have hw := hw.symm
    subst hw
    by_cases hlt : k < bs.length
    · obtain ⟨b, off, rfl, hbl, hc⟩ := H4.out (by omega)
      obtain ⟨c, hcc⟩ : ∃ c, bs[k]? = some c := ⟨bs[k], by simp [hlt]⟩
      have c0 := hc k (.bool c) (by simp [hcc])
      have i0 : (k : Int) < (bs.length : Int) := by omega
      have i2 : (0 : Int) ≤ (k : Int) := by omega
      clear hc hbl hcc
      cases c with
      | true =>
        go_wp2_with fail
        go_at_call 22
        refine (new_nil _ _ w).mono ?_
        rintro e w2 ⟨rfl, hw⟩
        have hw := hw.symm
        subst hw
        go_wp2
        go_roundw
        case rel => exact ⟨k + 1, by omega, by simp, by simp⟩
        case measure => simp [intOf]; omega
      | false =>
        go_wp2_with fail
        go_at_call 23
        refine (both_left _ w).mono ?_
        rintro e w2 ⟨rfl, hw⟩
        have hw := hw.symm
        subst hw
        go_wp2
        go_roundw
        case rel => exact ⟨k + 1, by omega, by simp, by simp⟩
        case measure => simp [intOf]; omega
    · have hkl : k = bs.length := by omega
      subst hkl
      have HX : Hid (Calls Tryd.prog 17 _ _ _) := op_none 0 .nilIface [] w (HP.out w) HT.out rfl
      go_wp2_with fail
      go_at_call 17
      refine HX.out.mono ?_
      rintro e w1 ⟨rfl, hb⟩
      have H1 : Hid (Below w.heap.size w w1) := hb
      clear hb HX
      have HX : Hid (Calls Tryd.prog 18 _ _ _) := code_any 0 .nilIface [] w1 (HP.out w1) (HT.out.below H1.out)
      go_wp2_with fail
      go_at_call 18
      refine HX.out.mono ?_
      rintro e w2 ⟨rfl, hb⟩
      have H2 : Hid (Below w.heap.size w w2) := bel2e H1.out hb
      have en : (nums []).headD 0 = 0 := rfl
      rw [en]
      clear hb HX H1 en
      have HX : Hid (Calls Tryd.prog 16 _ _ _) := chain_any 0 .nilIface [] w2 (HP.out w2) (HT.out.below H2.out) (by decide)
      go_wp2_with fail
      go_at_call 16
      refine HX.out.mono ?_
      rintro e w3 ⟨l, rfl, hr, hb⟩
      have H3 : Hid (Below w.heap.size w w3) := bel2e H2.out hb
      obtain ⟨lo, lc, hl, _⟩ := hr.sees
      have hl2 : l = .slice lo 0 lc := hl
      subst hl2
      clear hb HX H2 hr hl
      have HX : Hid (Calls Tryd.prog 20 _ _ _) := inner_any 0 .nilIface [] w3 (HP.out w3)
      go_wp2_with fail
      go_at_call 20
      refine HX.out.mono ?_
      rintro e w4 ⟨r, kk, rfl, hp, hb⟩
      have hr0 : r = .nilIface := Pre.empty hp
      subst hr0
      have H4b : Hid (Below w.heap.size w w4) := bel2e H3.out hb
      have B5 : Hid (Below w4.heap.size w4 (w4.alloc (.cells #[.int .i64 1, .int .i64 5] 39))) := (Below.refl _ _).alloc (Nat.le_refl _) _
      have S5 : Hid (Sees (w4.alloc (.cells #[.int .i64 1, .int .i64 5] 39)) (.slice (some ⟨w4.heap.size, 0, none⟩) 2 2) (([1, 5] : List Int).map (Value.int .i64))) := (rowV_lit w4 w4.heap.size 39 (([1, 5] : List Int).map (Value.int .i64)) (Nat.le_refl _) (by simp [maxLen])).sees
      have HY : Hid (Calls Tryd.prog 19 _ _ _) := fis_any 0 .nilIface _ [] [1, 5] _ (HP.out _) S5.out
      clear hb HX H3 hp S5
      go_wp2_with fail
      go_at_call 19
      refine HY.out.mono ?_
      rintro e w5 ⟨rfl, hb⟩
      have H5 : Hid (Below w.heap.size w w5) := bel2e (bel2e H4b.out B5.out) hb
      have en : (([1, 5] : List Int).any fun c => hit c []) = false := rfl
      rw [en]
      clear hb HY H4b B5 en
      have HX : Hid (Calls Tryd.prog 10 _ _ _) := awake_any w5 (HT.out.below H5.out)
      go_wp2_with fail
      go_at_call 10
      refine HX.out.mono ?_
      rintro e w6 ⟨rfl, hb⟩
      have H6 : Hid (Below w.heap.size w w6) := bel2e H5.out hb
      clear hb HX H5
      go_wp2
      go_ret
      exact ⟨rfl, H6.out⟩
theorem walk (x : Value) (bs : List Bool) (a1 : ByteArray) (w : World) (hx : Sees w x (bs.map Value.bool)) (hT : Tied w) :
    Calls Tryd.prog 8 #[x, .string a1] w fun e w' => e = .returned (.bool true) ∧ Below w.heap.size w w' := by
  obtain ⟨ao, cap, rfl, h1, h2, h3, h4⟩ := hx
  simp only [List.length_map] at *
  by_cases h : (60 : Int) < (bs.length : Int) ∨ (100 : Int) < (a1.size : Int)
  · exact out ao bs cap a1 w hT h
  · exact inside ao bs cap a1 w hT h4 (by omega) (by omega)

/-! The row's step. -/
set_option maxRecDepth 100000 in
theorem lifted (os : Os) (started : os.Started) (H : Type) (enc : TypeId × Value → H) :
    ReturnsInHanded {} Tryd.checked os 8 .any (fun w args => (Rows.faultNoneSpec.pre enc Tryd.prog Tryd.f8 [] false w args ∧ laidMetH Tryd.prog laid1 w) ∧ sizedMet enc Tryd.prog Tryd.f8 (OpenSpec.ofChange Rows.faultNoneSpec) false w args)
      (Rows.faultNoneSpec.post enc Tryd.prog Tryd.f8 false true false false) := by
  refine returnsInHanded_of_change_and (C := Tryd.checked) (X := fun w _ => laidMetH Tryd.prog laid1 w) (fun _ _ _ hh h => h.of_heap hh) own started (by kernel_rfl) Tryd.func8
    (ChangeSpec.witness_shaped (enc := enc) (C := Tryd.checked) (os := os) (X := fun w _ => laidMetH Tryd.prog laid1 w) false (World.doorLaid Tryd.prog 16 os) #[.slice none 0 0, .string ⟨#[]⟩] 8 rfl (World.shaped_of_RefB (by kernel_rfl) (by kernel_rfl)) (by kernel_rfl) (by kernel_rfl) (by kernel_rfl) (door_met os _)) ?_
  intro W base args ds gs before hval0 hW hcnd hsz hL _
  have hval : ∀ (j : Nat) t v, Tryd.f8.params[j]? = some t → args[j]? = some v → Value.okWide Tryd.prog W .any base t v := hval0
  have hW' := hW
  obtain ⟨p, q, hA0, hV, rfl, hfz, hnd⟩ := hW
  have hA : DataW.TrodAll enc Tryd.prog W 0 (fun _ => true) true Tryd.f8.params.toList args.toList ds p := hA0
  rw [Tryd.params8] at hA hval
  obtain ⟨v0, vs0, d0, ds0, p0, q0, hargs, rfl, rfl, h0, r0⟩ := trodAll_cons hA
  obtain ⟨v1, vs1, d1, ds1, p1, q1, rfl, rfl, rfl, h1, r1⟩ := trodAll_cons r0
  obtain ⟨rfl, rfl, rfl⟩ := trodAll_nil r1
  obtain rfl : args = #[v0, v1] := by cases args; simp_all
  obtain ⟨rfl, rfl⟩ := trodVars_none hV
  obtain ⟨a0, len0, cap0, rfl⟩ := okWide_slice Tryd.underlying51 (hval 0 51 v0 rfl rfl)
  have k0 := h0
  have lt0 : ∀ x ∈ p0, x.block < W.heap.size := by obtain ⟨m, hm⟩ := k0; exact DataW.trod_lt m _ _ _ hm
  obtain ⟨z0, w0⟩ : ∃ bs : List Bool, Sees W (.slice a0 len0 cap0) (bs.map Value.bool) := by
    obtain ⟨fuel, hf⟩ := h0
    exact bools_of Tryd.underlying51 Tryd.underlying4 (by kernel_rfl) hf
  obtain ⟨a1, rfl, rfl, rfl, w1⟩ := open_string Tryd.underlying9 (hval 1 9 v1 rfl rfl) h1
  clear hA0 hval0
  refine (walk _ z0 a1 W w0 (tied_of_laid hL)).mono fun e W' ⟨he, bel⟩ => ?_
  subst he
  exact ⟨_, rfl, _, _, _, [], _, [], hW', trodAll_mk1 (shut_bool Tryd.underlying4 _), (trodAll_cons_mk (Below.trod laidOut (by kernel_rfl) (of_decide_eq_true (by kernel_rfl)) k0 bel lt0) (trodAll_cons_mk (shut_string Tryd.underlying9 w1) trodAll_mk0)), rfl, bel.frame _, fun h => by cases h⟩

theorem over : Rows.faultNoneRow.holds Tryd.pinned (OpenSpec.ofChange Rows.faultNoneSpec) :=
  OpenClaim.holds_of_wide 8 Tryd.f8 rfl rfl rfl rfl rfl rfl rfl ⟨rfl, rfl, rfl, rfl, rfl⟩ rfl rfl rfl rfl rfl (by kernel_rfl) Tryd.func8 (by kernel_rfl)
    (of_decide_eq_true (by kernel_rfl)) (by unfold Func.isWrapper; first | (rw [if_pos (by decide +kernel)]; kernel_rfl) | (rw [if_neg (by decide +kernel)]; exact ⟨rfl, rfl⟩))
    (fun os started H enc _ => lifted os started H enc)

/-- The card, tied. -/
theorem proved : Rows.FaultNoneCardSaid :=
  Claim7.holds_tied_plain_at .later [] [.handle] true (true, "a2a5e8d745dccc1ea1945e6c68f635ba049041312b0aa45080a4b6eb55ba1ec7") true
    over (fun _ h => by cases h) (by kernel_rfl) (fun _ h => by cases h) faultNone_row_tie rfl ⟨rfl, rfl⟩ (by kernel_rfl) rfl
    (fun f fn hf hfn => by
      obtain rfl : f = 8 := Option.some.inj ((show Tryd.prog.funcNamed Rows.faultNoneRow.func = some 8 by kernel_rfl).symm.trans hf) |>.symm
      obtain rfl : fn = Tryd.f8 := (Option.some.inj (Tryd.func8.symm.trans hfn)).symm
      exact ⟨by kernel_rfl, fun j t ht => by
        rw [Tryd.params8] at ht
        have hm : t ∈ [51, 9] := by simpa using Array.mem_of_getElem? ht
        have hall : ([51, 9].all fun u => !Tryd.prog.wantsStandIn u) = true := by kernel_rfl
        exact (show Tryd.prog.wantsStandIn t = false by simpa using List.all_eq_true.1 hall t hm)⟩)
    (by kernel_rfl)
end Go.Proofs.YtlandjnhhcnbeaaDoor.faultNone

namespace Go.Proofs.YtlandjnhhcnbeaaDoor
/-- THE STATEMENT. -/
theorem faultNone_holds : Rows.FaultNoneCardSaid := faultNone.proved
#print axioms faultNone_holds
end Go.Proofs.YtlandjnhhcnbeaaDoor
