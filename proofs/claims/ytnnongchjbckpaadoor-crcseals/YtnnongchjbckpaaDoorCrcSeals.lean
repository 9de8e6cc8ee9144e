/-
  Proved here: for every two words the law CrcSeals returns true and leaves its arguments as they were: unlike numbers have unlike seals; what is sealed is told again; a word of noughts is none. The listed table is tied to the program text (the card). No condition besides.
-/
import Derived.Test.YtnnongchjbckpaaDoorRows
import Derived.Test.YtnnongchjbckpaaDoorTie
import Derived.Test.YtnnongchjbckpaaDoorCards
import Derived.Test.YtnnongchjbckpaaDoorDoor
import Derived.WalkKit
import Derived.ProofKit
import Derived.OpenShut
import Derived.ShutString
import Derived.ChangeOld
import Derived.Below
import Derived.SevenTiedAt
namespace Go.Proofs.YtnnongchjbckpaaDoor.crcSeals
open Go.ChangeShapes Go.WideShapes Go.ChangeAt Go.RowKit Kit
set_option linter.unusedVariables false

theorem low_and (a : Int) (n : Nat) (h : Hid (a = (n : Int))) (hn : a < 18446744073709551616) : bits .and .u64 a 4294967295 = ((sealN n : Nat) : Int) % 4294967296 := by
  have := h.out
  subst this
  have e := u64_and_nat n 4294967295 (by omega) (by omega)
  rw [show ((4294967295 : Nat) : Int) = 4294967295 from rfl] at e
  rw [e, Nat.and_two_pow_sub_one_eq_mod n 32]
  have := sealN_low n
  omega
theorem seals_eq (n m : Nat) : ((((sealN n : Nat) : Int) == ((sealN m : Nat) : Int)) == (((sealN n : Nat) : Int) % 4294967296 == ((sealN m : Nat) : Int) % 4294967296)) = true := by
  have h := sealN_eq_iff n m
  have h1 := sealN_low n
  have h2 := sealN_low m
  by_cases k : sealN n = sealN m
  · rw [k]; simp
  · have k2 : ¬ n % 4294967296 = m % 4294967296 := fun e => k (h.2 e)
    have k3 : ¬ ((sealN n : Nat) : Int) = ((sealN m : Nat) : Int) := fun e => k (by omega)
    have k4 : ¬ ((sealN n : Nat) : Int) % 4294967296 = ((sealN m : Nat) : Int) % 4294967296 := fun e => k2 (by omega)
    rw [beq_eq_false_iff_ne.2 k3, beq_eq_false_iff_ne.2 k4]; rfl
set_option maxRecDepth 4000 in
set_option maxHeartbeats 2000000 in
theorem walk (a0 a1 : Int) (w0 : (Lit.int .u64 a0).wf = true) (w1 : (Lit.int .u64 a1).wf = true) (w : World) (hT : Tab w) :
    Calls Tryd.prog 7 #[.int .u64 a0, .int .u64 a1] w fun e w' => e = .returned (.bool true) ∧ Below w.heap.size w w' := by
  have x0 : 0 ≤ a0 ∧ a0 < 18446744073709551616 := by have := bounds_u64 w0; omega
  have x1 : 0 ≤ a1 ∧ a1 < 18446744073709551616 := by have := bounds_u64 w1; omega
  clear w0 w1
  obtain ⟨n0, e0⟩ := Int.eq_ofNat_of_zero_le x0.1
  obtain ⟨n1, e1⟩ := Int.eq_ofNat_of_zero_le x1.1
  have E0 : Hid (a0 = (n0 : Int)) := e0
  have E1 : Hid (a1 = (n1 : Int)) := e1
  have L0 := low_and a0 n0 E0 (by omega)
  have L1 := low_and a1 n1 E1 (by omega)
  have hXY := seals_eq n0 n1
  have EX : Hid (((sealN n0 : Nat) : Int) = ((sealN n0 : Nat) : Int)) := rfl
  have SX : Hid (sealN (sealN n0) = sealN n0) := sealN_seal n0
  have SX2 : Hid (((sealN (sealN n0) : Nat) : Int) = ((sealN n0 : Nat) : Int)) := congrArg Nat.cast (sealN_seal n0)
  have Z : Hid ((0 : Int) = ((0 : Nat) : Int)) := rfl
  have SZ : Hid (sealN 0 ≠ 0) := sealN_zero
  have HT : Hid (Tab w) := hT
  clear hT x0 x1 e0 e1
  generalize hX : ((sealN n0 : Nat) : Int) = X at L0 EX SX2 hXY
  generalize hY : ((sealN n1 : Nat) : Int) = Y at L1 hXY
  have HX : Hid (_ = _) := hX
  have HY : Hid (_ = _) := hY
  clear hX hY
  have EX2 : Hid (X = ((sealN n0 : Nat) : Int)) := HX.out.symm
  have hp := HT.out.size
  go_enter Tryd.func7, Tryd.ntmps7
  go_wp2_with fail
  go_at_call 15
  refine (seal_any a0 n0 E0 w HT.out).mono ?_
  rintro e wa ⟨rfl, hb⟩
  rw [HX.out]
  have BA : Hid (Below w.heap.size w wa) := hb
  clear hb
  go_wp2_with fail
  go_at_call 15
  refine (seal_any a1 n1 E1 wa (HT.out.below BA.out hp)).mono ?_
  rintro e wb ⟨rfl, hb⟩
  rw [HY.out]
  have BB : Hid (Below w.heap.size w wb) := bel2 BA.out hb
  clear hb
  go_wp2_with fail
  go_at_call 9
  refine (sealed_yes X (sealN n0) EX2 wb (HT.out.below BB.out hp) SX).mono ?_
  rintro e wc ⟨rfl, hb⟩
  have BC : Hid (Below w.heap.size w wc) := bel2 BB.out hb
  clear hb
  go_wp2_with fail
  go_at_call 9
  refine (sealed_no 0 0 Z wc (HT.out.below BC.out hp) SZ).mono ?_
  rintro e wd ⟨rfl, hb⟩
  have BD : Hid (Below w.heap.size w wd) := bel2 BC.out hb
  clear hb
  go_wp2_with fail
  go_at_call 15
  refine (seal_any X (sealN n0) EX2 wd (HT.out.below BD.out hp)).mono ?_
  rintro e we ⟨rfl, hb⟩
  rw [SX2.out]
  have BE : Hid (Below w.heap.size w we) := bel2 BD.out hb
  clear hb
  go_wp2_with fail
  go_at_call 8
  refine (awake_any we (HT.out.below BE.out hp)).mono ?_
  rintro e wf ⟨rfl, hb⟩
  go_wp2
  go_ret
  exact ⟨rfl, bel2 BE.out hb⟩

/-! The row's step. -/
set_option maxRecDepth 100000 in
theorem lifted (os : Os) (started : os.Started) (H : Type) (enc : TypeId × Value → H) :
    ReturnsInHanded {} Tryd.checked os 7 .any (fun w args => (Rows.crcSealsSpec.pre enc Tryd.prog Tryd.f7 [] false w args ∧ laidMetH Tryd.prog laid1 w) ∧ sizedMet enc Tryd.prog Tryd.f7 (OpenSpec.ofChange Rows.crcSealsSpec) false w args)
      (Rows.crcSealsSpec.post enc Tryd.prog Tryd.f7 false true false false) := by
  refine returnsInHanded_of_change_and (C := Tryd.checked) (X := fun w _ => laidMetH Tryd.prog laid1 w) (fun _ _ _ hh h => h.of_heap hh) own started (by kernel_rfl) Tryd.func7
    (ChangeSpec.witness_shaped (enc := enc) (C := Tryd.checked) (os := os) (X := fun w _ => laidMetH Tryd.prog laid1 w) false (World.doorLaid Tryd.prog 14 os) #[.int .u64 0, .int .u64 0] 8 rfl (World.shaped_of_RefB (by kernel_rfl) (by kernel_rfl)) (by kernel_rfl) (by kernel_rfl) (by kernel_rfl) (door_met os _)) ?_
  intro W base args ds gs before hval0 hW hcnd hsz hL _
  have hval : ∀ (j : Nat) t v, Tryd.f7.params[j]? = some t → args[j]? = some v → Value.okWide Tryd.prog W .any base t v := hval0
  have hW' := hW
  obtain ⟨p, q, hA0, hV, rfl, hfz, hnd⟩ := hW
  have hA : DataW.TrodAll enc Tryd.prog W 0 (fun _ => true) true Tryd.f7.params.toList args.toList ds p := hA0
  rw [Tryd.params7] at hA hval
  obtain ⟨v0, vs0, d0, ds0, p0, q0, hargs, rfl, rfl, h0, r0⟩ := trodAll_cons hA
  obtain ⟨v1, vs1, d1, ds1, p1, q1, rfl, rfl, rfl, h1, r1⟩ := trodAll_cons r0
  obtain ⟨rfl, rfl, rfl⟩ := trodAll_nil r1
  obtain rfl : args = #[v0, v1] := by cases args; simp_all
  obtain ⟨rfl, rfl⟩ := trodVars_none hV
  obtain ⟨a0, rfl, rfl, rfl, w0⟩ := open_int Tryd.underlying24 (hval 0 24 v0 rfl rfl) h0
  obtain ⟨a1, rfl, rfl, rfl, w1⟩ := open_int Tryd.underlying24 (hval 1 24 v1 rfl rfl) h1
  clear hA0 hval0
  refine (walk a0 a1 w0 w1 W (tab_of_laid hL)).mono fun e W' ⟨he, bel⟩ => ?_
  subst he
  exact ⟨_, rfl, _, _, _, [], _, [], hW', trodAll_mk1 (shut_bool Tryd.underlying4 _), (trodAll_cons_mk (shut_int Tryd.underlying24 w0) (trodAll_cons_mk (shut_int Tryd.underlying24 w1) trodAll_mk0)), rfl, bel.frame _, fun h => by cases h⟩

theorem over : Rows.crcSealsRow.holds Tryd.pinned (OpenSpec.ofChange Rows.crcSealsSpec) :=
  OpenClaim.holds_of_wide 7 Tryd.f7 rfl rfl rfl rfl rfl rfl rfl ⟨rfl, rfl, rfl, rfl, rfl⟩ rfl rfl rfl rfl rfl (by kernel_rfl) Tryd.func7 (by kernel_rfl)
    (of_decide_eq_true (by kernel_rfl)) (by unfold Func.isWrapper; first | (rw [if_pos (by decide +kernel)]; kernel_rfl) | (rw [if_neg (by decide +kernel)]; exact ⟨rfl, rfl⟩))
    (fun os started H enc _ => lifted os started H enc)

/-- The card, tied. -/
theorem proved : Rows.CrcSealsCardSaid :=
  Claim7.holds_tied_plain_at .later [] [.data] true (true, "018943c7821482f50dfe816936e244883998ed36ed61f28ab1a620a4f86d7a87") false
    over (fun _ h => by cases h) (by kernel_rfl) (fun _ h => by cases h) crcSeals_row_tie rfl ⟨rfl, rfl⟩ (by kernel_rfl) rfl
    (fun f fn hf hfn => by
      obtain rfl : f = 7 := Option.some.inj ((show Tryd.prog.funcNamed Rows.crcSealsRow.func = some 7 by kernel_rfl).symm.trans hf) |>.symm
      obtain rfl : fn = Tryd.f7 := (Option.some.inj (Tryd.func7.symm.trans hfn)).symm
      exact ⟨by kernel_rfl, fun j t ht => by
        rw [Tryd.params7] at ht
        have hm : t ∈ [24, 24] := by simpa using Array.mem_of_getElem? ht
        have hall : ([24, 24].all fun u => !Tryd.prog.wantsStandIn u) = true := by kernel_rfl
        exact (show Tryd.prog.wantsStandIn t = false by simpa using List.all_eq_true.1 hall t hm)⟩)
    (by kernel_rfl)
end Go.Proofs.YtnnongchjbckpaaDoor.crcSeals

namespace Go.Proofs.YtnnongchjbckpaaDoor
/-- THE STATEMENT. -/
theorem crcSeals_holds : Rows.CrcSealsCardSaid := crcSeals.proved
#print axioms crcSeals_holds
end Go.Proofs.YtnnongchjbckpaaDoor
