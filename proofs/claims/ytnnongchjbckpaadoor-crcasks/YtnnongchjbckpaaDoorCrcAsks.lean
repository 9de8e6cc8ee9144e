/-
  Proved here: for every bytes, words and word the law CrcAsks returns true and leaves its arguments as they were: bytes and words have the sum that they should; a word is sealed, and told to be one or not, as the reference says. The listed table is tied to the program text (the card). No condition besides.
-/
import Derived.Test.YtnnongchjbckpaaDoorRows
import Derived.Test.YtnnongchjbckpaaDoorTie
import Derived.Test.YtnnongchjbckpaaDoorCards
import Derived.Test.YtnnongchjbckpaaDoorDoor
import Derived.Test.YtnnongchjbckpaaDoorOfWords
import Derived.WalkKit
import Derived.ProofKit
import Derived.OpenShut
import Derived.ShutString
import Derived.ChangeOld
import Derived.Below
import Derived.SevenTiedAt
namespace Go.Proofs.YtnnongchjbckpaaDoor.crcAsks
open Go.ChangeShapes Go.WideShapes Go.ChangeAt Go.RowKit Kit
set_option linter.unusedVariables false

set_option maxRecDepth 4000 in
set_option maxHeartbeats 4000000 in
theorem tail_any (a0 : Option Addr) (len0 cap0 : Nat) (l0 : List Int) (a1 : Option Addr) (len1 cap1 : Nat) (l1 : List Int) (x : Int) (n : Nat) (hx : Hid (x = (n : Int))) (hn : Hid (n < 18446744073709551616)) (w : World)
    (V0 : Hid (Vw w.heap.size w .u8 (.slice a0 len0 cap0) l0)) (V1 : Hid (Vw w.heap.size w .u64 (.slice a1 len1 cap1) l1)) (I0 : Hid (bytesIn l0)) (I1 : Hid (wordsIn l1)) (hl0 : len0 ≤ 600) (hl1 : len1 ≤ 80) (HL1 : Hid (l1.length = len1)) (HT : Hid (Tab w)) :
    Calls Tryd.prog 3 #[.slice a0 len0 cap0, .slice a1 len1 cap1, .int .u64 x] w fun e w' => e = .returned (.bool true) ∧ Below w.heap.size w w' := by
  have hp := HT.out.size
  have L0 : bits .and .u64 x 4294967295 = x % 4294967296 := by
    rw [hx.out, and32 n hn.out, lo32_int]
  have EL : Hid (x % 4294967296 = ((lo32 n : Nat) : Int)) := by show _ = _; rw [hx.out, lo32_int]
  have hlo : Hid (lo32 n < 18446744073709551616) := by show _ < _; unfold lo32; omega
  have ES : Hid (sealN (lo32 n) = sealN n) := (sealN_eq_iff _ _).2 (by unfold lo32; omega)
  by_cases hs : sealN n = n
  · have HS : Hid (sealN n = n) := hs
    have HSX : Hid (((sealN n : Nat) : Int) = x) := by show _ = _; rw [hx.out, hs]
    clear hs
    go_enter Tryd.func3, Tryd.ntmps3
    go_wp2_with fail
    go_at_call 9
    refine (sealed_yes x n hx w HT.out HS).mono ?_
    rintro e wa ⟨rfl, hb⟩
    have BA : Hid (Below w.heap.size w wa) := hb
    clear hb
    go_wp2_with fail
    go_at_call 10
    refine (refSeal_any _ (lo32 n) EL hlo wa).mono ?_
    rintro e wb ⟨rfl, hb⟩
    have BB : Hid (Below w.heap.size w wb) := bel2 BA.out hb
    clear hb
    rw [ES.out, HSX.out]
    go_wp2_with fail
    go_at_call 11
    refine (of_any _ l0 w.heap.size wb (V0.out.below BB.out) BB.out.size I0.out (HT.out.below BB.out hp)).mono ?_
    rintro e wc ⟨rfl, hb⟩
    have BC : Hid (Below w.heap.size w wc) := bel2 BB.out hb
    clear hb
    go_wp2_with fail
    go_at_call 12
    refine (refOf_any _ l0 w.heap.size wc (V0.out.below BC.out) I0.out).mono ?_
    rintro e wc2 ⟨rfl, h⟩
    have h := h.symm
    subst h
    generalize ((cOf (natB l0) : Nat) : Int) = C0
    go_wp2_with fail
    go_at_call 13
    refine (ofWords_any _ l1 w.heap.size wc (V1.out.below BC.out) BC.out.size I1.out (HT.out.below BC.out hp)).mono ?_
    rintro e wd ⟨rfl, hb⟩
    have BD : Hid (Below w.heap.size w wd) := bel2 BC.out hb
    clear hb
    go_wp2_with fail
    go_at_call 14
    refine (refWords_any _ l1 w.heap.size wd (V1.out.below BD.out) BD.out.size I1.out (by rw [HL1.out]; exact hl1)).mono ?_
    rintro e we ⟨rfl, hb⟩
    have BE : Hid (Below w.heap.size w we) := bel2 BD.out hb
    clear hb
    generalize ((cOf (allW l1 l1.length) : Nat) : Int) = C1
    go_wp2_with fail
    go_at_call 15
    refine (seal_any x n hx we (HT.out.below BE.out hp)).mono ?_
    rintro e wf ⟨rfl, hb⟩
    have BF : Hid (Below w.heap.size w wf) := bel2 BE.out hb
    clear hb
    go_wp2_with fail
    go_at_call 10
    refine (refSeal_any x n hx hn wf).mono ?_
    rintro e wg ⟨rfl, hb⟩
    have BG : Hid (Below w.heap.size w wg) := bel2 BF.out hb
    clear hb
    generalize ((sealN n : Nat) : Int) = S2
    go_wp2_with fail
    go_at_call 8
    refine (awake_any wg (HT.out.below BG.out hp)).mono ?_
    rintro e wh ⟨rfl, hb⟩
    go_wp2
    go_ret
    exact ⟨rfl, bel2 BG.out hb⟩
  · have HS : Hid (sealN n ≠ n) := hs
    clear hs
    have HNE : Hid (((sealN n : Nat) : Int) ≠ x) := by show _ ≠ _; rw [hx.out]; intro e; exact HS.out (by omega)
    go_enter Tryd.func3, Tryd.ntmps3
    go_wp2_with fail
    go_at_call 9
    refine (sealed_no x n hx w HT.out HS).mono ?_
    rintro e wa ⟨rfl, hb⟩
    have BA : Hid (Below w.heap.size w wa) := hb
    clear hb
    go_wp2_with fail
    go_at_call 10
    refine (refSeal_any _ (lo32 n) EL hlo wa).mono ?_
    rintro e wb ⟨rfl, hb⟩
    have BB : Hid (Below w.heap.size w wb) := bel2 BA.out hb
    clear hb
    rw [ES.out]
    have hne := beq_false_of_ne HNE.out
    generalize ((sealN n : Nat) : Int) = S at hne
    go_wp2_with fail
    go_at_call 11
    refine (of_any _ l0 w.heap.size wb (V0.out.below BB.out) BB.out.size I0.out (HT.out.below BB.out hp)).mono ?_
    rintro e wc ⟨rfl, hb⟩
    have BC : Hid (Below w.heap.size w wc) := bel2 BB.out hb
    clear hb
    go_wp2_with fail
    go_at_call 12
    refine (refOf_any _ l0 w.heap.size wc (V0.out.below BC.out) I0.out).mono ?_
    rintro e wc2 ⟨rfl, h⟩
    have h := h.symm
    subst h
    generalize ((cOf (natB l0) : Nat) : Int) = C0
    go_wp2_with fail
    go_at_call 13
    refine (ofWords_any _ l1 w.heap.size wc (V1.out.below BC.out) BC.out.size I1.out (HT.out.below BC.out hp)).mono ?_
    rintro e wd ⟨rfl, hb⟩
    have BD : Hid (Below w.heap.size w wd) := bel2 BC.out hb
    clear hb
    go_wp2_with fail
    go_at_call 14
    refine (refWords_any _ l1 w.heap.size wd (V1.out.below BD.out) BD.out.size I1.out (by rw [HL1.out]; exact hl1)).mono ?_
    rintro e we ⟨rfl, hb⟩
    have BE : Hid (Below w.heap.size w we) := bel2 BD.out hb
    clear hb
    generalize ((cOf (allW l1 l1.length) : Nat) : Int) = C1
    go_wp2_with fail
    go_at_call 15
    refine (seal_any x n hx we (HT.out.below BE.out hp)).mono ?_
    rintro e wf ⟨rfl, hb⟩
    have BF : Hid (Below w.heap.size w wf) := bel2 BE.out hb
    clear hb
    go_wp2_with fail
    go_at_call 10
    refine (refSeal_any x n hx hn wf).mono ?_
    rintro e wg ⟨rfl, hb⟩
    have BG : Hid (Below w.heap.size w wg) := bel2 BF.out hb
    clear hb
    generalize ((sealN n : Nat) : Int) = S2
    go_wp2_with fail
    go_at_call 8
    refine (awake_any wg (HT.out.below BG.out hp)).mono ?_
    rintro e wh ⟨rfl, hb⟩
    go_wp2
    go_ret
    exact ⟨rfl, bel2 BG.out hb⟩

set_option maxHeartbeats 1000000 in
theorem walk (a0 : Option Addr) (len0 cap0 : Nat) (z0 : List Int) (a1 : Option Addr) (len1 cap1 : Nat) (z1 : List Int) (a2 : Int) (w : World) (w0 : IsRow .u8 w a0 len0 cap0 z0) (w1 : IsRow .u64 w a1 len1 cap1 z1) (w2 : (Lit.int .u64 a2).wf = true) (hT : Tab w) :
    Calls Tryd.prog 3 #[.slice a0 len0 cap0, .slice a1 len1 cap1, .int .u64 a2] w fun e w' => e = .returned (.bool true) ∧ Below w.heap.size w w' := by
  have x2 : 0 ≤ a2 ∧ a2 < 18446744073709551616 := by have := bounds_u64 w2; omega
  obtain ⟨n, e2⟩ := Int.eq_ofNat_of_zero_le x2.1
  have HT : Hid (Tab w) := hT
  by_cases h0 : 600 < len0
  · clear w0 w1 w2 x2 hT e2
    go_enter Tryd.func3, Tryd.ntmps3
    go_wp2_with (go_at_call 8; refine (awake_any _ HT.out).mono ?_; rintro e w' ⟨rfl, hb⟩)
    go_ret
    exact ⟨rfl, hb⟩
  · by_cases h1 : 80 < len1
    · clear w0 w1 w2 x2 hT e2
      go_enter Tryd.func3, Tryd.ntmps3
      go_wp2_with (go_at_call 8; refine (awake_any _ HT.out).mono ?_; rintro e w' ⟨rfl, hb⟩)
      go_ret
      exact ⟨rfl, hb⟩
    · exact tail_any a0 len0 cap0 _ a1 len1 cap1 _ a2 n e2 (show n < 18446744073709551616 by omega) w (isRow_view w0) (isRow_view w1) (isRow_bytes w0) (isRow_words w1) (by omega) (by omega) (isRow_len w1).1 hT

/-! The row's step. -/
set_option maxRecDepth 100000 in
theorem lifted (os : Os) (started : os.Started) (H : Type) (enc : TypeId × Value → H) :
    ReturnsInHanded {} Tryd.checked os 3 .any (fun w args => (Rows.crcAsksSpec.pre enc Tryd.prog Tryd.f3 [] false w args ∧ laidMetH Tryd.prog laid1 w) ∧ sizedMet enc Tryd.prog Tryd.f3 (OpenSpec.ofChange Rows.crcAsksSpec) false w args)
      (Rows.crcAsksSpec.post enc Tryd.prog Tryd.f3 false true false false) := by
  refine returnsInHanded_of_change_and (C := Tryd.checked) (X := fun w _ => laidMetH Tryd.prog laid1 w) (fun _ _ _ hh h => h.of_heap hh) own started (by kernel_rfl) Tryd.func3
    (ChangeSpec.witness_shaped (enc := enc) (C := Tryd.checked) (os := os) (X := fun w _ => laidMetH Tryd.prog laid1 w) false (World.doorLaid Tryd.prog 14 os) #[.slice none 0 0, .slice none 0 0, .int .u64 0] 8 rfl (World.shaped_of_RefB (by kernel_rfl) (by kernel_rfl)) (by kernel_rfl) (by kernel_rfl) (by kernel_rfl) (door_met os _)) ?_
  intro W base args ds gs before hval0 hW hcnd hsz hL _
  have hval : ∀ (j : Nat) t v, Tryd.f3.params[j]? = some t → args[j]? = some v → Value.okWide Tryd.prog W .any base t v := hval0
  have hW' := hW
  obtain ⟨p, q, hA0, hV, rfl, hfz, hnd⟩ := hW
  have hA : DataW.TrodAll enc Tryd.prog W 0 (fun _ => true) true Tryd.f3.params.toList args.toList ds p := hA0
  rw [Tryd.params3] at hA hval
  obtain ⟨v0, vs0, d0, ds0, p0, q0, hargs, rfl, rfl, h0, r0⟩ := trodAll_cons hA
  obtain ⟨v1, vs1, d1, ds1, p1, q1, rfl, rfl, rfl, h1, r1⟩ := trodAll_cons r0
  obtain ⟨v2, vs2, d2, ds2, p2, q2, rfl, rfl, rfl, h2, r2⟩ := trodAll_cons r1
  obtain ⟨rfl, rfl, rfl⟩ := trodAll_nil r2
  obtain rfl : args = #[v0, v1, v2] := by cases args; simp_all
  obtain ⟨rfl, rfl⟩ := trodVars_none hV
  obtain ⟨a0, len0, cap0, rfl⟩ := okWide_slice Tryd.underlying22 (hval 0 22 v0 rfl rfl)
  have k0 := h0
  have lt0 : ∀ x ∈ p0, x.block < W.heap.size := by obtain ⟨m, hm⟩ := k0; exact DataW.trod_lt m _ _ _ hm
  obtain ⟨z0, w0⟩ : ∃ zs, IsRow .u8 W a0 len0 cap0 zs := by
    obtain ⟨fuel, hf⟩ := h0
    rcases open_ints Tryd.underlying22 Tryd.underlying5 (by kernel_rfl) hf with ⟨hcs, _⟩ | ⟨x, l, c, zs, hcs, _, hl, hm, hz, _, hcell, hwz⟩
    · simp [Value.cells] at hcs
      obtain ⟨rfl, rfl, rfl⟩ := hcs
      exact ⟨[], .inl ⟨rfl, rfl, rfl, rfl⟩⟩
    · simp [Value.cells] at hcs
      obtain ⟨rfl, rfl, rfl⟩ := hcs
      exact ⟨zs, .inr ⟨_, rfl, hl, hm, by simpa using hz, hcell, hwz⟩⟩
  obtain ⟨a1, len1, cap1, rfl⟩ := okWide_slice Tryd.underlying23 (hval 1 23 v1 rfl rfl)
  have k1 := h1
  have lt1 : ∀ x ∈ p1, x.block < W.heap.size := by obtain ⟨m, hm⟩ := k1; exact DataW.trod_lt m _ _ _ hm
  obtain ⟨z1, w1⟩ : ∃ zs, IsRow .u64 W a1 len1 cap1 zs := by
    obtain ⟨fuel, hf⟩ := h1
    rcases open_ints Tryd.underlying23 Tryd.underlying24 (by kernel_rfl) hf with ⟨hcs, _⟩ | ⟨x, l, c, zs, hcs, _, hl, hm, hz, _, hcell, hwz⟩
    · simp [Value.cells] at hcs
      obtain ⟨rfl, rfl, rfl⟩ := hcs
      exact ⟨[], .inl ⟨rfl, rfl, rfl, rfl⟩⟩
    · simp [Value.cells] at hcs
      obtain ⟨rfl, rfl, rfl⟩ := hcs
      exact ⟨zs, .inr ⟨_, rfl, hl, hm, by simpa using hz, hcell, hwz⟩⟩
  obtain ⟨a2, rfl, rfl, rfl, w2⟩ := open_int Tryd.underlying24 (hval 2 24 v2 rfl rfl) h2
  clear hA0 hval0
  refine (walk a0 len0 cap0 z0 a1 len1 cap1 z1 a2 W w0 w1 w2 (tab_of_laid hL)).mono fun e W' ⟨he, bel⟩ => ?_
  subst he
  exact ⟨_, rfl, _, _, _, [], _, [], hW', trodAll_mk1 (shut_bool Tryd.underlying4 _), (trodAll_cons_mk (Below.trod laidOut (by kernel_rfl) (of_decide_eq_true (by kernel_rfl)) k0 bel lt0) (trodAll_cons_mk (Below.trod laidOut (by kernel_rfl) (of_decide_eq_true (by kernel_rfl)) k1 bel lt1) (trodAll_cons_mk (shut_int Tryd.underlying24 w2) trodAll_mk0))), rfl, bel.frame _, fun h => by cases h⟩

theorem over : Rows.crcAsksRow.holds Tryd.pinned (OpenSpec.ofChange Rows.crcAsksSpec) :=
  OpenClaim.holds_of_wide 3 Tryd.f3 rfl rfl rfl rfl rfl rfl rfl ⟨rfl, rfl, rfl, rfl, rfl⟩ rfl rfl rfl rfl rfl (by kernel_rfl) Tryd.func3 (by kernel_rfl)
    (of_decide_eq_true (by kernel_rfl)) (by unfold Func.isWrapper; first | (rw [if_pos (by decide +kernel)]; kernel_rfl) | (rw [if_neg (by decide +kernel)]; exact ⟨rfl, rfl⟩))
    (fun os started H enc _ => lifted os started H enc)

/-- The card, tied. -/
theorem proved : Rows.CrcAsksCardSaid :=
  Claim7.holds_tied_plain_at .later [] [.data] true (true, "018943c7821482f50dfe816936e244883998ed36ed61f28ab1a620a4f86d7a87") false
    over (fun _ h => by cases h) (by kernel_rfl) (fun _ h => by cases h) crcAsks_row_tie rfl ⟨rfl, rfl⟩ (by kernel_rfl) rfl
    (fun f fn hf hfn => by
      obtain rfl : f = 3 := Option.some.inj ((show Tryd.prog.funcNamed Rows.crcAsksRow.func = some 3 by kernel_rfl).symm.trans hf) |>.symm
      obtain rfl : fn = Tryd.f3 := (Option.some.inj (Tryd.func3.symm.trans hfn)).symm
      exact ⟨by kernel_rfl, fun j t ht => by
        rw [Tryd.params3] at ht
        have hm : t ∈ [22, 23, 24] := by simpa using Array.mem_of_getElem? ht
        have hall : ([22, 23, 24].all fun u => !Tryd.prog.wantsStandIn u) = true := by kernel_rfl
        exact (show Tryd.prog.wantsStandIn t = false by simpa using List.all_eq_true.1 hall t hm)⟩)
    (by kernel_rfl)
end Go.Proofs.YtnnongchjbckpaaDoor.crcAsks

namespace Go.Proofs.YtnnongchjbckpaaDoor
/-- THE STATEMENT. -/
theorem crcAsks_holds : Rows.CrcAsksCardSaid := crcAsks.proved
#print axioms crcAsks_holds
end Go.Proofs.YtnnongchjbckpaaDoor
