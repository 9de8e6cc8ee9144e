/-
  Proved here: for every bytes, every number and word the law CrcFlips returns true and leaves its arguments as they were: one bit turned, anywhere, is another sum; a sealed word with one bit turned is none. The listed table is tied to the program text (the card). No condition besides.
-/
import Derived.Test.YtnnongchjbckpaaDoorRows
import Derived.Test.YtnnongchjbckpaaDoorTie
import Derived.Test.YtnnongchjbckpaaDoorCards
import Derived.Test.YtnnongchjbckpaaDoorDoor
import Derived.Test.YtnnongchjbckpaaDoorLay
import Derived.Test.YtnnongchjbckpaaDoorRound
import Derived.WalkKit
import Derived.ProofKit
import Derived.OpenShut
import Derived.ShutString
import Derived.ChangeOld
import Derived.Below
import Derived.SevenTiedAt
import Derived.RegionTactic
import Derived.ChangeAlike
namespace Go.Proofs.YtnnongchjbckpaaDoor.crcFlips
open Go.ChangeShapes Go.WideShapes Go.ChangeAt Go.RowKit Kit
set_option linter.unusedVariables false

theorem row_lit0 (w : World) : Row (w.alloc (.cells #[] 5)) w.heap.size .u8 5 (.slice (some ⟨w.heap.size, 0, none⟩) 0 0) [] := row_empty w .u8 5 w.heap.size (Nat.le_refl _)
theorem flip_val (c : Int) (j : Nat) (c0 : 0 ≤ c) (c1 : c < 256) (hj : j < 8) : bits .xor .u8 c (2 ^ j % 256) = ((c.toNat ^^^ 2 ^ j : Nat) : Int) := by
  have e : (2 : Nat) ^ j < 256 := by have := Nat.pow_lt_pow_right (a := 2) (by omega) hj; omega
  have e2 : ((2 : Int) ^ j) = ((2 ^ j : Nat) : Int) := by simp
  have e3 : ((2 : Int) ^ j % 256) = ((2 ^ j : Nat) : Int) := by rw [e2]; generalize (2 : Nat) ^ j = q at *; omega
  have e4 : c = ((c.toNat : Nat) : Int) := by omega
  rw [e3]
  conv => lhs; rw [e4]
  exact u8_xor_nat _ _ (by omega) e
theorem flip_of (l : List Int) (i j : Nat) (hi : i < l.length) (hl : bytesIn l) (hj : j < 8) : cOf (natB (l.set i (((l.getD i 0).toNat ^^^ 2 ^ j : Nat) : Int))) ≠ cOf (natB l) := by
  have hb := bytesIn_get hl hi
  have ht := byte_turned (l.getD i 0).toNat j (by omega) hj
  have e : natB (l.set i (((l.getD i 0).toNat ^^^ 2 ^ j : Nat) : Int)) = (natB l).set i ((l.getD i 0).toNat ^^^ 2 ^ j) := by
    unfold natB; rw [List.map_set]; rfl
  have hi2 : i < (natB l).length := by simpa [natB] using hi
  rw [e]
  refine cOf_set (natB l) i _ hi2 (natB_bytes hl) ht.2 ?_
  have : (natB l)[i] = (l.getD i 0).toNat := by simp [natB, List.getD, hi]
  rw [this]; exact ht.1
theorem flip_in (l : List Int) (i j : Nat) (hi : i < l.length) (hl : bytesIn l) (hj : j < 8) : bytesIn (l.set i (((l.getD i 0).toNat ^^^ 2 ^ j : Nat) : Int)) := by
  have hb := bytesIn_get hl hi
  have ht := byte_turned (l.getD i 0).toNat j (by omega) hj
  exact bytesIn_set hl i (by omega) (by omega)
theorem word_flip (W : Nat) (k : Nat) (hW : W < 18446744073709551616) (hk : k < 64) : bits .xor .u64 (W : Int) (IntKind.u64.wrap (2 ^ k)) = ((W ^^^ 2 ^ k : Nat) : Int) := by
  have e : (2 : Nat) ^ k < 18446744073709551616 := Nat.pow_lt_pow_right (a := 2) (by omega) hk
  have e2 : ((2 : Int) ^ k) = ((2 ^ k : Nat) : Int) := by simp
  have e3 : ((2 : Int) ^ k % 18446744073709551616) = ((2 ^ k : Nat) : Int) := by rw [e2]; generalize (2 : Nat) ^ k = q at *; omega
  have w1 : ∀ n : Int, IntKind.u64.wrap n = n % 18446744073709551616 := fun n => by simp [IntKind.wrap, IntKind.bits, IntKind.signed]
  rw [w1, e3]
  exact u64_xor_nat _ _ hW e
set_option maxRecDepth 4000 in
set_option maxHeartbeats 4000000 in
theorem tail_any (a0 : Option Addr) (len0 cap0 : Nat) (l0 : List Int) (bit x : Int) (n : Nat) (k0 : -9223372036854775808 ≤ bit) (k1 : bit ≤ 9223372036854775807) (hx : Hid (x = (n : Int))) (hn : Hid (n < 18446744073709551616)) (w : World)
    (V0 : Hid (Vw w.heap.size w .u8 (.slice a0 len0 cap0) l0)) (I0 : Hid (bytesIn l0)) (hz : 0 < len0) (hl0 : len0 ≤ 600) (HL : Hid (l0.length = len0)) (HT : Hid (Tab w)) :
    Calls Tryd.prog 5 #[.slice a0 len0 cap0, .int .i64 bit, .int .u64 x] w fun e w' => e = .returned (.bool true) ∧ Below w.heap.size w w' := by
  have hp := HT.out.size
  have hq : ((len0 : Int) == 0) = false := beq_eq_false_iff_ne.2 (by omega)
  obtain ⟨I, hI⟩ := Int.eq_ofNat_of_zero_le (Int.emod_nonneg bit (b := 8 * (len0 : Int)) (by omega))
  have hIl : (I : Int) < 8 * (len0 : Int) := by rw [← hI]; exact Int.emod_lt_of_pos _ (by omega)
  have HI : Hid (bit % (8 * (len0 : Int)) = (I : Int)) := hI
  clear hI
  obtain ⟨K, hK⟩ := Int.eq_ofNat_of_zero_le (Int.emod_nonneg bit (b := (64 : Int)) (by omega))
  have hKl : (K : Int) < 64 := by rw [← hK]; exact Int.emod_lt_of_pos _ (by omega)
  have HK : Hid (bit % 64 = (K : Int)) := hK
  clear hK
  have SX : Hid (sealN (sealN n) = sealN n) := sealN_seal n
  have SW : Hid (_ = _) := word_flip (sealN n) K (sealN_lt n) (by omega)
  have ST : Hid (_ ≠ _) := seal_turned n K (by omega)
  have BW : Hid (Below w.heap.size w (w.alloc (.cells #[] 5))) := (Below.refl _ _).alloc (Nat.le_refl _) _
  go_enter Tryd.func5, Tryd.ntmps5
  go_wp2_with (first | (at_builtin; refine wpList_app Tryd.underlying22 Tryd.info5 (by omega) rfl (.tmp 23) (.tmp 24) rfl w.heap.size _ [] rfl (row_lit0 w) w.heap.size _ l0 rfl (V0.out.below BW.out) (by rw [HL.out]; simp; omega) (by simp) ?_; intro v1 w1 hr1 hb1))
  simp only [List.nil_append] at hr1
  obtain ⟨g, cap, rfl, hg, hgs, hlc, hcm, hcell⟩ := row_form hr1 (by rw [HL.out]; exact hz)
  have hI8 : I / 8 < l0.length := by rw [HL.out]; omega
  have hck := hcell (I / 8) hI8
  have hfz := Row.frozen hr1 rfl (I / 8)
  have hcb := bytesIn_get I0.out hI8
  rw [HL.out] at hr1
  have HR1 : Hid (Row w1 w.heap.size .u8 5 (.slice (some ⟨g, 0, none⟩) len0 cap) l0 ∧ Below w.heap.size w w1 ∧ w.heap.size ≤ g ∧ g < w1.heap.size) := ⟨hr1, BW.out.trans hb1, hg, hgs⟩
  rw [HL.out]
  have hlc2 : len0 ≤ cap := by rw [← HL.out]; exact hlc
  have HC : Hid (∃ c, c = l0.getD (I / 8) 0) := ⟨_, rfl⟩
  obtain ⟨c, hc⟩ := HC.out
  rw [← hc] at hck hcb
  have HCC : Hid (c = l0.getD (I / 8) 0) := hc
  obtain ⟨c0, c1⟩ := hcb
  clear hr1 hb1 hcell hc HC hg hgs hlc
  go_wp2_with fail
  go_at_call 21
  refine (round_any bit (8 * (len0 : Int)) w1 k0 k1 (by omega) (by omega)).mono ?_
  rintro e w1' ⟨rfl, h⟩
  have h := h.symm
  subst h
  rw [HI.out]
  have i0 : (0 : Int) ≤ (I : Int) / 8 := by omega
  have i1 : (I : Int) / 8 < (len0 : Int) := by omega
  go_wp2_with fail
  go_region
  have hj : I % 8 < 8 := by omega
  rw [flip_val c (I % 8) c0 c1 hj]
  have HI8 : Hid (I / 8 < l0.length) := hI8
  have HF : Hid (cOf (natB (l0.set (I / 8) ((c.toNat ^^^ 2 ^ (I % 8) : Nat) : Int))) ≠ cOf (natB l0)) := by rw [HCC.out]; exact flip_of l0 (I / 8) (I % 8) hI8 I0.out hj
  have HFI : Hid (bytesIn (l0.set (I / 8) ((c.toNat ^^^ 2 ^ (I % 8) : Nat) : Int))) := by rw [HCC.out]; exact flip_in l0 (I / 8) (I % 8) hI8 I0.out hj
  have HR2 : Hid (Row ((w1.setCell ⟨g, I / 8, none⟩ (.int .u8 ((c.toNat ^^^ 2 ^ (I % 8) : Nat) : Int))).drew) w.heap.size .u8 5 (.slice (some ⟨g, 0, none⟩) len0 cap) (l0.set (I / 8) ((c.toNat ^^^ 2 ^ (I % 8) : Nat) : Int)) ∧ Below w.heap.size w ((w1.setCell ⟨g, I / 8, none⟩ (.int .u8 ((c.toNat ^^^ 2 ^ (I % 8) : Nat) : Int))).drew)) :=
    ⟨World.ownsRow.drew (Row.stored HR1.out.1 HL.out (I / 8) _), (HR1.out.2.1.setCell (by exact HR1.out.2.2.1) _).drew⟩
  clear hck hfz HCC HR1 hI8
  generalize l0.set (I / 8) ((c.toNat ^^^ 2 ^ (I % 8) : Nat) : Int) = l1 at HF HFI HR2
  generalize ((w1.setCell ⟨g, I / 8, none⟩ (.int .u8 ((c.toNat ^^^ 2 ^ (I % 8) : Nat) : Int))).drew) = w2 at HR2 ⊢
  go_wp2_with fail
  go_at_call 15
  refine (seal_any x n hx w2 (HT.out.below HR2.out.2 hp)).mono ?_
  rintro e wa ⟨rfl, hb⟩
  have HR3 : Hid (Row wa w.heap.size .u8 5 (.slice (some ⟨g, 0, none⟩) len0 cap) l1 ∧ Below w.heap.size w wa) := ⟨HR2.out.1.below hb (fun j hj => HR2.out.1.lt j hj), bel2 HR2.out.2 hb⟩
  clear hb HR2
  go_wp2_with fail
  go_at_call 9
  refine (sealed_yes _ (sealN n) (id rfl) wa (HT.out.below HR3.out.2 hp) SX).mono ?_
  rintro e wb ⟨rfl, hb⟩
  have HR4 : Hid (Row wb w.heap.size .u8 5 (.slice (some ⟨g, 0, none⟩) len0 cap) l1 ∧ Below w.heap.size w wb) := ⟨HR3.out.1.below hb (fun j hj => HR3.out.1.lt j hj), bel2 HR3.out.2 hb⟩
  clear hb HR3
  go_wp2_with fail
  go_at_call 21
  refine (round_any bit 64 wb k0 k1 (by omega) (by omega)).mono ?_
  rintro e wb' ⟨rfl, h⟩
  have h := h.symm
  subst h
  rw [HK.out]
  go_wp2_with fail
  go_at_call 9
  refine (sealed_no _ (sealN n ^^^ 2 ^ K) SW wb (HT.out.below HR4.out.2 hp) ST).mono ?_
  rintro e wc ⟨rfl, hb⟩
  have HR5 : Hid (Row wc w.heap.size .u8 5 (.slice (some ⟨g, 0, none⟩) len0 cap) l1 ∧ Below w.heap.size w wc) := ⟨HR4.out.1.below hb (fun j hj => HR4.out.1.lt j hj), bel2 HR4.out.2 hb⟩
  clear hb HR4
  go_wp2_with fail
  go_at_call 11
  refine (of_any _ l1 wc.heap.size wc (row_view HR5.out.1) (Nat.le_refl _) HFI.out (HT.out.below HR5.out.2 hp)).mono ?_
  rintro e wd ⟨rfl, hb⟩
  have BD : Hid (Below w.heap.size w wd) := bel2 HR5.out.2 hb
  clear hb
  go_wp2_with fail
  go_at_call 11
  refine (of_any _ l0 w.heap.size wd (V0.out.below BD.out) BD.out.size I0.out (HT.out.below BD.out hp)).mono ?_
  rintro e we ⟨rfl, hb⟩
  have BE : Hid (Below w.heap.size w we) := bel2 BD.out hb
  clear hb
  have hne : ¬ ((cOf (natB l1) : Nat) : Int) = ((cOf (natB l0) : Nat) : Int) := fun e => HF.out (by omega)
  have hne2 : Hid ((((cOf (natB l1) : Nat) : Int) != ((cOf (natB l0) : Nat) : Int)) = true) := bne_iff_ne.2 hne
  clear HF
  generalize ((cOf (natB l1) : Nat) : Int) = C1 at *
  generalize ((cOf (natB l0) : Nat) : Int) = C0 at *
  go_wp2_with fail
  go_at_call 8
  refine (awake_any we (HT.out.below BE.out hp)).mono ?_
  rintro e wf ⟨rfl, hb⟩
  go_wp2
  go_ret
  exact ⟨congrArg (fun t => Ending.returned (.bool t)) hne2.out, bel2 BE.out hb⟩


set_option maxHeartbeats 1000000 in
theorem walk (a0 : Option Addr) (len0 cap0 : Nat) (z0 : List Int) (a1 a2 : Int) (w : World) (w0 : IsRow .u8 w a0 len0 cap0 z0) (w1 : (Lit.int .i64 a1).wf = true) (w2 : (Lit.int .u64 a2).wf = true) (hT : Tab w) :
    Calls Tryd.prog 5 #[.slice a0 len0 cap0, .int .i64 a1, .int .u64 a2] w fun e w' => e = .returned (.bool true) ∧ Below w.heap.size w w' := by
  have x2 : 0 ≤ a2 ∧ a2 < 18446744073709551616 := by have := bounds_u64 w2; omega
  have x1 := bounds_i64 w1
  obtain ⟨n, e2⟩ := Int.eq_ofNat_of_zero_le x2.1
  have HT : Hid (Tab w) := hT
  by_cases h0 : len0 = 0
  · subst h0
    clear w0 w1 w2 x2 x1 hT e2
    go_enter Tryd.func5, Tryd.ntmps5
    go_wp2_with (go_at_call 8; refine (awake_any _ HT.out).mono ?_; rintro e w' ⟨rfl, hb⟩)
    go_ret
    exact ⟨rfl, hb⟩
  · have hq : ((len0 : Int) == 0) = false := beq_eq_false_iff_ne.2 (by omega)
    by_cases h1 : 600 < len0
    · clear w0 w1 w2 x2 x1 hT e2
      go_enter Tryd.func5, Tryd.ntmps5
      go_wp2_with (go_at_call 8; refine (awake_any _ HT.out).mono ?_; rintro e w' ⟨rfl, hb⟩)
      go_ret
      exact ⟨rfl, hb⟩
    · exact tail_any a0 len0 cap0 _ a1 a2 n (by omega) (by omega) e2 (show n < 18446744073709551616 by omega) w (isRow_view w0) (isRow_bytes w0) (by omega) (by omega) (isRow_len w0).1 hT

/-! The row's step. -/
set_option maxRecDepth 100000 in
theorem lifted (os : Os) (started : os.Started) (H : Type) (enc : TypeId × Value → H) :
    ReturnsInHanded {} Tryd.checked os 5 .any (fun w args => (Rows.crcFlipsSpec.pre enc Tryd.prog Tryd.f5 [] false w args ∧ laidMetH Tryd.prog laid1 w) ∧ sizedMet enc Tryd.prog Tryd.f5 (OpenSpec.ofChange Rows.crcFlipsSpec) false w args)
      (Rows.crcFlipsSpec.post enc Tryd.prog Tryd.f5 false true false false) := by
  refine returnsInHanded_of_change_and (C := Tryd.checked) (X := fun w _ => laidMetH Tryd.prog laid1 w) (fun _ _ _ hh h => h.of_heap hh) own started (by kernel_rfl) Tryd.func5
    (ChangeSpec.witness_shaped (enc := enc) (C := Tryd.checked) (os := os) (X := fun w _ => laidMetH Tryd.prog laid1 w) false (World.doorLaid Tryd.prog 14 os) #[.slice none 0 0, .int .i64 0, .int .u64 0] 8 rfl (World.shaped_of_RefB (by kernel_rfl) (by kernel_rfl)) (by kernel_rfl) (by kernel_rfl) (by kernel_rfl) (door_met os _)) ?_
  intro W base args ds gs before hval0 hW hcnd hsz hL _
  have hval : ∀ (j : Nat) t v, Tryd.f5.params[j]? = some t → args[j]? = some v → Value.okWide Tryd.prog W .any base t v := hval0
  have hW' := hW
  obtain ⟨p, q, hA0, hV, rfl, hfz, hnd⟩ := hW
  have hA : DataW.TrodAll enc Tryd.prog W 0 (fun _ => true) true Tryd.f5.params.toList args.toList ds p := hA0
  rw [Tryd.params5] at hA hval
  obtain ⟨v0, vs0, d0, ds0, p0, q0, hargs, rfl, rfl, h0, r0⟩ := trodAll_cons hA
  obtain ⟨v1, vs1, d1, ds1, p1, q1, rfl, rfl, rfl, h1, r1⟩ := trodAll_cons r0
  obtain ⟨v2, vs2, d2, ds2, p2, q2, rfl, rfl, rfl, h2, r2⟩ := trodAll_cons r1
  obtain ⟨rfl, rfl, rfl⟩ := trodAll_nil r2
  obtain rfl : args = #[v0, v1, v2] := by cases args; simp_all
  obtain ⟨rfl, rfl⟩ := trodVars_none hV
  obtain ⟨a0, len0, cap0, rfl⟩ := okWide_slice Tryd.underlying22 (hval 0 22 v0 rfl rfl)
  have k0 := h0
  have lt0 : ∀ x ∈ p0, x.block < W.heap.size := by obtain ⟨m, hm⟩ := k0; exact DataW.trod_lt m _ _ _ hm
  obtain ⟨z0, w0⟩ : ∃ zs, IsRow .u8 W a0 len0 cap0 zs := by
    obtain ⟨fuel, hf⟩ := h0
    rcases open_ints Tryd.underlying22 Tryd.underlying5 (by kernel_rfl) hf with ⟨hcs, _⟩ | ⟨x, l, c, zs, hcs, _, hl, hm, hz, _, hcell, hwz⟩
    · simp [Value.cells] at hcs
      obtain ⟨rfl, rfl, rfl⟩ := hcs
      exact ⟨[], .inl ⟨rfl, rfl, rfl, rfl⟩⟩
    · simp [Value.cells] at hcs
      obtain ⟨rfl, rfl, rfl⟩ := hcs
      exact ⟨zs, .inr ⟨_, rfl, hl, hm, by simpa using hz, hcell, hwz⟩⟩
  obtain ⟨a1, rfl, rfl, rfl, w1⟩ := open_int Tryd.underlying3 (hval 1 3 v1 rfl rfl) h1
  obtain ⟨a2, rfl, rfl, rfl, w2⟩ := open_int Tryd.underlying24 (hval 2 24 v2 rfl rfl) h2
  clear hA0 hval0
  refine (walk a0 len0 cap0 z0 a1 a2 W w0 w1 w2 (tab_of_laid hL)).mono fun e W' ⟨he, bel⟩ => ?_
  subst he
  exact ⟨_, rfl, _, _, _, [], _, [], hW', trodAll_mk1 (shut_bool Tryd.underlying4 _), (trodAll_cons_mk (Below.trod laidOut (by kernel_rfl) (of_decide_eq_true (by kernel_rfl)) k0 bel lt0) (trodAll_cons_mk (shut_int Tryd.underlying3 w1) (trodAll_cons_mk (shut_int Tryd.underlying24 w2) trodAll_mk0))), rfl, bel.frame _, fun h => by cases h⟩

theorem over : Rows.crcFlipsRow.holds Tryd.pinned (OpenSpec.ofChange Rows.crcFlipsSpec) :=
  OpenClaim.holds_of_wide 5 Tryd.f5 rfl rfl rfl rfl rfl rfl rfl ⟨rfl, rfl, rfl, rfl, rfl⟩ rfl rfl rfl rfl rfl (by kernel_rfl) Tryd.func5 (by kernel_rfl)
    (of_decide_eq_true (by kernel_rfl)) (by unfold Func.isWrapper; first | (rw [if_pos (by decide +kernel)]; kernel_rfl) | (rw [if_neg (by decide +kernel)]; exact ⟨rfl, rfl⟩))
    (fun os started H enc _ => lifted os started H enc)

/-- The card, tied. -/
theorem proved : Rows.CrcFlipsCardSaid :=
  Claim7.holds_tied_plain_at .later [] [.data] true (true, "018943c7821482f50dfe816936e244883998ed36ed61f28ab1a620a4f86d7a87") false
    over (fun _ h => by cases h) (by kernel_rfl) (fun _ h => by cases h) crcFlips_row_tie rfl ⟨rfl, rfl⟩ (by kernel_rfl) rfl
    (fun f fn hf hfn => by
      obtain rfl : f = 5 := Option.some.inj ((show Tryd.prog.funcNamed Rows.crcFlipsRow.func = some 5 by kernel_rfl).symm.trans hf) |>.symm
      obtain rfl : fn = Tryd.f5 := (Option.some.inj (Tryd.func5.symm.trans hfn)).symm
      exact ⟨by kernel_rfl, fun j t ht => by
        rw [Tryd.params5] at ht
        have hm : t ∈ [22, 3, 24] := by simpa using Array.mem_of_getElem? ht
        have hall : ([22, 3, 24].all fun u => !Tryd.prog.wantsStandIn u) = true := by kernel_rfl
        exact (show Tryd.prog.wantsStandIn t = false by simpa using List.all_eq_true.1 hall t hm)⟩)
    (by kernel_rfl)
end Go.Proofs.YtnnongchjbckpaaDoor.crcFlips

namespace Go.Proofs.YtnnongchjbckpaaDoor
/-- THE STATEMENT. -/
theorem crcFlips_holds : Rows.CrcFlipsCardSaid := crcFlips.proved
#print axioms crcFlips_holds
end Go.Proofs.YtnnongchjbckpaaDoor
