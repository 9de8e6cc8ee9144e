/-
  Proved here: for every list of texts and every number the law FaultOrder returns true and leaves its arguments as they were: the outermost Fault is told, whatever stands within; the chain goes from without inward, each once. The listed variable is tied to the program text (the card). No condition besides.
-/
import Derived.Test.YtlandjnhhcnbeaaDoorRows
import Derived.Test.YtlandjnhhcnbeaaDoorTie
import Derived.Test.YtlandjnhhcnbeaaDoorCards
import Derived.Test.YtlandjnhhcnbeaaDoorEnds
import Derived.Test.YtlandjnhhcnbeaaDoorDoor
import Derived.WalkKit
import Derived.ProofKit
import Derived.OpenShut
import Derived.ShutString
import Derived.ChangeOld
import Derived.Below
import Derived.SevenTiedAt
namespace Go.Proofs.YtlandjnhhcnbeaaDoor.faultOrder
open Go.ChangeShapes Go.WideShapes Go.ChangeAt Go.RowKit Go.ChangeMaps Kit
set_option linter.unusedVariables false

/-- The place that is given. -/
def pP : ByteArray := ⟨#[47, 112]⟩
theorem pair_txt (s : ByteArray) : txt (s, pP) = s ++ ⟨#[32, 47, 112]⟩ := by
  show (s ++ ⟨#[32]⟩) ++ pP = _
  rw [ByteArray.append_assoc]
  exact congrArg (s ++ ·) (by decide)
/-- What has been wrapped so far. -/
def Rel (w : World) (ss : List ByteArray) (a1 : Int) (k : Nat) (e : Value) (wr : World) : Prop :=
  ∃ ns, Pre wr (ss.length - k + 1) e ns ∧ e ≠ .nilIface ∧ chainOf ns = (ss.drop k).map (fun s => (s, pP)) ∧ innerOf ns = [(39, .int .i64 a1, [])] ∧ (∀ j, k ≤ j → j < ss.length → (ss.getD j ⟨#[]⟩).size ≤ 60) ∧ Below w.heap.size w wr
theorem drop_cons (ss : List ByteArray) (k : Nat) (h : k < ss.length) : ss.drop k = ss.getD k ⟨#[]⟩ :: ss.drop (k + 1) := by
  rw [List.drop_eq_getElem_cons h]; simp [List.getD, h]
theorem Rel.step {w w2 : World} {ss : List ByteArray} {a1 : Int} {k b : Nat} {ns : List Nd} (hk : k < ss.length) (h1 : (ss.getD k ⟨#[]⟩).size ≤ 60) (hc : chainOf ns = (ss.drop (k + 1)).map (fun s => (s, pP))) (hi : innerOf ns = [(39, .int .i64 a1, [])]) (hs : ∀ j, k + 1 ≤ j → j < ss.length → (ss.getD j ⟨#[]⟩).size ≤ 60) (hb : Below w.heap.size w w2)
    (hp : Pre w2 (ss.length - (k + 1) + 1 + 1) (.iface 54 (.pointer (some ⟨b, 0, none⟩))) ((54, .pointer (some ⟨b, 0, none⟩), (ss.getD k ⟨#[]⟩, pP) :: chainOf ns) :: ns)) : Rel w ss a1 k (.iface 54 (.pointer (some ⟨b, 0, none⟩))) w2 := by
  refine ⟨(54, .pointer (some ⟨b, 0, none⟩), (ss.getD k ⟨#[]⟩, pP) :: chainOf ns) :: ns, ?_, by simp, ?_, ?_, ?_, hb⟩
  · exact (show ss.length - k + 1 = ss.length - (k + 1) + 1 + 1 by omega) ▸ hp
  · rw [chainOf_hit, hc, drop_cons ss k hk]; rfl
  · rw [innerOf_fault]; exact hi
  · intro j h2 h3
    by_cases e : j = k
    · subst e; exact h1
    · exact hs j (by omega) h3
set_option maxRecDepth 4000 in
set_option maxHeartbeats 2000000 in
theorem out (ao : Option Addr) (ss : List ByteArray) (cap : Nat) (a1 : Int) (h0 : ¬ (ss.length : Int) = 0) (w : World) (hT : Tied w) (h : (30 : Int) < (ss.length : Int) ∨ a1 < 1 ∨ 19 < a1) :
    Calls Tryd.prog 7 #[.slice ao ss.length cap, .int .i64 a1] w fun e w' => e = .returned (.bool true) ∧ Below w.heap.size w w' := by
  have HX : Hid (Calls Tryd.prog 10 _ _ _) := awake_any w hT
  clear hT
  have g0 : ((ss.length : Int) == 0) = false := beq_eq_false_iff_ne.2 h0
  by_cases c0 : (30 : Int) < (ss.length : Int)
  · clear h
    go_enter Tryd.func7, Tryd.ntmps7
    go_wp2_with fail
    go_at_call 10
    refine HX.out.mono ?_
    rintro e w1 ⟨rfl, hb⟩
    have HB : Hid (Below w.heap.size w w1) := hb
    clear hb HX
    go_wp2
    go_ret
    exact ⟨rfl, HB.out⟩
  by_cases c1 : a1 < 1
  · clear h
    go_enter Tryd.func7, Tryd.ntmps7
    go_wp2_with fail
    go_at_call 10
    refine HX.out.mono ?_
    rintro e w1 ⟨rfl, hb⟩
    have HB : Hid (Below w.heap.size w w1) := hb
    clear hb HX
    go_wp2
    go_ret
    exact ⟨rfl, HB.out⟩
  have c2 : 19 < a1 := by omega
  clear h
  go_enter Tryd.func7, Tryd.ntmps7
  go_wp2_with fail
  go_at_call 10
  refine HX.out.mono ?_
  rintro e w1 ⟨rfl, hb⟩
  have HB : Hid (Below w.heap.size w w1) := hb
  clear hb HX
  go_wp2
  go_ret
  exact ⟨rfl, HB.out⟩
set_option maxRecDepth 4000 in
set_option maxHeartbeats 2000000 in
theorem out0 (ao : Option Addr) (cap : Nat) (a1 : Int) (w : World) (hT : Tied w) :
    Calls Tryd.prog 7 #[.slice ao 0 cap, .int .i64 a1] w fun e w' => e = .returned (.bool true) ∧ Below w.heap.size w w' := by
  have HX : Hid (Calls Tryd.prog 10 _ _ _) := awake_any w hT
  clear hT
  go_enter Tryd.func7, Tryd.ntmps7
  go_wp2_with fail
  go_at_call 10
  refine HX.out.mono ?_
  rintro e w1 ⟨rfl, hb⟩
  have HB : Hid (Below w.heap.size w w1) := hb
  clear hb HX
  go_wp2
  go_ret
  exact ⟨rfl, HB.out⟩
set_option maxRecDepth 4000 in
set_option maxHeartbeats 8000000 in
theorem inside (ao : Option Addr) (ss : List ByteArray) (cap : Nat) (a1 : Int) (w : World) (hT : Tied w) (H4 : Hid (0 < ss.length → ∃ b off, ao = some ⟨b, off, none⟩ ∧ b < w.heap.size ∧ ∀ (i : Nat) x, (strs ss)[i]? = some x → w.cell? ⟨b, off + i, none⟩ = some x)) (h0 : ¬ (ss.length : Int) = 0) (h1 : ¬ (30 : Int) < (ss.length : Int)) (h2 : ¬ a1 < 1) (h3 : ¬ 19 < a1) :
    Calls Tryd.prog 7 #[.slice ao ss.length cap, .int .i64 a1] w fun e w' => e = .returned (.bool true) ∧ Below w.heap.size w w' := by
  have HT : Hid (Tied w) := hT
  have g0 : ((ss.length : Int) == 0) = false := beq_eq_false_iff_ne.2 h0
  have HR0 : Hid (Rel w ss a1 ss.length (.iface 39 (.int .i64 a1)) w) := ⟨[(39, .int .i64 a1, [])], pre_num w _ a1, by simp, by rw [List.drop_length]; rfl, rfl, fun j h h' => absurd h' (by omega), Below.refl _ _⟩
  have q1 := assert_num
  clear hT
  go_enter Tryd.func7, Tryd.ntmps7
  go_wp2
  go_loopw [5, 6] (fun e i wr => ∃ k : Nat, k ≤ ss.length ∧ i = .int .i64 ((k : Int) - 1) ∧ Hid (Rel w ss a1 k e wr)) (fun _ i _ => (intOf i + 1).toNat)
  case atStart => exact ⟨ss.length, Nat.le_refl _, rfl, HR0.out⟩
  case round =>
    obtain ⟨k, hk, rfl, HR⟩ := hrel
    clear HR0
    obtain ⟨b, off, rfl, hbl, hc⟩ := H4.out (by omega)
    match k, hk, HR with
    | k + 1, hk, HR =>
      have ek : ((k + 1 : Nat) : Int) - 1 = (k : Int) := by omega
      rw [ek]
      obtain ⟨ns, p1, p2, p3, p4, p5, p6⟩ := HR.out
      have HP : Hid (Pre wr (ss.length - (k + 1) + 1) u5 ns ∧ u5 ≠ .nilIface ∧ chainOf ns = (ss.drop (k + 1)).map (fun s => (s, pP)) ∧ innerOf ns = [(39, .int .i64 a1, [])] ∧ (∀ j, k + 1 ≤ j → j < ss.length → (ss.getD j ⟨#[]⟩).size ≤ 60) ∧ Below w.heap.size w wr) := ⟨p1, p2, p3, p4, p5, p6⟩
      have c0 := (p6.cell (by exact hbl)).trans (hc k _ (strs_at ss k hk))
      obtain ⟨s, hs⟩ : ∃ s, ss.getD k ⟨#[]⟩ = s := ⟨_, rfl⟩
      rw [hs] at c0
      have HS : Hid (ss.getD k ⟨#[]⟩ = s) := hs
      have i0 : (k : Int) < (ss.length : Int) := by omega
      have i2 : (0 : Int) ≤ (k : Int) := by omega
      clear p1 p2 p3 p4 p5 p6 HR hs hc hbl ek
      by_cases hz : (60 : Int) < (s.size : Int)
      · have HX : Hid (Calls Tryd.prog 10 _ _ _) := awake_any wr (HT.out.below HP.out.2.2.2.2.2)
        go_wp2_with fail
        go_at_call 10
        refine HX.out.mono ?_
        rintro e w1 ⟨rfl, hb⟩
        have HB : Hid (Below w.heap.size w w1) := bel2e HP.out.2.2.2.2.2 hb
        clear hb HX HP c0
        go_wp2
        go_ret
        exact ⟨rfl, HB.out⟩
      · have hz2 : s.size ≤ 1000 := by omega
        have HX : Hid (Calls Tryd.prog 22 _ _ _) := new_any s ⟨#[47, 112]⟩ _ u5 ns wr HP.out.2.1 HP.out.1 hz2 (by decide)
        have HZ : Hid ((ss.getD k ⟨#[]⟩).size ≤ 60) := by show _ ≤ _; rw [HS.out]; omega
        clear hz2
        go_wp2_with fail
        go_at_call 22
        refine HX.out.mono ?_
        rintro e w1 ⟨bb, rfl, hp, hb⟩
        have HR : Hid (Rel w ss a1 k (.iface 54 (.pointer (some ⟨bb, 0, none⟩))) w1) := Rel.step hk HZ.out HP.out.2.2.1 HP.out.2.2.2.1 HP.out.2.2.2.2.1 (bel2e HP.out.2.2.2.2.2 hb) (by rw [HS.out]; exact hp)
        clear hp hb HX HP c0 HS HZ
        go_wp2
        go_roundw
        case rel => exact ⟨k, by omega, by simp, HR.out⟩
        case measure => simp [intOf]
    | 0, hk, HR =>
      obtain ⟨ns, p1, p2, p3, p4, p5, p6⟩ := HR.out
      obtain ⟨b0, off0, hq⟩ : ∃ b0 off0, b0 = b ∧ off0 = off := ⟨_, _, rfl, rfl⟩
      have HP : Hid (Pre wr (ss.length - 0 + 1) u5 ns ∧ innerOf ns = [(39, .int .i64 a1, [])] ∧ Below w.heap.size w wr) := ⟨p1, p4, p6⟩
      have HC : Hid (chainOf ns = ss.map (fun s => (s, pP))) := by show _ = _; rw [p3]; rfl
      obtain ⟨s, hs⟩ : ∃ s, ss.getD 0 ⟨#[]⟩ = s := ⟨_, rfl⟩
      have HC2 : Hid (chainOf ns = (s, ⟨#[47, 112]⟩) :: (ss.drop 1).map (fun s => (s, pP))) := by show _ = _; rw [p3, drop_cons ss 0 (by omega), hs]; rfl
      have HS0 : Hid (ss.getD 0 ⟨#[]⟩ = s) := hs
      clear hs
      have HZ : Hid (∀ j, j < ss.length → (ss.getD j ⟨#[]⟩).size ≤ 60) := fun j hj => p5 j (Nat.zero_le _) hj
      have HW : Hid (b < w.heap.size ∧ ∀ (i : Nat) x, (strs ss)[i]? = some x → w.cell? ⟨b, off + i, none⟩ = some x) := ⟨hbl, hc⟩
      clear p1 p2 p3 p4 p5 p6 HR hc hbl hq
      have HX : Hid (Calls Tryd.prog 17 _ _ _) := op_some _ u5 ns wr HP.out.1 (HT.out.below HP.out.2.2) _ _ _ HC2.out
      go_wp2_with fail
      go_at_call 17
      refine HX.out.mono ?_
      rintro e w1 ⟨rfl, hb⟩
      have H1 : Hid (Pre w1 (ss.length - 0 + 1) u5 ns ∧ Below w.heap.size w w1) := ⟨HP.out.1.below hb, bel2e HP.out.2.2 hb⟩
      clear hb HX HC2
      have HX : Hid (Calls Tryd.prog 16 _ _ _) := chain_any _ u5 ns w1 H1.out.1 (HT.out.below H1.out.2) (by omega)
      go_wp2_with fail
      go_at_call 16
      refine HX.out.mono ?_
      rintro e w2 ⟨l, rfl, hr, hb⟩
      have H2 : Hid (Pre w2 (ss.length - 0 + 1) u5 ns ∧ Below w.heap.size w w2) := ⟨H1.out.1.below hb, bel2e H1.out.2 hb⟩
      obtain ⟨lo, lc, hl, l1, l2, l3, l4⟩ := hr.sees
      have hln : (txts (chainOf ns)).length = ss.length := by rw [txts_len, HC.out, List.length_map]
      rw [hln] at hl l1 l4
      subst hl
      obtain ⟨lb, lf, rfl, hlb, hlc⟩ := l4 (by omega)
      have HL : Hid (lb < w2.heap.size ∧ ∀ i, i < ss.length → w2.cell? ⟨lb, lf + i, none⟩ = some (.string (ss.getD i ⟨#[]⟩ ++ ⟨#[32, 47, 112]⟩))) := ⟨hlb, fun i hi => hlc i _ (by
        rw [HC.out, txts_strs, List.map_map]
        simp [strs, hi, List.getD, pair_txt])⟩
      have hml : (ss.length : Int) ≤ 9223372036854775807 := by omega
      have c0 := (H2.out.2.cell (by exact HW.out.1)).trans (HW.out.2 0 _ (strs_at ss 0 (by omega)))
      rw [Nat.add_zero] at c0
      have HI : Hid (innerOf ns = [(39, .int .i64 a1, [])]) := HP.out.2.1
      clear hb HX H1 hr l1 l2 l3 l4 hlb hlc hln HC HP HR H4
      rw [HS0.out] at c0
      have i0 : (0 : Int) < (ss.length : Int) := by omega
      go_wp2
      clear c0 HS0
      go_loopw [11] (fun i wr => ∃ k : Nat, k ≤ ss.length ∧ i = .int .i64 (k : Int) ∧ Hid (Below w2.heap.size w2 wr)) (fun i _ => ss.length - (intOf i).toNat)
      case atStart => exact ⟨0, Nat.zero_le _, rfl, Below.refl _ _⟩
      case round =>
        obtain ⟨k2, hk2, rfl, HB⟩ := hrel
        by_cases hlt : k2 < ss.length
        · have c0 := ((bel2e H2.out.2 HB.out).cell (by exact HW.out.1)).trans (HW.out.2 k2 _ (strs_at ss k2 hlt))
          have c1 := (HB.out.cell (by exact HL.out.1)).trans (HL.out.2 k2 hlt)
          have hz := HZ.out k2 hlt
          obtain ⟨t, ht⟩ : ∃ t, ss.getD k2 ⟨#[]⟩ = t := ⟨_, rfl⟩
          rw [ht] at c0 c1 hz
          clear ht
          have i1 : (k2 : Int) < (ss.length : Int) := by omega
          have i2 : (0 : Int) ≤ (k2 : Int) := by omega
          go_wp2
          go_region
          go_wp2
          go_roundw
          case rel => exact ⟨k2 + 1, by omega, by simp, HB.out.drew⟩
          case measure => simp [intOf]; omega
        · have hkl : k2 = ss.length := by omega
          subst hkl
          rename_i wq _
          have HX : Hid (Calls Tryd.prog 20 _ _ _) := inner_any _ u5 ns _ (H2.out.1.below HB.out)
          go_wp2_with fail
          go_at_call 20
          refine HX.out.mono ?_
          rintro e w4 ⟨r, kk, rfl, hp, hb⟩
          rw [HI.out] at hp
          have hr0 := Pre.is_num hp
          subst hr0
          have H4b : Hid (Below w.heap.size w w4) := bel2e (bel2e H2.out.2 HB.out) hb
          clear hp hb HX HB H2
          have HX : Hid (Calls Tryd.prog 10 _ _ _) := awake_any w4 (HT.out.below H4b.out)
          go_wp2_with fail
          go_at_call 10
          refine HX.out.mono ?_
          rintro e w6 ⟨rfl, hb⟩
          have H6 : Hid (Below w.heap.size w w6) := bel2e H4b.out hb
          clear hb HX H4b
          go_wp2
          go_ret
          exact ⟨rfl, H6.out⟩
theorem walk (x : Value) (ss : List ByteArray) (a1 : Int) (w : World) (hx : Sees w x (strs ss)) (hT : Tied w) :
    Calls Tryd.prog 7 #[x, .int .i64 a1] w fun e w' => e = .returned (.bool true) ∧ Below w.heap.size w w' := by
  obtain ⟨ao, cap, rfl, h1, h2, h3, h4⟩ := hx
  simp only [strs_len] at *
  by_cases h0 : (ss.length : Int) = 0
  · have e0 : ss.length = 0 := by omega
    rw [e0]
    exact out0 ao cap a1 w hT
  by_cases h : (30 : Int) < (ss.length : Int) ∨ a1 < 1 ∨ 19 < a1
  · exact out ao ss cap a1 h0 w hT h
  · exact inside ao ss cap a1 w hT h4 h0 (by omega) (by omega) (by omega)

/-! The row's step. -/
set_option maxRecDepth 100000 in
theorem lifted (os : Os) (started : os.Started) (H : Type) (enc : TypeId × Value → H) :
    ReturnsInHanded {} Tryd.checked os 7 .any (fun w args => (Rows.faultOrderSpec.pre enc Tryd.prog Tryd.f7 [] false w args ∧ laidMetH Tryd.prog laid1 w) ∧ sizedMet enc Tryd.prog Tryd.f7 (OpenSpec.ofChange Rows.faultOrderSpec) false w args)
      (Rows.faultOrderSpec.post enc Tryd.prog Tryd.f7 false true false false) := by
  refine returnsInHanded_of_change_and (C := Tryd.checked) (X := fun w _ => laidMetH Tryd.prog laid1 w) (fun _ _ _ hh h => h.of_heap hh) own started (by kernel_rfl) Tryd.func7
    (ChangeSpec.witness_shaped (enc := enc) (C := Tryd.checked) (os := os) (X := fun w _ => laidMetH Tryd.prog laid1 w) false (World.doorLaid Tryd.prog 16 os) #[.slice none 0 0, .int .i64 0] 8 rfl (World.shaped_of_RefB (by kernel_rfl) (by kernel_rfl)) (by kernel_rfl) (by kernel_rfl) (by kernel_rfl) (door_met os _)) ?_
  intro W base args ds gs before hval0 hW hcnd hsz hL _
  have hval : ∀ (j : Nat) t v, Tryd.f7.params[j]? = some t → args[j]? = some v → Value.okWide Tryd.prog W .any base t v := hval0
  have hW' := hW
  obtain ⟨p, q, hA0, hV, rfl, hfz, hnd⟩ := hW
  have hA : DataW.TrodAll enc Tryd.prog W 0 (fun _ => true) true Tryd.f7.params.toList args.toList ds p := hA0
  rw [Tryd.params7] at hA hval
  obtain ⟨v0, vs0, d0, ds0, p0, q0, hargs, rfl, rfl, h0, r0⟩ := trodAll_cons hA
  obtain ⟨v1, vs1, d1, ds1, p1, q1, rfl, rfl, rfl, h1, r1⟩ := trodAll_cons r0
  obtain ⟨rfl, rfl, rfl⟩ := trodAll_nil r1
  obtain rfl : args = #[v0, v1] := by cases args; simp_all
  obtain ⟨rfl, rfl⟩ := trodVars_none hV
  obtain ⟨a0, len0, cap0, rfl⟩ := okWide_slice Tryd.underlying33 (hval 0 33 v0 rfl rfl)
  have k0 := h0
  have lt0 : ∀ x ∈ p0, x.block < W.heap.size := by obtain ⟨m, hm⟩ := k0; exact DataW.trod_lt m _ _ _ hm
  obtain ⟨z0, w0⟩ : ∃ bs : List ByteArray, Sees W (.slice a0 len0 cap0) (strs bs) ∧ ∀ s ∈ bs, s.size ≤ maxLen := by
    obtain ⟨fuel, hf⟩ := h0
    exact strings_of Tryd.underlying33 Tryd.underlying9 (by kernel_rfl) hf
  obtain ⟨a1, rfl, rfl, rfl, w1⟩ := open_int Tryd.underlying3 (hval 1 3 v1 rfl rfl) h1
  clear hA0 hval0
  refine (walk _ z0 a1 W w0.1 (tied_of_laid hL)).mono fun e W' ⟨he, bel⟩ => ?_
  subst he
  exact ⟨_, rfl, _, _, _, [], _, [], hW', trodAll_mk1 (shut_bool Tryd.underlying4 _), (trodAll_cons_mk (Below.trod laidOut (by kernel_rfl) (of_decide_eq_true (by kernel_rfl)) k0 bel lt0) (trodAll_cons_mk (shut_int Tryd.underlying3 w1) trodAll_mk0)), rfl, bel.frame _, fun h => by cases h⟩

theorem over : Rows.faultOrderRow.holds Tryd.pinned (OpenSpec.ofChange Rows.faultOrderSpec) :=
  OpenClaim.holds_of_wide 7 Tryd.f7 rfl rfl rfl rfl rfl rfl rfl ⟨rfl, rfl, rfl, rfl, rfl⟩ rfl rfl rfl rfl rfl (by kernel_rfl) Tryd.func7 (by kernel_rfl)
    (of_decide_eq_true (by kernel_rfl)) (by unfold Func.isWrapper; first | (rw [if_pos (by decide +kernel)]; kernel_rfl) | (rw [if_neg (by decide +kernel)]; exact ⟨rfl, rfl⟩))
    (fun os started H enc _ => lifted os started H enc)

/-- The card, tied. -/
theorem proved : Rows.FaultOrderCardSaid :=
  Claim7.holds_tied_plain_at .later [] [.handle] true (true, "a2a5e8d745dccc1ea1945e6c68f635ba049041312b0aa45080a4b6eb55ba1ec7") true
    over (fun _ h => by cases h) (by kernel_rfl) (fun _ h => by cases h) faultOrder_row_tie rfl ⟨rfl, rfl⟩ (by kernel_rfl) rfl
    (fun f fn hf hfn => by
      obtain rfl : f = 7 := Option.some.inj ((show Tryd.prog.funcNamed Rows.faultOrderRow.func = some 7 by kernel_rfl).symm.trans hf) |>.symm
      obtain rfl : fn = Tryd.f7 := (Option.some.inj (Tryd.func7.symm.trans hfn)).symm
      exact ⟨by kernel_rfl, fun j t ht => by
        rw [Tryd.params7] at ht
        have hm : t ∈ [33, 3] := by simpa using Array.mem_of_getElem? ht
        have hall : ([33, 3].all fun u => !Tryd.prog.wantsStandIn u) = true := by kernel_rfl
        exact (show Tryd.prog.wantsStandIn t = false by simpa using List.all_eq_true.1 hall t hm)⟩)
    (by kernel_rfl)
end Go.Proofs.YtlandjnhhcnbeaaDoor.faultOrder

namespace Go.Proofs.YtlandjnhhcnbeaaDoor
/-- THE STATEMENT. -/
theorem faultOrder_holds : Rows.FaultOrderCardSaid := faultOrder.proved
#print axioms faultOrder_holds
end Go.Proofs.YtlandjnhhcnbeaaDoor
