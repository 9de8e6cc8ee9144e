/-
  Proved here: for every two numbers, every list of bools and every text the law FaultFinds returns true and leaves its arguments as they were: errors.Is and errors.As find what is within through any number of Faults and pairs, and nothing that is not. The listed variable is tied to the program text (the card). No condition besides.
-/
import Derived.Test.YtlandjnhhcnbeaaDoorRows
import Derived.Test.YtlandjnhhcnbeaaDoorTie
import Derived.Test.YtlandjnhhcnbeaaDoorCards
import Derived.Test.YtlandjnhhcnbeaaDoorEnds
import Derived.Test.YtlandjnhhcnbeaaDoorAz2
import Derived.Test.YtlandjnhhcnbeaaDoorDoor
import Derived.WalkKit
import Derived.ProofKit
import Derived.OpenShut
import Derived.ShutString
import Derived.ChangeOld
import Derived.Below
import Derived.SevenTiedAt
namespace Go.Proofs.YtlandjnhhcnbeaaDoor.faultFinds
open Go.ChangeShapes Go.WideShapes Go.ChangeAt Go.RowKit Go.ChangeMaps Kit
set_option linter.unusedVariables false

def anyF (bs : List Bool) (k : Nat) : Bool := (bs.take k).any fun c => !c
def anyT (bs : List Bool) (k : Nat) : Bool := (bs.take k).any fun c => c
theorem anyF_step (bs : List Bool) (k : Nat) (c : Bool) (h : bs[k]? = some c) : anyF bs (k + 1) = (anyF bs k || !c) := by
  unfold anyF
  rw [List.take_add_one, h]; simp
theorem anyT_step (bs : List Bool) (k : Nat) (c : Bool) (h : bs[k]? = some c) : anyT bs (k + 1) = (anyT bs k || c) := by
  unfold anyT
  rw [List.take_add_one, h]; simp
/-- What has been wrapped so far. -/
def Rel (w : World) (bs : List Bool) (a0 : Int) (k : Nat) (e : Value) (wr : World) : Prop :=
  ∃ ns, Pre wr (k + 1) e ns ∧ e ≠ .nilIface ∧ nums ns = [a0] ∧ (firstOf 47 ns).isSome = anyF bs k ∧ (firstOf 54 ns).isSome = anyT bs k ∧ Below w.heap.size w wr
theorem two_as_1 {w w1 w2 : World} {x y : Value} {r : Option Value} (h : Two w w1 x y) (hp : AsPost w1 w2 ⟨w.heap.size + 1, 0, none⟩ r) : Two w w2 x (r.getD y) := by
  cases r with
  | none => exact h.below hp
  | some z => obtain ⟨w3, h3, rfl⟩ := hp; exact (h.below h3).set2 z
set_option maxRecDepth 4000 in
set_option maxHeartbeats 2000000 in
theorem out (a0 a1 : Int) (ao : Option Addr) (bs : List Bool) (cap : Nat) (a3 : ByteArray) (w : World) (hT : Tied w) (h : (60 : Int) < (bs.length : Int) ∨ (100 : Int) < (a3.size : Int) ∨ a0 < 1 ∨ 19 < a0 ∨ a1 < 1 ∨ 19 < a1) :
    Calls Tryd.prog 5 #[.int .i64 a0, .int .i64 a1, .slice ao bs.length cap, .string a3] w fun e w' => e = .returned (.bool true) ∧ Below w.heap.size w w' := by
  have HX : Hid (Calls Tryd.prog 10 _ _ _) := awake_any w hT
  clear hT
  by_cases c0 : (60 : Int) < (bs.length : Int)
  · clear h
    go_enter Tryd.func5, Tryd.ntmps5
    go_wp2_with fail
    go_at_call 10
    refine HX.out.mono ?_
    rintro e w1 ⟨rfl, hb⟩
    have HB : Hid (Below w.heap.size w w1) := hb
    clear hb HX
    go_wp2
    go_ret
    exact ⟨rfl, HB.out⟩
  by_cases c1 : (100 : Int) < (a3.size : Int)
  · clear h
    go_enter Tryd.func5, Tryd.ntmps5
    go_wp2_with fail
    go_at_call 10
    refine HX.out.mono ?_
    rintro e w1 ⟨rfl, hb⟩
    have HB : Hid (Below w.heap.size w w1) := hb
    clear hb HX
    go_wp2
    go_ret
    exact ⟨rfl, HB.out⟩
  by_cases c2 : a0 < 1
  · clear h
    go_enter Tryd.func5, Tryd.ntmps5
    go_wp2_with fail
    go_at_call 10
    refine HX.out.mono ?_
    rintro e w1 ⟨rfl, hb⟩
    have HB : Hid (Below w.heap.size w w1) := hb
    clear hb HX
    go_wp2
    go_ret
    exact ⟨rfl, HB.out⟩
  by_cases c3 : 19 < a0
  · clear h
    go_enter Tryd.func5, Tryd.ntmps5
    go_wp2_with fail
    go_at_call 10
    refine HX.out.mono ?_
    rintro e w1 ⟨rfl, hb⟩
    have HB : Hid (Below w.heap.size w w1) := hb
    clear hb HX
    go_wp2
    go_ret
    exact ⟨rfl, HB.out⟩
  by_cases c4 : a1 < 1
  · clear h
    go_enter Tryd.func5, Tryd.ntmps5
    go_wp2_with fail
    go_at_call 10
    refine HX.out.mono ?_
    rintro e w1 ⟨rfl, hb⟩
    have HB : Hid (Below w.heap.size w w1) := hb
    clear hb HX
    go_wp2
    go_ret
    exact ⟨rfl, HB.out⟩
  have c5 : 19 < a1 := by omega
  clear h
  go_enter Tryd.func5, Tryd.ntmps5
  go_wp2_with fail
  go_at_call 10
  refine HX.out.mono ?_
  rintro e w1 ⟨rfl, hb⟩
  have HB : Hid (Below w.heap.size w w1) := hb
  clear hb HX
  go_wp2
  go_ret
  exact ⟨rfl, HB.out⟩
set_option maxRecDepth 4000 in
set_option maxHeartbeats 2000000 in
theorem same (a0 : Int) (ao : Option Addr) (bs : List Bool) (cap : Nat) (a3 : ByteArray) (w : World) (hT : Tied w) (c0 : ¬ (60 : Int) < (bs.length : Int)) (c1 : ¬ (100 : Int) < (a3.size : Int)) (c2 : ¬ a0 < 1) (c3 : ¬ 19 < a0) :
    Calls Tryd.prog 5 #[.int .i64 a0, .int .i64 a0, .slice ao bs.length cap, .string a3] w fun e w' => e = .returned (.bool true) ∧ Below w.heap.size w w' := by
  have HX : Hid (Calls Tryd.prog 10 _ _ _) := awake_any w hT
  clear hT
  go_enter Tryd.func5, Tryd.ntmps5
  go_wp2_with fail
  go_at_call 10
  refine HX.out.mono ?_
  rintro e w1 ⟨rfl, hb⟩
  have HB : Hid (Below w.heap.size w w1) := hb
  clear hb HX
  go_wp2
  go_ret
  exact ⟨rfl, HB.out⟩
set_option maxRecDepth 4000 in
set_option maxHeartbeats 16000000 in
theorem inside (a0 a1 : Int) (ao : Option Addr) (bs : List Bool) (cap : Nat) (a3 : ByteArray) (w : World) (hT : Tied w) (H4 : Hid (0 < bs.length → ∃ b off, ao = some ⟨b, off, none⟩ ∧ b < w.heap.size ∧ ∀ (i : Nat) x, (bs.map Value.bool)[i]? = some x → w.cell? ⟨b, off + i, none⟩ = some x)) (h0 : ¬ (60 : Int) < (bs.length : Int)) (h1 : ¬ (100 : Int) < (a3.size : Int)) (h2 : ¬ a0 < 1) (h3 : ¬ 19 < a0) (h4 : ¬ a1 < 1) (h5 : ¬ 19 < a1) (h6 : (a1 == a0) = false) :
    Calls Tryd.prog 5 #[.int .i64 a0, .int .i64 a1, .slice ao bs.length cap, .string a3] w fun e w' => e = .returned (.bool true) ∧ Below w.heap.size w w' := by
  have HT : Hid (Tied w) := hT
  have HR0 : Hid (Rel w bs a0 0 (.iface 39 (.int .i64 a0)) w) := ⟨[(39, .int .i64 a0, [])], pre_num w _ a0, by simp, rfl, rfl, rfl, Below.refl _ _⟩
  have HZ : Hid (a3.size ≤ 1000) := by show _ ≤ _; omega
  clear hT
  go_enter Tryd.func5, Tryd.ntmps5
  go_wp2
  go_loopw [9, 10] (fun e i wr => ∃ k : Nat, k ≤ bs.length ∧ i = .int .i64 (k : Int) ∧ Hid (Rel w bs a0 k e wr)) (fun _ i _ => bs.length - (intOf i).toNat)
  case atStart => exact ⟨0, Nat.zero_le _, rfl, HR0.out⟩
  case round =>
    obtain ⟨k, hk, rfl, HR⟩ := hrel
    clear HR0
    obtain ⟨ns, p1, p2, p3, p4, p5, p6⟩ := HR.out
    by_cases hlt : k < bs.length
    · obtain ⟨b, off, rfl, hbl, hc⟩ := H4.out (by omega)
      obtain ⟨c, hcc⟩ : ∃ c, bs[k]? = some c := ⟨bs[k], by simp [hlt]⟩
      have c0 := (p6.cell (by exact hbl)).trans (hc k (.bool c) (by simp [hcc]))
      have i0 : (k : Int) < (bs.length : Int) := by omega
      have i2 : (0 : Int) ≤ (k : Int) := by omega
      have HP : Hid (Pre wr (k + 1) u9 ns ∧ u9 ≠ .nilIface ∧ nums ns = [a0] ∧ (firstOf 47 ns).isSome = anyF bs k ∧ (firstOf 54 ns).isSome = anyT bs k ∧ Below w.heap.size w wr) := ⟨p1, p2, p3, p4, p5, p6⟩
      have HC : Hid (bs[k]? = some c) := hcc
      clear hc hbl hcc p1 p2 p3 p4 p5 p6 HR
      cases c with
      | true =>
        have HX : Hid (Calls Tryd.prog 22 _ _ _) := new_any a3 ⟨#[47]⟩ _ u9 ns wr HP.out.2.1 HP.out.1 HZ.out (by decide)
        go_wp2_with fail
        go_at_call 22
        refine HX.out.mono ?_
        rintro e w2 ⟨bb, rfl, hp, hb⟩
        have HR : Hid (Rel w bs a0 (k + 1) (.iface 54 (.pointer (some ⟨bb, 0, none⟩))) w2) := by
          obtain ⟨q1, q2, q3, q4, q5, q6⟩ := HP.out
          refine ⟨_, hp, by simp, by rw [nums_skip _ _ _ rfl]; exact q3, ?_, ?_, bel2e q6 hb⟩
          · rw [firstOf_skip _ _ _ _ rfl, q4, anyF_step bs k true HC.out]; simp
          · rw [firstOf_hit, anyT_step bs k true HC.out]; simp
        clear hp hb HX HP c0 HC
        go_wp2
        go_roundw
        case rel => exact ⟨k + 1, by omega, by simp, HR.out⟩
        case measure => simp [intOf]; omega
      | false =>
        have hB : Below wr.heap.size wr (wr.alloc (.cells #[.string ⟨#[112]⟩] 50)) := (Below.refl _ _).alloc (Nat.le_refl _) _
        have HX : Hid (Calls Tryd.prog 23 _ _ _) := both_any (k + 1) (.iface 47 (.pointer (some ⟨wr.heap.size, 0, none⟩))) u9 _ ns (wr.alloc (.cells #[.string ⟨#[112]⟩] 50)) (by simp) HP.out.2.1 (pre_leaf k wr.heap.size (t := ⟨#[112]⟩) (by simp)) (HP.out.1.below hB)
        have HB : Hid (Below wr.heap.size wr (wr.alloc (.cells #[.string ⟨#[112]⟩] 50))) := hB
        clear hB
        go_wp2_with fail
        go_at_call 23
        refine HX.out.mono ?_
        rintro e w2 ⟨bb, rfl, hp, hb⟩
        have HR : Hid (Rel w bs a0 (k + 1) (.iface 72 (.pointer (some ⟨bb, 0, none⟩))) w2) := by
          obtain ⟨q1, q2, q3, q4, q5, q6⟩ := HP.out
          refine ⟨_, hp, by simp, ?_, ?_, ?_, bel2e (bel2e q6 HB.out) hb⟩
          · rw [nums_skip _ _ _ rfl, List.singleton_append, nums_skip _ _ _ rfl]; exact q3
          · rw [firstOf_skip _ _ _ _ rfl, List.singleton_append, firstOf_hit, anyF_step bs k false HC.out]; simp
          · rw [firstOf_skip _ _ _ _ rfl, List.singleton_append, firstOf_skip _ _ _ _ rfl, q5, anyT_step bs k false HC.out]; simp
        clear hp hb HX HP c0 HC HB
        go_wp2
        go_roundw
        case rel => exact ⟨k + 1, by omega, by simp, HR.out⟩
        case measure => simp [intOf]; omega
    · have hkl : k = bs.length := by omega
      subst hkl
      obtain ⟨w1, hw1⟩ : ∃ w1, w1 = wr := ⟨_, rfl⟩
      subst hw1
      have HP : Hid (Pre w1 (bs.length + 1) u9 ns ∧ Below w.heap.size w w1) := ⟨p1, p6⟩
      have E1 : Hid (hit a0 ns = true) := by show _ = _; unfold hit; rw [p3]; simp
      have E2 : Hid (hit a1 ns = false) := by
        show _ = _
        unfold hit; rw [p3]
        have : ¬ a1 = a0 := fun e => by rw [e] at h6; simp at h6
        simp [this]
      have E5 : Hid ((([a1, a0] : List Int).any fun c => hit c ns) = true) := by show _ = _; simp [E1.out]
      have E6 : Hid ((([a1] : List Int).any fun c => hit c ns) = false) := by show _ = _; simp [E2.out]
      have E3 : Hid ((firstOf 47 ns).isSome = anyF bs bs.length) := p4
      have E4 : Hid ((firstOf 54 ns).isSome = anyT bs bs.length) := p5
      clear p1 p2 p3 p4 p5 p6 HR
      have HW2 : Hid (Two w1 ((w1.alloc (.cells #[.pointer none] 47)).alloc (.cells #[.pointer none] 54)) (.pointer none) (.pointer none)) := two_new w1 _ _ _ _
      go_wp2
      go_loopw [13, 14, 15] (fun p q i wq => ∃ k2 : Nat, k2 ≤ bs.length ∧ i = .int .i64 (k2 : Int) ∧ p = .bool (anyF bs k2) ∧ q = .bool (anyT bs k2) ∧ wq = (w1.alloc (.cells #[.pointer none] 47)).alloc (.cells #[.pointer none] 54)) (fun _ _ i _ => bs.length - (intOf i).toNat)
      case atStart => exact ⟨0, Nat.zero_le _, rfl, rfl, rfl, rfl⟩
      case round =>
        obtain ⟨k2, hk2, rfl, rfl, rfl, hw⟩ := hrel
        subst hw
        by_cases hlt2 : k2 < bs.length
        · obtain ⟨b, off, rfl, hbl, hc⟩ := H4.out (by omega)
          obtain ⟨c, hcc⟩ : ∃ c, bs[k2]? = some c := ⟨bs[k2], by simp [hlt2]⟩
          have c0 := ((bel2e HP.out.2 HW2.out.1).cell (by exact hbl)).trans (hc k2 (.bool c) (by simp [hcc]))
          have i0 : (k2 : Int) < (bs.length : Int) := by omega
          have i2 : (0 : Int) ≤ (k2 : Int) := by omega
          clear hc hbl
          obtain ⟨pv, hpv⟩ : ∃ pv, anyF bs k2 = pv := ⟨_, rfl⟩
          obtain ⟨qv, hqv⟩ : ∃ qv, anyT bs k2 = qv := ⟨_, rfl⟩
          have EP : Hid (anyF bs (k2 + 1) = (pv || !c)) := by show _ = _; rw [anyF_step bs k2 c hcc, hpv]
          have EF : Hid (anyT bs (k2 + 1) = (qv || c)) := by show _ = _; rw [anyT_step bs k2 c hcc, hqv]
          rw [hpv, hqv]
          clear hcc hpv hqv HW2 HP
          cases pv with
          | true =>
            cases qv with
            | true =>
              go_wp2
              go_roundw
              case rel => exact ⟨k2 + 1, by omega, by simp, by rw [EP.out]; rfl, by rw [EF.out]; rfl, trivial⟩
              case measure => simp [intOf]; omega
            | false =>
              go_wp2
              go_roundw
              case rel => exact ⟨k2 + 1, by omega, by simp, by rw [EP.out]; rfl, by rw [EF.out]; rfl, trivial⟩
              case measure => simp [intOf]; omega
          | false =>
            cases qv with
            | true =>
              go_wp2
              go_roundw
              case rel => exact ⟨k2 + 1, by omega, by simp, by rw [EP.out]; rfl, by rw [EF.out]; rfl, trivial⟩
              case measure => simp [intOf]; omega
            | false =>
              go_wp2
              go_roundw
              case rel => exact ⟨k2 + 1, by omega, by simp, by rw [EP.out]; rfl, by rw [EF.out]; rfl, trivial⟩
              case measure => simp [intOf]; omega
        have hkl : k2 = bs.length := by omega
        subst hkl
        obtain ⟨pv, hpv⟩ : ∃ pv, anyF bs bs.length = pv := ⟨_, rfl⟩
        obtain ⟨qv, hqv⟩ : ∃ qv, anyT bs bs.length = qv := ⟨_, rfl⟩
        rw [hpv] at E3
        rw [hqv] at E4
        rw [hpv, hqv]
        clear hpv hqv H4
        have H2 : Hid (Pre ((w1.alloc (.cells #[.pointer none] 47)).alloc (.cells #[.pointer none] 54)) (bs.length + 1) u9 ns) := HP.out.1.below HW2.out.1
        have HX : Hid (Calls Tryd.prog 24 _ _ _) := is_any a0 (bs.length + 1) u9 ns _ H2.out
        go_wp2_with fail
        go_at_call 24
        refine HX.out.mono ?_
        rintro e w3 ⟨rfl, hb⟩
        rw [E1.out]
        have H3 : Hid (Two w1 w3 (.pointer none) (.pointer none)) := HW2.out.below hb
        clear hb HX H2 HW2
        have HX : Hid (Calls Tryd.prog 24 _ _ _) := is_any a1 (bs.length + 1) u9 ns w3 (HP.out.1.below H3.out.1)
        go_wp2_with fail
        go_at_call 24
        refine HX.out.mono ?_
        rintro e w4 ⟨rfl, hb⟩
        rw [E2.out]
        have H4 : Hid (Two w1 w4 (.pointer none) (.pointer none)) := H3.out.below hb
        clear hb HX H3
        have HX : Hid (Calls Tryd.prog 25 _ _ _) := A2.as_any (bs.length + 1) u9 ns w4 (HP.out.1.below H4.out.1) ⟨w1.heap.size, 0, none⟩ _ H4.out.2.1 H4.out.2.2.1 (HT.out.below (bel2e HP.out.2 H4.out.1))
        go_wp2_with fail
        go_at_call 25
        refine HX.out.mono ?_
        rintro e w5 ⟨rfl, hb⟩
        rw [E3.out]
        have H5 : Hid (Two w1 w5 ((firstOf 47 ns).getD (.pointer none)) (.pointer none)) := H4.out.as hb
        clear hb HX H4
        have HX : Hid (Calls Tryd.prog 25 _ _ _) := A0.as_any (bs.length + 1) u9 ns w5 (HP.out.1.below H5.out.1) ⟨w1.heap.size + 1, 0, none⟩ _ H5.out.2.2.2.1 H5.out.2.2.2.2 (HT.out.below (bel2e HP.out.2 H5.out.1))
        go_wp2_with fail
        go_at_call 25
        refine HX.out.mono ?_
        rintro e w6 ⟨rfl, hb⟩
        rw [E4.out]
        have H6 : Hid (Below w1.heap.size w1 w6) := (two_as_1 H5.out hb).1
        clear hb HX H5
        have B7 : Hid (Below w6.heap.size w6 (w6.alloc (.cells #[.int .i64 a1, .int .i64 a0] 39))) := (Below.refl _ _).alloc (Nat.le_refl _) _
        have S7 : Hid (Sees (w6.alloc (.cells #[.int .i64 a1, .int .i64 a0] 39)) (.slice (some ⟨w6.heap.size, 0, none⟩) 2 2) (([a1, a0] : List Int).map (Value.int .i64))) := (rowV_lit w6 w6.heap.size 39 (([a1, a0] : List Int).map (Value.int .i64)) (Nat.le_refl _) (by simp [maxLen])).sees
        have HX : Hid (Calls Tryd.prog 19 _ _ _) := fis_any (bs.length + 1) u9 _ ns [a1, a0] _ (HP.out.1.below (bel2e H6.out B7.out)) S7.out
        go_wp2_with fail
        go_at_call 19
        refine HX.out.mono ?_
        rintro e w7 ⟨rfl, hb⟩
        rw [E5.out]
        have H7 : Hid (Below w1.heap.size w1 w7) := bel2e (bel2e H6.out B7.out) hb
        clear hb HX H6 B7 S7
        have B8 : Hid (Below w7.heap.size w7 (w7.alloc (.cells #[.int .i64 a1] 39))) := (Below.refl _ _).alloc (Nat.le_refl _) _
        have S8 : Hid (Sees (w7.alloc (.cells #[.int .i64 a1] 39)) (.slice (some ⟨w7.heap.size, 0, none⟩) 1 1) (([a1] : List Int).map (Value.int .i64))) := (rowV_lit w7 w7.heap.size 39 (([a1] : List Int).map (Value.int .i64)) (Nat.le_refl _) (by simp [maxLen])).sees
        have HX : Hid (Calls Tryd.prog 19 _ _ _) := fis_any (bs.length + 1) u9 _ ns [a1] _ (HP.out.1.below (bel2e H7.out B8.out)) S8.out
        go_wp2_with fail
        go_at_call 19
        refine HX.out.mono ?_
        rintro e w8 ⟨rfl, hb⟩
        rw [E6.out]
        have H8 : Hid (Below w.heap.size w w8) := bel2e HP.out.2 (bel2e (bel2e H7.out B8.out) hb)
        clear hb HX H7 B8 S8
        have HX : Hid (Calls Tryd.prog 10 _ _ _) := awake_any w8 (HT.out.below H8.out)
        go_wp2_with fail
        go_at_call 10
        refine HX.out.mono ?_
        rintro e w9 ⟨rfl, hb⟩
        have H9 : Hid (Below w.heap.size w w9) := bel2e H8.out hb
        clear hb HX H8
        go_wp2
        go_ret
        exact ⟨rfl, H9.out⟩
theorem walk (a0 a1 : Int) (x : Value) (bs : List Bool) (a3 : ByteArray) (w : World) (hx : Sees w x (bs.map Value.bool)) (hT : Tied w) :
    Calls Tryd.prog 5 #[.int .i64 a0, .int .i64 a1, x, .string a3] w fun e w' => e = .returned (.bool true) ∧ Below w.heap.size w w' := by
  obtain ⟨ao, cap, rfl, h1, h2, h3, h4⟩ := hx
  simp only [List.length_map] at *
  by_cases h : (60 : Int) < (bs.length : Int) ∨ (100 : Int) < (a3.size : Int) ∨ a0 < 1 ∨ 19 < a0 ∨ a1 < 1 ∨ 19 < a1
  · exact out a0 a1 ao bs cap a3 w hT h
  by_cases he : a1 = a0
  · subst he
    exact same a1 ao bs cap a3 w hT (by omega) (by omega) (by omega) (by omega)
  · exact inside a0 a1 ao bs cap a3 w hT h4 (by omega) (by omega) (by omega) (by omega) (by omega) (by omega) (beq_eq_false_iff_ne.2 he)

/-! The row's step. -/
set_option maxRecDepth 100000 in
theorem lifted (os : Os) (started : os.Started) (H : Type) (enc : TypeId × Value → H) :
    ReturnsInHanded {} Tryd.checked os 5 .any (fun w args => (Rows.faultFindsSpec.pre enc Tryd.prog Tryd.f5 [] false w args ∧ laidMetH Tryd.prog laid1 w) ∧ sizedMet enc Tryd.prog Tryd.f5 (OpenSpec.ofChange Rows.faultFindsSpec) false w args)
      (Rows.faultFindsSpec.post enc Tryd.prog Tryd.f5 false true false false) := by
  refine returnsInHanded_of_change_and (C := Tryd.checked) (X := fun w _ => laidMetH Tryd.prog laid1 w) (fun _ _ _ hh h => h.of_heap hh) own started (by kernel_rfl) Tryd.func5
    (ChangeSpec.witness_shaped (enc := enc) (C := Tryd.checked) (os := os) (X := fun w _ => laidMetH Tryd.prog laid1 w) false (World.doorLaid Tryd.prog 16 os) #[.int .i64 0, .int .i64 0, .slice none 0 0, .string ⟨#[]⟩] 8 rfl (World.shaped_of_RefB (by kernel_rfl) (by kernel_rfl)) (by kernel_rfl) (by kernel_rfl) (by kernel_rfl) (door_met os _)) ?_
  intro W base args ds gs before hval0 hW hcnd hsz hL _
  have hval : ∀ (j : Nat) t v, Tryd.f5.params[j]? = some t → args[j]? = some v → Value.okWide Tryd.prog W .any base t v := hval0
  have hW' := hW
  obtain ⟨p, q, hA0, hV, rfl, hfz, hnd⟩ := hW
  have hA : DataW.TrodAll enc Tryd.prog W 0 (fun _ => true) true Tryd.f5.params.toList args.toList ds p := hA0
  rw [Tryd.params5] at hA hval
  obtain ⟨v0, vs0, d0, ds0, p0, q0, hargs, rfl, rfl, h0, r0⟩ := trodAll_cons hA
  obtain ⟨v1, vs1, d1, ds1, p1, q1, rfl, rfl, rfl, h1, r1⟩ := trodAll_cons r0
  obtain ⟨v2, vs2, d2, ds2, p2, q2, rfl, rfl, rfl, h2, r2⟩ := trodAll_cons r1
  obtain ⟨v3, vs3, d3, ds3, p3, q3, rfl, rfl, rfl, h3, r3⟩ := trodAll_cons r2
  obtain ⟨rfl, rfl, rfl⟩ := trodAll_nil r3
  obtain rfl : args = #[v0, v1, v2, v3] := by cases args; simp_all
  obtain ⟨rfl, rfl⟩ := trodVars_none hV
  obtain ⟨a0, rfl, rfl, rfl, w0⟩ := open_int Tryd.underlying3 (hval 0 3 v0 rfl rfl) h0
  obtain ⟨a1, rfl, rfl, rfl, w1⟩ := open_int Tryd.underlying3 (hval 1 3 v1 rfl rfl) h1
  obtain ⟨a2, len2, cap2, rfl⟩ := okWide_slice Tryd.underlying51 (hval 2 51 v2 rfl rfl)
  have k2 := h2
  have lt2 : ∀ x ∈ p2, x.block < W.heap.size := by obtain ⟨m, hm⟩ := k2; exact DataW.trod_lt m _ _ _ hm
  obtain ⟨z2, w2⟩ : ∃ bs : List Bool, Sees W (.slice a2 len2 cap2) (bs.map Value.bool) := by
    obtain ⟨fuel, hf⟩ := h2
    exact bools_of Tryd.underlying51 Tryd.underlying4 (by kernel_rfl) hf
  obtain ⟨a3, rfl, rfl, rfl, w3⟩ := open_string Tryd.underlying9 (hval 3 9 v3 rfl rfl) h3
  clear hA0 hval0
  refine (walk a0 a1 _ z2 a3 W w2 (tied_of_laid hL)).mono fun e W' ⟨he, bel⟩ => ?_
  subst he
  exact ⟨_, rfl, _, _, _, [], _, [], hW', trodAll_mk1 (shut_bool Tryd.underlying4 _), (trodAll_cons_mk (shut_int Tryd.underlying3 w0) (trodAll_cons_mk (shut_int Tryd.underlying3 w1) (trodAll_cons_mk (Below.trod laidOut (by kernel_rfl) (of_decide_eq_true (by kernel_rfl)) k2 bel lt2) (trodAll_cons_mk (shut_string Tryd.underlying9 w3) trodAll_mk0)))), rfl, bel.frame _, fun h => by cases h⟩

theorem over : Rows.faultFindsRow.holds Tryd.pinned (OpenSpec.ofChange Rows.faultFindsSpec) :=
  OpenClaim.holds_of_wide 5 Tryd.f5 rfl rfl rfl rfl rfl rfl rfl ⟨rfl, rfl, rfl, rfl, rfl⟩ rfl rfl rfl rfl rfl (by kernel_rfl) Tryd.func5 (by kernel_rfl)
    (of_decide_eq_true (by kernel_rfl)) (by unfold Func.isWrapper; first | (rw [if_pos (by decide +kernel)]; kernel_rfl) | (rw [if_neg (by decide +kernel)]; exact ⟨rfl, rfl⟩))
    (fun os started H enc _ => lifted os started H enc)

/-- The card, tied. -/
theorem proved : Rows.FaultFindsCardSaid :=
  Claim7.holds_tied_plain_at .later [] [.handle] true (true, "a2a5e8d745dccc1ea1945e6c68f635ba049041312b0aa45080a4b6eb55ba1ec7") true
    over (fun _ h => by cases h) (by kernel_rfl) (fun _ h => by cases h) faultFinds_row_tie rfl ⟨rfl, rfl⟩ (by kernel_rfl) rfl
    (fun f fn hf hfn => by
      obtain rfl : f = 5 := Option.some.inj ((show Tryd.prog.funcNamed Rows.faultFindsRow.func = some 5 by kernel_rfl).symm.trans hf) |>.symm
      obtain rfl : fn = Tryd.f5 := (Option.some.inj (Tryd.func5.symm.trans hfn)).symm
      exact ⟨by kernel_rfl, fun j t ht => by
        rw [Tryd.params5] at ht
        have hm : t ∈ [3, 3, 51, 9] := by simpa using Array.mem_of_getElem? ht
        have hall : ([3, 3, 51, 9].all fun u => !Tryd.prog.wantsStandIn u) = true := by kernel_rfl
        exact (show Tryd.prog.wantsStandIn t = false by simpa using List.all_eq_true.1 hall t hm)⟩)
    (by kernel_rfl)
end Go.Proofs.YtlandjnhhcnbeaaDoor.faultFinds

namespace Go.Proofs.YtlandjnhhcnbeaaDoor
/-- THE STATEMENT. -/
theorem faultFinds_holds : Rows.FaultFindsCardSaid := faultFinds.proved
#print axioms faultFinds_holds
end Go.Proofs.YtlandjnhhcnbeaaDoor
