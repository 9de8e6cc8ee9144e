/- names.mayStand, isLong, isNoName: what one call answers. -/
import Derived.Test.YtchajlaflehodaaGreatDoorG1
namespace Go.Proofs.YtchajlaflehodaaGreatDoor
open Go.RowKit Kit
set_option linter.unusedVariables false

set_option maxRecDepth 4000 in
set_option maxHeartbeats 1000000 in
theorem may_any (c : Int) (w : World) : Calls Tryz.prog 104 #[.int .u8 c] w fun e w' => e = .returned (.bool (letterB c)) ∧ w' = w := by
  go_enter Tryz.func104, Tryz.ntmps104
  go_wp2
  all_goals go_ret
  all_goals refine ⟨?_, rfl⟩
  all_goals show Ending.returned (.bool _) = Ending.returned (.bool _)
  all_goals refine congrArg (fun b => Ending.returned (.bool b)) ?_
  all_goals (rw [Bool.eq_iff_iff]; simp [letterB]; try omega)
theorem long_any (q : ByteArray) (w : World) (hq : q.size ≤ maxLen) : Calls Tryz.prog 82 #[.string q] w fun e w' => e = .returned (.bool (longB q)) ∧ w' = w := by
  have hm : (q.size : Int) ≤ 9223372036854775807 := by unfold maxLen at hq; omega
  go_enter Tryz.func82, Tryz.ntmps82
  go_wp2
  go_ret
  refine ⟨?_, rfl⟩
  refine congrArg (fun b => Ending.returned (.bool b)) ?_
  rw [Bool.eq_iff_iff]
  simp [longB]
  omega
set_option maxRecDepth 4000 in
set_option maxHeartbeats 2000000 in
theorem noName_any (q : ByteArray) (w : World) (hq : q.size ≤ maxLen) : Calls Tryz.prog 81 #[.string q] w fun e w' => e = .returned (.bool (!okB q)) ∧ w' = w := by
  have hm : (q.size : Int) ≤ 9223372036854775807 := by unfold maxLen at hq; omega
  by_cases h1 : q = ⟨#[]⟩
  · subst h1
    clear hq hm
    go_enter Tryz.func81, Tryz.ntmps81
    go_wp2
    go_ret
    exact ⟨rfl, rfl⟩
  by_cases h2 : q = ⟨#[46]⟩
  · subst h2
    clear hq hm h1
    go_enter Tryz.func81, Tryz.ntmps81
    go_wp2
    go_ret
    exact ⟨rfl, rfl⟩
  by_cases h3 : q = ⟨#[46, 46]⟩
  · subst h3
    clear hq hm h1 h2
    go_enter Tryz.func81, Tryz.ntmps81
    go_wp2
    go_ret
    exact ⟨rfl, rfl⟩
  have q1 : q.toList.isEmpty = false := by have := not_empty h1; simpa using this
  have q2 : (q.toList == [46]) = false := beq_eq_false_iff_ne.2 (by rw [Ne, toList_eq_iff]; exact h2)
  have q3 : (q.toList == [46, 46]) = false := beq_eq_false_iff_ne.2 (by rw [Ne, toList_eq_iff]; exact h3)
  have HO : Hid (okB q = (bytesOf q).all letterB) := by show _ = _; simp [okB, h1, h2, h3]
  clear h1 h2 h3 hq
  go_enter Tryz.func81, Tryz.ntmps81
  go_wp2
  go_loopw [11, 3] (fun i _ wr => ∃ k : Nat, k ≤ q.size ∧ i = .int .i64 (k : Int) ∧ wr = w ∧ Hid (∀ j, j < k → letterB ((bytesOf q).getD j 0) = true)) (fun i _ _ => q.size - (intOf i).toNat)
  case atStart => exact ⟨0, Nat.zero_le _, rfl, rfl, fun j hj => by omega⟩
  case round =>
    obtain ⟨k, hk, rfl, rfl, HR⟩ := hrel
    by_cases hlt : k < q.size
    · have i1 : (k : Int) < (q.size : Int) := by omega
      have i2 : (0 : Int) ≤ (k : Int) := by omega
      have hb := byte_at q k hlt
      have HM : Hid (Calls Tryz.prog 104 _ _ _) := may_any ((q[k]'hlt).toNat : Int) wr
      rw [hb] at HM
      have HB : Hid ((((q[k]'hlt).toNat : Nat) : Int) = (bytesOf q).getD k 0) := hb
      clear hb
      go_wp2_with fail
      go_at_call 104
      rw [HB.out]
      refine HM.out.mono ?_
      rintro e1 w1 ⟨rfl, rfl⟩
      clear HM HB
      cases hl : letterB ((bytesOf q).getD k 0) with
      | false =>
        have HF : Hid (okB q = false) := by
          show _ = _
          rw [HO.out, List.all_eq_false]
          refine ⟨(bytesOf q).getD k 0, ?_, by rw [hl]; simp⟩
          have hk2 : k < (bytesOf q).length := by rw [bytesOf_len]; exact hlt
          simp [List.getD, hk2]
        clear HO HR hl
        go_wp2
        go_ret
        exact ⟨by rw [HF.out]; rfl, rfl⟩
      | true =>
        have HN : Hid (∀ j, j < k + 1 → letterB ((bytesOf q).getD j 0) = true) := fun j hj => by
          by_cases hjk : j = k
          · subst hjk; exact hl
          · exact HR.out j (by omega)
        clear HR hl
        go_wp2
        go_roundw
        case rel => exact ⟨k + 1, by omega, by simp, trivial, HN⟩
        case measure => simp [intOf]; omega
    · obtain rfl : k = q.size := by omega
      have i1 : ¬ (q.size : Int) < (q.size : Int) := by omega
      have HT : Hid (okB q = true) := by
        show _ = _
        rw [HO.out, List.all_eq_true]
        intro x hx
        obtain ⟨j, hj⟩ := List.mem_iff_getElem?.1 hx
        have hlt2 := (List.getElem?_eq_some_iff.1 hj).1
        rw [bytesOf_len] at hlt2
        have := HR.out j hlt2
        rw [List.getD, hj] at this
        exact this
      clear HR HO hlt
      go_wp2
      go_ret
      exact ⟨by rw [HT.out]; rfl, rfl⟩
end Go.Proofs.YtchajlaflehodaaGreatDoor
