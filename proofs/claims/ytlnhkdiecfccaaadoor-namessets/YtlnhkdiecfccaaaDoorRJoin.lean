/- dolmenref1.Join: what one call answers. -/
import Derived.Test.YtlnhkdiecfccaaaDoorRCut
namespace Go.Proofs.YtlnhkdiecfccaaaDoor
open Go.RowKit Kit
set_option linter.unusedVariables false

/-- Texts in cells. -/
def strs (l : List ByteArray) : List Value := l.map Value.string
theorem strs_len (l : List ByteArray) : (strs l).length = l.length := by simp [strs]
theorem strs_at (l : List ByteArray) (k : Nat) (h : k < l.length) : (strs l)[k]? = some (.string (l.getD k ⟨#[]⟩)) := by
  simp [strs, h, List.getD]
theorem bytes_eq (a b : ByteArray) : (a.toList == b.toList) = decide (a = b) := by
  by_cases h : a = b
  · subst h; simp
  · have : ¬ a.toList = b.toList := fun e => h (ByteArray.ext (by
      have h1 := congrArg List.toArray e
      simpa [ByteArray.toList_eq] using h1))
    rw [beq_eq_false_iff_ne.2 this]; simp [h]
theorem not_empty {s : ByteArray} (h : ¬ s = ⟨#[]⟩) : ¬ s.toList = [] := fun e => h (ByteArray.ext (by
  have h1 := congrArg List.toArray e
  simpa [ByteArray.toList_eq] using h1))
/-- The first k names with a slash ahead of each. -/
def joinTo (ss : List ByteArray) (k : Nat) : ByteArray := (ss.take k).foldl (fun s p => s ++ ⟨#[47]⟩ ++ p) ⟨#[]⟩
theorem joinTo_step (ss : List ByteArray) (k : Nat) (h : k < ss.length) : joinTo ss (k + 1) = joinTo ss k ++ ⟨#[47]⟩ ++ ss.getD k ⟨#[]⟩ := by
  unfold joinTo
  rw [List.take_add_one, List.getElem?_eq_getElem h, Option.toList_some, List.foldl_append]
  simp [List.getD, h]
def tot (ss : List ByteArray) : Nat := (ss.map fun s => s.size + 1).sum
theorem joinTo_size (ss : List ByteArray) : ∀ k, k ≤ ss.length → (joinTo ss k).size = tot (ss.take k)
  | 0, _ => rfl
  | k + 1, h => by
    rw [joinTo_step ss k h, ByteArray.size_append, ByteArray.size_append, joinTo_size ss k (by omega)]
    unfold tot
    rw [List.take_add_one, List.getElem?_eq_getElem h, Option.toList_some, List.map_append, List.sum_append]
    simp [List.getD, show k < ss.length from h]
    have : (⟨#[47]⟩ : ByteArray).size = 1 := rfl
    omega
theorem tot_take (ss : List ByteArray) (k : Nat) : tot (ss.take k) ≤ tot ss := by
  conv => rhs; rw [← List.take_append_drop k ss]
  unfold tot
  rw [List.map_append, List.sum_append]; omega
theorem tot_at (ss : List ByteArray) (k : Nat) (h : k < ss.length) : tot (ss.take k) + (ss.getD k ⟨#[]⟩).size + 1 ≤ tot ss := by
  have h1 := tot_take ss (k + 1)
  unfold tot at *
  rw [List.take_add_one, List.getElem?_eq_getElem h, Option.toList_some, List.map_append, List.sum_append] at h1
  simp [List.getD, h] at h1 ⊢
  omega
def joinB (ss : List ByteArray) : ByteArray := if ss.length = 0 then ⟨#[47]⟩ else joinTo ss ss.length

set_option maxRecDepth 4000 in
set_option maxHeartbeats 2000000 in
theorem join_any (x : Value) (ss : List ByteArray) (w : World) (hx : Sees w x (strs ss)) (hb : tot ss ≤ 1000000) :
    Calls Tryd.prog 25 #[x] w fun e w' => e = .returned (.string (joinB ss)) ∧ w' = w := by
  obtain ⟨ao, cap, rfl, h1, h2, h3, h4⟩ := hx
  simp only [strs_len] at *
  have H4 : Hid (_ → _) := h4
  have HT : Hid (tot ss ≤ 1000000) := hb
  have hm : (ss.length : Int) ≤ 9223372036854775807 := by unfold maxLen at h2; omega
  clear h1 h2 h3 h4 hb
  go_enter Tryd.func25, Tryd.ntmps25
  go_wp2
  go_loopw [3, 4] (fun s i wr => ∃ k : Nat, k ≤ ss.length ∧ i = .int .i64 (k : Int) ∧ s = .string (joinTo ss k) ∧ wr = w) (fun _ i _ => ss.length - (intOf i).toNat)
  case atStart => exact ⟨0, Nat.zero_le _, rfl, rfl, rfl⟩
  case round =>
    obtain ⟨k, hk, rfl, rfl, hw⟩ := hrel
    have hw := hw.symm
    subst hw
    obtain ⟨s, hs⟩ : ∃ s, joinTo ss k = s := ⟨_, rfl⟩
    have hz := joinTo_size ss k hk
    rw [hs] at hz
    rw [hs]
    have HS : Hid (joinTo ss k = s) := hs
    clear hs
    by_cases hlt : k < ss.length
    · obtain ⟨b, off, rfl, hbl, hc⟩ := H4.out (by omega)
      have c0 := hc k _ (strs_at ss k hlt)
      have ht := tot_at ss k hlt
      have HN := joinTo_step ss k hlt
      obtain ⟨p, hp⟩ : ∃ p, ss.getD k ⟨#[]⟩ = p := ⟨_, rfl⟩
      rw [hp] at c0 ht HN
      rw [HS.out] at HN
      have s0 : s.size ≤ 1000000 := by have := HT.out; omega
      have s1 : p.size ≤ 1000000 := by have := HT.out; omega
      have HN2 : Hid (joinTo ss (k + 1) = s ++ ⟨#[47]⟩ ++ p) := HN
      have i0 : (k : Int) < (ss.length : Int) := by omega
      have i2 : (0 : Int) ≤ (k : Int) := by omega
      clear hc hbl hp ht hz HN
      go_wp2
      go_roundw
      case rel => exact ⟨k + 1, by omega, by simp, by rw [HN2.out], by simp⟩
      case measure => simp [intOf]; omega
    · have hkl : k = ss.length := by omega
      subst hkl
      by_cases h0 : ss.length = 0
      · have hs0 : s = ⟨#[]⟩ := by
          rw [← HS.out]
          unfold joinTo
          rw [List.eq_nil_of_length_eq_zero h0]; rfl
        have HR : Hid (joinB ss = ⟨#[47]⟩) := by show _ = _; unfold joinB; rw [if_pos h0]
        clear hz HS
        subst hs0
        rw [h0] at *
        go_wp2
        go_ret
        exact ⟨by rw [HR.out]; rfl, rfl⟩
      · have hne : ¬ s = ⟨#[]⟩ := by
          intro e
          rw [e] at hz
          have h1 := tot_at ss 0 (by omega)
          rw [List.take_length] at hz
          have : (⟨#[]⟩ : ByteArray).size = 0 := rfl
          omega
        have hq : s.toList.isEmpty = false := by have := not_empty hne; simpa using this
        have HR : Hid (joinB ss = s) := by show _ = _; unfold joinB; rw [if_neg h0, HS.out]
        clear hz HS hne
        go_wp2
        go_ret
        exact ⟨by rw [HR.out]; rfl, rfl⟩
end Go.Proofs.YtlnhkdiecfccaaaDoor
