/- dolmenref1.Join: what one call answers. -/
import Derived.Test.YtlnhkdiecfccaabDoorRCut
namespace Go.Proofs.YtlnhkdiecfccaabDoor
open Go.RowKit Kit
set_option linter.unusedVariables false

/-- Texts in cells. -/
def strs (l : List ByteArray) : List Value := l.map Value.string
theorem strs_len (l : List ByteArray) : (strs l).length = l.length := by simp [strs]
theorem strs_at (l : List ByteArray) (k : Nat) (h : k < l.length) : (strs l)[k]? = some (.string (l.getD k ⟨#[]⟩)) := by
  simp [strs, h, List.getD]
theorem bytes_eq (a b : ByteArray) : (a.toList == b.toList) = decide (a = b) := by
  by_cases h : a = b
  · subst h; simp
  · have : ¬ a.toList = b.toList := fun e => h (ByteArray.ext (by
      have h1 := congrArg List.toArray e
      simpa [ByteArray.toList_eq] using h1))
    rw [beq_eq_false_iff_ne.2 this]; simp [h]
theorem not_empty {s : ByteArray} (h : ¬ s = ⟨#[]⟩) : ¬ s.toList = [] := fun e => h (ByteArray.ext (by
  have h1 := congrArg List.toArray e
  simpa [ByteArray.toList_eq] using h1))
/-- The first k names with a slash ahead of each. -/
def joinTo (ss : List ByteArray) (k : Nat) : ByteArray := (ss.take k).foldl (fun s p => s ++ ⟨#[47]⟩ ++ p) ⟨#[]⟩
theorem joinTo_step (ss : List ByteArray) (k : Nat) (h : k < ss.length) : joinTo ss (k + 1) = joinTo ss k ++ ⟨#[47]⟩ ++ ss.getD k ⟨#[]⟩ := by
  unfold joinTo
  rw [List.take_add_one, List.getElem?_eq_getElem h, Option.toList_some, List.foldl_append]
  simp [List.getD, h]
def tot (ss : List ByteArray) : Nat := (ss.map fun s => s.size + 1).sum
theorem joinTo_size (ss : List ByteArray) : ∀ k, k ≤ ss.length → (joinTo ss k).size = tot (ss.take k)
  | 0, _ => rfl
  | k + 1, h => by
    rw [joinTo_step ss k h, ByteArray.size_append, ByteArray.size_append, joinTo_size ss k (by omega)]
    unfold tot
    rw [List.take_add_one, List.getElem?_eq_getElem h, Option.toList_some, List.map_append, List.sum_append]
    simp [List.getD, show k < ss.length from h]
    have : (⟨#[47]⟩ : ByteArray).size = 1 := rfl
    omega
theorem tot_take (ss : List ByteArray) (k : Nat) : tot (ss.take k) ≤ tot ss := by
  conv => rhs; rw [← List.take_append_drop k ss]
  unfold tot
  rw [List.map_append, List.sum_append]; omega
theorem tot_at (ss : List ByteArray) (k : Nat) (h : k < ss.length) : tot (ss.take k) + (ss.getD k ⟨#[]⟩).size + 1 ≤ tot ss := by
  have h1 := tot_take ss (k + 1)
  unfold tot at *
  rw [List.take_add_one, List.getElem?_eq_getElem h, Option.toList_some, List.map_append, List.sum_append] at h1
  simp [List.getD, h] at h1 ⊢
  omega
def joinB (ss : List ByteArray) : ByteArray := if ss.length = 0 then ⟨#[47]⟩ else joinTo ss ss.length

end Go.Proofs.YtlnhkdiecfccaabDoor
