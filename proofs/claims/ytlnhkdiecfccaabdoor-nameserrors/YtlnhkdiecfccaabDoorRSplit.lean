/- dolmenref1.Split: what one call answers. -/
import Derived.Test.YtlnhkdiecfccaabDoorRJoin
namespace Go.Proofs.YtlnhkdiecfccaabDoor
open Go.RowKit Kit
set_option linter.unusedVariables false

/-- May this be a name? -/
def okB (q : ByteArray) : Bool := !(decide (q = ⟨#[]⟩) || decide (q = ⟨#[46]⟩) || decide (q = ⟨#[46, 46]⟩)) && (bytesOf q).all letterB
def longB (q : ByteArray) : Bool := decide (12 < q.size)
/-- A path's names behind its first slash. -/
def partsB (s : ByteArray) : List ByteArray := (cutL 47 (bytesOf (s.extract 1 s.size))).map strOf
def splitB (s : ByteArray) : List ByteArray × Int :=
  if s = ⟨#[47]⟩ then ([], 0) else if s = ⟨#[]⟩ ∨ 200 < s.size ∨ (bytesOf s).getD 0 0 ≠ 47 then ([], 2) else
  if (partsB s).all okB = false then ([], 2) else if (partsB s).any longB = true then ([], 3) else if 6 < (partsB s).length then ([], 4) else (partsB s, 0)
theorem toList_eq_iff (q : ByteArray) (l : List UInt8) : (q.toList = l) = (q = ⟨l.toArray⟩) := by
  apply propext
  constructor
  · intro h
    apply ByteArray.ext
    have h1 := congrArg List.toArray h
    simpa [ByteArray.toList_eq] using h1
  · intro h
    subst h
    simp [ByteArray.toList_eq]
theorem txtsL_strs (l : List (List Int)) : txtsL l = strs (l.map strOf) := by simp [txtsL, strs, List.map_map]

theorem size_pos {s : ByteArray} (h2 : ¬ s = ⟨#[]⟩) : 0 < s.size := by
  rcases Nat.eq_zero_or_pos s.size with h0 | h0
  · exfalso
    apply h2
    cases s with
    | mk d => cases d with
      | mk l => cases l with
        | nil => rfl
        | cons a b => simp [ByteArray.size] at h0
  · exact h0
theorem beq_mk (q : ByteArray) (l : List UInt8) (h : ¬ q = ⟨l.toArray⟩) : (q.toList == l) = false := beq_eq_false_iff_ne.2 (by rw [Ne, toList_eq_iff]; exact h)
theorem okB_not {q : ByteArray} (h : q = ⟨#[]⟩ ∨ q = ⟨#[46]⟩ ∨ q = ⟨#[46, 46]⟩) : okB q = false := by
  unfold okB
  rcases h with h | h | h <;> simp [h]
theorem okB_bad {q : ByteArray} {k : Nat} (hk : k < q.size) (h : letterB ((bytesOf q).getD k 0) = false) : okB q = false := by
  unfold okB
  have : (bytesOf q).all letterB = false := by
    rw [List.all_eq_false]
    refine ⟨(bytesOf q).getD k 0, ?_, by rw [h]; simp⟩
    have : k < (bytesOf q).length := by rw [bytesOf_len]; exact hk
    simp [List.getD, this]
  rw [this, Bool.and_false]
theorem okB_yes {q : ByteArray} (h0 : ¬ q = ⟨#[]⟩) (h1 : ¬ q = ⟨#[46]⟩) (h2 : ¬ q = ⟨#[46, 46]⟩) (h : ∀ j, j < q.size → letterB ((bytesOf q).getD j 0) = true) : okB q = true := by
  unfold okB
  have : (bytesOf q).all letterB = true := by
    rw [List.all_eq_true]
    intro x hx
    obtain ⟨j, hj, rfl⟩ := List.mem_iff_getElem.1 hx
    have := h j (by rw [← bytesOf_len]; exact hj)
    simpa [List.getD, hj] using this
  simp [h0, h1, h2, this]
theorem all_not {l : List ByteArray} {k : Nat} (hk : k < l.length) (h : okB (l.getD k ⟨#[]⟩) = false) : l.all okB = false := by
  rw [List.all_eq_false]
  refine ⟨l.getD k ⟨#[]⟩, ?_, by rw [h]; simp⟩
  simp [List.getD, hk]
theorem all_yes {l : List ByteArray} (h : ∀ j, j < l.length → okB (l.getD j ⟨#[]⟩) = true) : l.all okB = true := by
  rw [List.all_eq_true]
  intro x hx
  obtain ⟨j, hj, rfl⟩ := List.mem_iff_getElem.1 hx
  simpa [List.getD, hj] using h j hj
theorem strOf_size (p : List Int) : (strOf p).size = p.length := by simp [strOf, ByteArray.size]
theorem cutL_len (c : Int) : ∀ (l : List Int) (p : List Int), p ∈ cutL c l → p.length ≤ l.length
  | [], p, h => by simp [cutL] at h; subst h; simp
  | x :: r, p, h => by
    rw [cutL] at h
    split at h
    · rcases List.mem_cons.1 h with rfl | h
      · simp
      · have := cutL_len c r p h; simp; omega
    · split at h
      · simp at h; subst h; simp
      · rename_i a b e
        rcases List.mem_cons.1 h with rfl | h
        · have := cutL_len c r a (by rw [e]; simp)
          simp; omega
        · have := cutL_len c r p (by rw [e]; simp [h])
          simp; omega
theorem parts_size (s : ByteArray) : ∀ q ∈ partsB s, q.size ≤ s.size := by
  intro q hq
  unfold partsB at hq
  obtain ⟨p, hp, rfl⟩ := List.mem_map.1 hq
  have := cutL_len 47 _ p hp
  rw [bytesOf_len, ByteArray.size_extract] at this
  rw [strOf_size]
  omega
def longTo (l : List ByteArray) (k : Nat) : Bool := (l.take k).any longB
theorem longTo_step (l : List ByteArray) (k : Nat) (h : k < l.length) : longTo l (k + 1) = (longTo l k || longB (l.getD k ⟨#[]⟩)) := by
  unfold longTo
  rw [List.take_add_one, List.getElem?_eq_getElem h, Option.toList_some, List.any_append]
  simp [List.getD, h]

end Go.Proofs.YtlnhkdiecfccaabDoor
