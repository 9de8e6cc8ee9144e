/- Sorted lists of texts: what the reference's sorting keeps. (No walk in it.) -/
import Derived.Test.YthjcmagionaepaaRSorted
namespace Go.Proofs.Ythjcmagionaepaa
open Go.RowKit Kit
set_option linter.unusedVariables false

def less (a b : ByteArray) : Prop := Op.bytesLess a.toList b.toList = true
theorem lb_irrefl : ∀ x : List UInt8, Op.bytesLess x x = false
  | [] => rfl
  | a :: x => by simp [Op.bytesLess, lb_irrefl x]
theorem lb_trans : ∀ x y z : List UInt8, Op.bytesLess x y = true → Op.bytesLess y z = true → Op.bytesLess x z = true
  | x, [], z, h, _ => by cases x <;> simp [Op.bytesLess] at h
  | x, _ :: _, [], _, h => by simp [Op.bytesLess] at h
  | [], _ :: _, _ :: _, _, _ => by simp [Op.bytesLess]
  | a :: x, b :: y, c :: z, h, k => by
    simp only [Op.bytesLess, Bool.or_eq_true, Bool.and_eq_true, decide_eq_true_eq, beq_iff_eq] at *
    rcases h with h | ⟨h, h'⟩
    · rcases k with k | ⟨k, k'⟩
      · exact .inl (UInt8.lt_trans h k)
      · subst k; exact .inl h
    · subst h
      rcases k with k | ⟨k, k'⟩
      · exact .inl k
      · exact .inr ⟨k, lb_trans x y z h' k'⟩
theorem lb_tri : ∀ x y : List UInt8, Op.bytesLess x y = true ∨ x = y ∨ Op.bytesLess y x = true
  | [], [] => .inr (.inl rfl)
  | [], _ :: _ => .inl rfl
  | _ :: _, [] => .inr (.inr rfl)
  | a :: x, b :: y => by
    simp only [Op.bytesLess, Bool.or_eq_true, Bool.and_eq_true, decide_eq_true_eq, beq_iff_eq]
    by_cases h1 : a < b
    · exact .inl (.inl h1)
    by_cases h2 : a = b
    · subst h2
      rcases lb_tri x y with h | h | h
      · exact .inl (.inr ⟨rfl, h⟩)
      · exact .inr (.inl (by rw [h]))
      · exact .inr (.inr (.inr ⟨rfl, h⟩))
    · refine .inr (.inr (.inl ?_))
      rw [UInt8.lt_iff_toNat_lt] at *
      have : a.toNat ≠ b.toNat := fun e => h2 (UInt8.toNat_inj.1 e)
      omega
theorem toList_inj {a b : ByteArray} (h : a.toList = b.toList) : a = b := by
  rw [toList_eq_iff] at h
  rw [h]
  simp [ByteArray.toList_eq]
theorem less_irrefl (a : ByteArray) : ¬ less a a := by unfold less; rw [lb_irrefl]; simp
theorem less_trans {a b c : ByteArray} (h : less a b) (k : less b c) : less a c := lb_trans _ _ _ h k
theorem less_or {a b : ByteArray} (h : ¬ less a b) : a = b ∨ less b a := by
  rcases lb_tri a.toList b.toList with h1 | h1 | h1
  · exact absurd h1 h
  · exact .inl (toList_inj h1)
  · exact .inr h1
theorem gt_iff (a b : ByteArray) : (!Op.bytesLess a.toList b.toList && !(a.toList == b.toList)) = true ↔ less b a := by
  rw [bytes_eq]
  constructor
  · intro h
    simp at h
    have h1 : ¬ less a b := by unfold less; rw [h.1]; simp
    rcases less_or h1 with h2 | h2
    · exact absurd h2 h.2
    · exact h2
  · intro h
    have h1 : Op.bytesLess a.toList b.toList = false := by
      cases e : Op.bytesLess a.toList b.toList with
      | false => rfl
      | true => exact absurd (less_trans h e) (less_irrefl _)
    have h2 : a ≠ b := fun e => by subst e; exact less_irrefl _ h
    rw [h1]; simp [h2]
def Rising (l : List ByteArray) : Prop := l.Pairwise less
theorem pos_spec (out : List ByteArray) (x : ByteArray) : ∀ k, posB out x k ≤ k ∧ (∀ j, posB out x k ≤ j → j < k → less x (out.getD j ⟨#[]⟩)) ∧ (0 < posB out x k → ¬ less x (out.getD (posB out x k - 1) ⟨#[]⟩))
  | 0 => by simp [posB]
  | k + 1 => by
    rw [posB]
    split
    · rename_i h
      obtain ⟨h1, h2, h3⟩ := pos_spec out x k
      refine ⟨by omega, fun j h4 h5 => ?_, h3⟩
      by_cases hj : j = k
      · subst hj; exact (gt_iff _ _).1 h
      · exact h2 j h4 (by omega)
    · rename_i h
      refine ⟨by omega, fun j h4 h5 => by omega, fun _ => ?_⟩
      rw [Nat.add_sub_cancel]
      exact fun k => h ((gt_iff _ _).2 k)
/-- A text goes in: it was there, or it parts the list. -/
theorem ins_spec (out : List ByteArray) (x : ByteArray) (h : Rising out) : (x ∈ out ∧ insB out x = out) ∨ ∃ a, a ≤ out.length ∧ insB out x = out.take a ++ x :: out.drop a ∧ (∀ y ∈ out.take a, less y x) ∧ ∀ y ∈ out.drop a, less x y := by
  obtain ⟨h1, h2, h3⟩ := pos_spec out x out.length
  obtain ⟨a, ha⟩ : ∃ a, posB out x out.length = a := ⟨_, rfl⟩
  rw [ha] at h1 h2 h3
  by_cases hc : 0 < a ∧ ((out.getD (a - 1) ⟨#[]⟩).toList == x.toList) = true
  · left
    constructor
    · have h4 := hc.2
      rw [bytes_eq] at h4
      have h5 := of_decide_eq_true h4
      have h6 : a - 1 < out.length := by omega
      rw [← h5]
      simp [List.getD, h6]
    · unfold insB; rw [ha, if_pos hc]
  · right
    refine ⟨a, h1, by unfold insB; rw [ha, if_neg hc], fun y hy => ?_, fun y hy => ?_⟩
    · obtain ⟨i, hi, rfl⟩ := List.mem_iff_getElem.1 hy
      simp at hi
      have ha0 : 0 < a := by omega
      have h6 : a - 1 < out.length := by omega
      have e : out.getD (a - 1) ⟨#[]⟩ = out[a - 1] := by simp [List.getD, h6]
      have h4 : less out[a - 1] x := by
        have h5 := h3 ha0
        rw [e] at h5
        rcases less_or h5 with h7 | h7
        · exfalso
          apply hc
          refine ⟨ha0, ?_⟩
          rw [bytes_eq, e, ← h7]; simp
        · exact h7
      rw [List.getElem_take]
      by_cases hia : i = a - 1
      · subst hia; exact h4
      · exact less_trans (List.pairwise_iff_getElem.1 h i (a - 1) (by omega) h6 (by omega)) h4
    · obtain ⟨i, hi, rfl⟩ := List.mem_iff_getElem.1 hy
      simp at hi
      have h6 : a + i < out.length := by omega
      have := h2 (a + i) (by omega) h6
      rw [List.getElem_drop]
      simpa [List.getD, h6] using this
theorem ins_rising (out : List ByteArray) (x : ByteArray) (h : Rising out) : Rising (insB out x) := by
  rcases ins_spec out x h with ⟨_, e⟩ | ⟨a, _, e, h1, h2⟩
  · rw [e]; exact h
  · rw [e]
    unfold Rising at *
    rw [List.pairwise_append, List.pairwise_cons]
    refine ⟨h.sublist (List.take_sublist _ _), ⟨h2, h.sublist (List.drop_sublist _ _)⟩, fun y hy z hz => ?_⟩
    rcases List.mem_cons.1 hz with rfl | hz
    · exact h1 y hy
    · exact less_trans (h1 y hy) (h2 z hz)
theorem ins_mem (out : List ByteArray) (x y : ByteArray) (h : Rising out) : y ∈ insB out x ↔ y ∈ out ∨ y = x := by
  rcases ins_spec out x h with ⟨hx, e⟩ | ⟨a, _, e, h1, h2⟩
  · rw [e]
    constructor
    · exact .inl
    · rintro (h | rfl)
      · exact h
      · exact hx
  · rw [e]
    conv => rhs; rw [← List.take_append_drop a out]
    simp only [List.mem_append, List.mem_cons]
    constructor
    · rintro (h | h | h)
      · exact .inl (.inl h)
      · exact .inr h
      · exact .inl (.inr h)
    · rintro ((h | h) | h)
      · exact .inl h
      · exact .inr (.inr h)
      · exact .inr (.inl h)
theorem fold_rising : ∀ (l out : List ByteArray), Rising out → Rising (l.foldl insB out)
  | [], out, h => h
  | x :: l, out, h => fold_rising l _ (ins_rising out x h)
theorem fold_mem : ∀ (l out : List ByteArray) (y : ByteArray), Rising out → (y ∈ l.foldl insB out ↔ y ∈ out ∨ y ∈ l)
  | [], out, y, h => by simp
  | x :: l, out, y, h => by
    show y ∈ l.foldl insB (insB out x) ↔ _
    rw [fold_mem l _ y (ins_rising out x h), ins_mem out x y h, List.mem_cons, or_assoc]
theorem fold_len : ∀ (l out : List ByteArray), (l.foldl insB out).length ≤ out.length + l.length
  | [], out => by simp
  | x :: l, out => by
    have h1 := fold_len l (insB out x)
    have h2 := insB_len out x
    show (l.foldl insB (insB out x)).length ≤ _
    simp only [List.length_cons]
    omega
theorem sorted_rising (l : List ByteArray) : Rising (sortedB l) := fold_rising l [] List.Pairwise.nil
theorem sorted_mem (l : List ByteArray) (y : ByteArray) : y ∈ sortedB l ↔ y ∈ l := by
  have := fold_mem l [] y List.Pairwise.nil
  simpa [sortedB] using this
theorem sorted_len (l : List ByteArray) : (sortedB l).length ≤ l.length := by
  have := fold_len l []
  simpa [sortedB] using this
/-- A rising list is told by what is in it. -/
theorem rising_ext : ∀ (l m : List ByteArray), Rising l → Rising m → (∀ y, y ∈ l ↔ y ∈ m) → l = m
  | [], [], _, _, _ => rfl
  | [], y :: m, _, _, h => by have := (h y).2 (by simp); simp at this
  | x :: l, [], _, _, h => by have := (h x).1 (by simp); simp at this
  | x :: l, y :: m, hl, hm, h => by
    unfold Rising at hl hm
    rw [List.pairwise_cons] at hl hm
    have e : x = y := by
      rcases List.mem_cons.1 ((h x).1 (by simp)) with h1 | h1
      · exact h1
      · rcases List.mem_cons.1 ((h y).2 (by simp)) with h2 | h2
        · exact h2.symm
        · exact absurd (less_trans (hl.1 y h2) (hm.1 x h1)) (less_irrefl _)
    subst e
    congr 1
    refine rising_ext l m hl.2 hm.2 fun z => ?_
    constructor
    · intro hz
      rcases List.mem_cons.1 ((h z).1 (by simp [hz])) with h1 | h1
      · subst h1; exact absurd (hl.1 _ hz) (less_irrefl _)
      · exact h1
    · intro hz
      rcases List.mem_cons.1 ((h z).2 (by simp [hz])) with h1 | h1
      · subst h1; exact absurd (hm.1 _ hz) (less_irrefl _)
      · exact h1
theorem sorted_again (l : List ByteArray) : sortedB (sortedB l) = sortedB l :=
  rising_ext _ _ (sorted_rising _) (sorted_rising _) fun y => sorted_mem _ y
end Go.Proofs.Ythjcmagionaepaa
