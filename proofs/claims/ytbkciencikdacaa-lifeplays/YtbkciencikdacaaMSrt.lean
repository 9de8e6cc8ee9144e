/- dolmenref9.Sorted of numbers: rising, each once, just what was there. (No program in it.) -/
import Derived.Test.YtbkciencikdacaaRSortedI
namespace Go.Proofs.Ytbkciencikdacaa
open Go.RowKit Kit
set_option linter.unusedVariables false

theorem getD9 {l : List Int} {i : Nat} (h : i < l.length) : l.getD i 0 = l[i] := by simp [List.getD, h]
theorem posI_le (out : List Int) (x : Int) : ∀ k, posI out x k ≤ k
  | 0 => by simp [posI]
  | k + 1 => by
    have := posI_le out x k
    unfold posI
    split <;> omega
theorem posI_gt (out : List Int) (x : Int) : ∀ k j, posI out x k ≤ j → j < k → x < out.getD j 0
  | 0, j, _, h => by omega
  | k + 1, j, h1, h2 => by
    unfold posI at h1
    split at h1
    · rename_i hx
      by_cases hj : j = k
      · subst hj; simpa using hx
      · exact posI_gt out x k j h1 (by omega)
    · omega
theorem posI_at (out : List Int) (x : Int) : ∀ k m, posI out x k = m + 1 → ¬ x < out.getD m 0
  | 0, m, h => by simp [posI] at h
  | k + 1, m, h => by
    unfold posI at h
    split at h
    · exact posI_at out x k m h
    · rename_i hx
      obtain rfl : k = m := by omega
      simpa using hx
/-- Rising: each once. -/
def Ups (l : List Int) : Prop := l.Pairwise (· < ·)
theorem ups_le {l : List Int} (h : Ups l) {i j : Nat} (hij : i ≤ j) (hj : j < l.length) : l.getD i 0 ≤ l.getD j 0 := by
  unfold Ups at h
  rw [List.pairwise_iff_getElem] at h
  have hi : i < l.length := by omega
  rw [getD9 hi, getD9 hj]
  by_cases e : i = j
  · subst e; omega
  · have := h i j hi hj (by omega); omega
theorem ins_ups {out : List Int} {x : Int} (h : Ups out) : Ups (insI out x) ∧ ∀ y, y ∈ insI out x ↔ y ∈ out ∨ y = x := by
  unfold insI
  have hp := posI_le out x out.length
  obtain ⟨a, ha⟩ : ∃ a, a = posI out x out.length := ⟨_, rfl⟩
  have hgt := posI_gt out x out.length
  have hat := posI_at out x out.length
  rw [← ha] at hp hgt hat ⊢
  by_cases hc : 0 < a ∧ (out.getD (a - 1) 0 == x) = true
  · rw [if_pos hc]
    refine ⟨h, fun y => ⟨Or.inl, fun hy => ?_⟩⟩
    rcases hy with hy | rfl
    · exact hy
    · have e := beq_iff_eq.1 hc.2
      rw [← e, getD9 (by omega : a - 1 < out.length)]
      exact List.getElem_mem _
  · rw [if_neg hc]
    have hlt : ∀ y ∈ out.take a, y < x := by
      intro y hy
      obtain ⟨j, hj, rfl⟩ := List.getElem_of_mem hy
      rw [List.length_take] at hj
      rw [List.getElem_take]
      have h0 : 0 < a := by omega
      have h1 := ups_le h (i := j) (j := a - 1) (by omega) (by omega)
      have h2 := hat (a - 1) (by omega)
      have h3 : out.getD (a - 1) 0 ≠ x := fun e => hc ⟨h0, beq_iff_eq.2 e⟩
      rw [getD9 (by omega : j < out.length)] at h1
      omega
    have hgt2 : ∀ y ∈ out.drop a, x < y := by
      intro y hy
      obtain ⟨j, hj, rfl⟩ := List.getElem_of_mem hy
      rw [List.length_drop] at hj
      rw [List.getElem_drop]
      have := hgt (a + j) (by omega) (by omega)
      rw [getD9 (by omega : a + j < out.length)] at this
      exact this
    refine ⟨?_, fun y => ?_⟩
    · unfold Ups at *
      refine List.pairwise_append.2 ⟨h.sublist (List.take_sublist _ _), List.pairwise_cons.2 ⟨hgt2, h.sublist (List.drop_sublist _ _)⟩, fun y hy z hz => ?_⟩
      rcases List.mem_cons.1 hz with rfl | hz
      · exact hlt y hy
      · have := hlt y hy; have := hgt2 z hz; omega
    · rw [List.mem_append, List.mem_cons]
      have e : y ∈ out ↔ y ∈ out.take a ∨ y ∈ out.drop a := by
        conv => lhs; rw [← List.take_append_drop a out]
        exact List.mem_append
      rw [e]
      constructor
      · rintro (h | h | h)
        · exact .inl (.inl h)
        · exact .inr h
        · exact .inl (.inr h)
      · rintro ((h | h) | h)
        · exact .inl h
        · exact .inr (.inr h)
        · exact .inr (.inl h)
theorem srt_ok (l : List Int) : Ups (srtI l) ∧ ∀ y, y ∈ srtI l ↔ y ∈ l := by
  have key : ∀ (l out : List Int), Ups out → Ups (l.foldl insI out) ∧ ∀ y, y ∈ l.foldl insI out ↔ y ∈ out ∨ y ∈ l := by
    intro l
    induction l with
    | nil => intro out h; exact ⟨h, fun y => by simp⟩
    | cons x l ih =>
      intro out h
      obtain ⟨h1, h2⟩ := ins_ups (x := x) h
      obtain ⟨h3, h4⟩ := ih _ h1
      refine ⟨h3, fun y => ?_⟩
      rw [List.foldl_cons, h4, h2, List.mem_cons]
      constructor
      · rintro ((h | h) | h)
        · exact .inl h
        · exact .inr (.inl h)
        · exact .inr (.inr h)
      · rintro (h | h | h)
        · exact .inl (.inl h)
        · exact .inl (.inr h)
        · exact .inr h
  obtain ⟨h1, h2⟩ := key l [] List.Pairwise.nil
  exact ⟨h1, fun y => by unfold srtI; rw [h2]; simp⟩
/-- Two rising lists of the same numbers are one. -/
theorem ups_ext : ∀ (a b : List Int), Ups a → Ups b → (∀ y, y ∈ a ↔ y ∈ b) → a = b
  | [], [], _, _, _ => rfl
  | [], y :: b, _, _, h => by have := (h y).2 (List.mem_cons_self ..); cases this
  | x :: a, [], _, _, h => by have := (h x).1 (List.mem_cons_self ..); cases this
  | x :: a, y :: b, ha, hb, h => by
    unfold Ups at ha hb
    obtain ⟨a1, a2⟩ := List.pairwise_cons.1 ha
    obtain ⟨b1, b2⟩ := List.pairwise_cons.1 hb
    have e : x = y := by
      have h1 := (h x).1 (List.mem_cons_self ..)
      have h2 := (h y).2 (List.mem_cons_self ..)
      rcases List.mem_cons.1 h1 with h1 | h1
      · exact h1
      · rcases List.mem_cons.1 h2 with h2 | h2
        · exact h2.symm
        · have := b1 x h1; have := a1 y h2; omega
    subst e
    rw [ups_ext a b a2 b2 fun z => ?_]
    have hz := h z
    rw [List.mem_cons, List.mem_cons] at hz
    constructor
    · intro hm
      rcases hz.1 (.inr hm) with e | hb2
      · subst e; have := a1 z hm; omega
      · exact hb2
    · intro hm
      rcases hz.2 (.inr hm) with e | ha2
      · subst e; have := b1 z hm; omega
      · exact ha2
end Go.Proofs.Ytbkciencikdacaa
