/- A row of structs: one cell of an element written. (No program in it.) -/
import Derived.Test.YtbkciencikdacaaKitTurn
namespace Go.Proofs.Ytbkciencikdacaa
open Go.RowKit Kit
set_option linter.unusedVariables false

theorem flat_set {α : Type} (E : Enc α) : ∀ (xs : List α) (i : Nat) (hi : i < xs.length) (j : Nat) (x : Value) (y : α), j < E.k → E.c y = (E.c xs[i]).set j x → E.flat (xs.set i y) = (E.flat xs).set (i * E.k + j) x
  | z :: xs, 0, _, j, x, y, hj, h => by
    unfold Enc.flat
    rw [List.set_cons_zero, List.flatMap_cons, List.flatMap_cons, Nat.zero_mul, Nat.zero_add, List.set_append_left _ _ (by rw [E.len]; exact hj)]
    simp only [List.getElem_cons_zero] at h
    rw [h]
  | z :: xs, i + 1, hi, j, x, y, hj, h => by
    have ih := flat_set E xs i (by simpa using hi) j x y hj (by simpa using h)
    unfold Enc.flat at *
    rw [List.set_cons_succ, List.flatMap_cons, List.flatMap_cons, ih, List.set_append_right _ _ (by rw [E.len, Nat.succ_mul]; omega), E.len]
    congr 2
    rw [Nat.succ_mul]; omega
theorem rowE_form {α : Type} {E : Enc α} {w : World} {base : Nat} {e : TypeId} {v : Value} {xs : List α} (h : RowE E w base e v xs) (h0 : 0 < xs.length) : ∃ g cap, v = .slice (some ⟨g, 0, none⟩) xs.length cap ∧ base ≤ g ∧ g < w.heap.size ∧ (∀ j, w.frozen? ⟨g, j, none⟩ = false) ∧ (∀ (i : Nat) (hi : i < xs.length) (j : Nat) (x : Value), (E.c xs[i])[j]? = some x → w.cell? ⟨g, i * E.k + j, none⟩ = some x) := by
  have hs := h.sees
  obtain ⟨h1, h2⟩ := h
  rcases h2 with ⟨_, h2⟩ | ⟨g, cap, cur, hv, hg, hh, r⟩
  · omega
  · subst hv
    obtain ⟨b, off, e1, _, hb, hc⟩ := hs.cells h0
    injection e1 with e1
    injection e1 with e2 e3
    subst e2 e3
    refine ⟨g, cap, rfl, hg, hb, fun j => by simp [World.frozen?, hh], fun i hi j x hx => ?_⟩
    have := hc i hi j x hx
    rw [Nat.zero_add] at this
    exact this
theorem rowE_put {α : Type} {E : Enc α} {w : World} {base g n cap : Nat} {e : TypeId} {xs : List α} (h : RowE E w base e (.slice (some ⟨g, 0, none⟩) n cap) xs) (i : Nat) (hi : i < xs.length) (j : Nat) (hj : j < E.k) (x : Value) (y : α) (hy : E.c y = (E.c xs[i]).set j x) :
    RowE E (w.setCell ⟨g, i * E.k + j, none⟩ x) base e (.slice (some ⟨g, 0, none⟩) n cap) (xs.set i y) := by
  obtain ⟨h1, h2⟩ := h
  rcases h2 with ⟨h2, _⟩ | ⟨g', cap', cur, hv, hg, hh, h3, h4, h5, h6⟩
  · cases h2
  · injection hv with e1 e2 e3
    injection e1 with e1
    injection e1 with e1
    subst e1 e3
    refine ⟨by rw [E.flat_len, List.length_set], Or.inr ⟨g, cap, cur.setIfInBounds (i * E.k + j) x, by rw [List.length_set, e2], hg, setCell_blk hh x, by rw [List.length_set]; exact h3, h4, by simpa using h5, ?_⟩⟩
    rw [List.length_set, flat_set E xs i hi j x y hj hy, ← h6, Array.toList_setIfInBounds]
    apply List.ext_getElem?
    intro k
    rw [List.getElem?_take, List.getElem?_set, List.getElem?_set, List.getElem?_take]
    have hl : i * E.k + j < xs.length * E.k := by
      have : (i + 1) * E.k ≤ xs.length * E.k := Nat.mul_le_mul_right _ hi
      rw [Nat.succ_mul] at this
      omega
    have hl2 : (List.take (xs.length * E.k) cur.toList).length = xs.length * E.k := by
      rw [h6, E.flat_len]
    by_cases hk : i * E.k + j = k
    · subst hk
      rw [if_pos hl, if_pos rfl, if_pos rfl, hl2]
      have : i * E.k + j < cur.toList.length := by
        have h7 : xs.length * E.k ≤ cap * E.k := Nat.mul_le_mul_right _ h3
        rw [Array.length_toList, h5]; omega
      rw [if_pos this, if_pos hl]
    · rw [if_neg hk, if_neg hk]
/-- What stands below the row stays. -/
theorem set_below {w w' : World} {B g o : Nat} {x : Value} (h : Below B w w') (hg : B ≤ g) : Below B w (w'.setCell ⟨g, o, none⟩ x) := h.setCell hg _
end Go.Proofs.Ytbkciencikdacaa
