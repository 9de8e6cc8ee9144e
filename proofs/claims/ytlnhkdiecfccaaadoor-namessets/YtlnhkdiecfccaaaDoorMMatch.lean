/- Patterns: what the reference's matching keeps. (No walk in it.) -/
import Derived.Test.YtlnhkdiecfccaaaDoorRMatch
namespace Go.Proofs.YtlnhkdiecfccaaaDoor
open Go.RowKit Kit
set_option linter.unusedVariables false

theorem hits_0 (p n : ByteArray) (k : Nat) : hits p n 0 k = decide (k = 0) := by cases k <;> simp [hits]
theorem star_ge {p n : ByteArray} {i k : Nat} (h : cAt p i = 42) (hk : hits p n i k = true) : hits p n (i + 1) k = true := by
  cases k with
  | zero => rw [hits_s0 p n i h]; exact hk
  | succ k => rw [hits_s1 p n i k h, hk]; rfl
theorem star_more {p n : ByteArray} {i k : Nat} (h : cAt p i = 42) (hk : hits p n (i + 1) k = true) : ∀ j, hits p n (i + 1) (k + j) = true
  | 0 => hk
  | j + 1 => by
    rw [show k + (j + 1) = (k + j) + 1 by omega, hits_s1 p n i _ h, star_more h hk j, Bool.or_true]
theorem hits_diag {p n : ByteArray} {i k : Nat} (h : hits p n i k = true) : ∀ m, (∀ j, j < m → cAt p (i + j) = cAt n (k + j)) → hits p n (i + m) (k + m) = true
  | 0, _ => h
  | m + 1, hc => by
    have ih := hits_diag h m (fun j hj => hc j (by omega))
    have hm := hc m (by omega)
    show hits p n ((i + m) + 1) ((k + m) + 1) = true
    by_cases hs : cAt p (i + m) = 42
    · have := star_more hs (star_ge hs ih) 1
      exact this
    · rw [hits_o1 p n _ _ hs (.inr hm)]; exact ih
theorem hits_plain {p n : ByteArray} : ∀ i k, (∀ j, j < i → cAt p j ≠ 42 ∧ cAt p j ≠ 63) → (hits p n i k = true ↔ i = k ∧ ∀ j, j < i → cAt p j = cAt n j)
  | 0, k, _ => by rw [hits_0]; simp; exact eq_comm
  | i + 1, 0, h => by
    rw [hits_o0 p n i (h i (by omega)).1]; simp
  | i + 1, k + 1, h => by
    have ih := hits_plain (p := p) (n := n) i k (fun j hj => h j (by omega))
    obtain ⟨h1, h2⟩ := h i (by omega)
    by_cases h3 : cAt p i = cAt n k
    · rw [hits_o1 p n i k h1 (.inr h3), ih]
      constructor
      · rintro ⟨rfl, h4⟩
        refine ⟨rfl, fun j hj => ?_⟩
        by_cases hji : j = i
        · subst hji; exact h3
        · exact h4 j (by omega)
      · rintro ⟨h4, h5⟩
        exact ⟨by omega, fun j hj => h5 j (by omega)⟩
    · rw [hits_o2 p n i k h1 h2 h3]
      simp only [Bool.false_eq_true, false_iff]
      rintro ⟨h4, h5⟩
      obtain rfl : i = k := by omega
      exact h3 (h5 i (by omega))
theorem cAt_append_left (a b : ByteArray) (k : Nat) (h : k < a.size) : cAt (a ++ b) k = cAt a k := by
  have h2 : k < a.data.toList.length := by simpa using h
  unfold cAt
  rw [ByteArray.data_append, Array.toList_append, List.getD_eq_getElem?_getD, List.getElem?_append_left h2, List.getD_eq_getElem?_getD]
theorem cAt_append_right (a b : ByteArray) (k : Nat) : cAt (a ++ b) (a.size + k) = cAt b k := by
  have h2 : a.data.toList.length ≤ a.size + k := by
    have : a.data.toList.length = a.size := by simp
    omega
  have h3 : a.size + k - a.data.toList.length = k := by
    have : a.data.toList.length = a.size := by simp
    omega
  unfold cAt
  rw [ByteArray.data_append, Array.toList_append, List.getD_eq_getElem?_getD, List.getElem?_append_right h2, h3, List.getD_eq_getElem?_getD]
theorem cAt_ext {a b : ByteArray} (hs : a.size = b.size) (h : ∀ j, j < a.size → cAt a j = cAt b j) : a = b := by
  apply ByteArray.ext
  apply Array.ext
  · exact hs
  · intro i h1 h2
    have h3 : i < a.size := h1
    have h4 : i < b.size := h2
    have := h i h3
    rw [← cAt_eq a i h3, ← cAt_eq b i h4] at this
    exact UInt8.toNat_inj.1 this
/-- A star alone. -/
theorem match_star (b : ByteArray) (h : b.size ≤ 40) : matchB ⟨#[42]⟩ b = true := by
  have h1 : hits ⟨#[42]⟩ b 1 (0 + b.size) = true := star_more (i := 0) (by rfl) (star_ge (by rfl) (by simp [hits])) _
  rw [Nat.zero_add] at h1
  have h2 : (⟨#[42]⟩ : ByteArray).size = 1 := rfl
  unfold matchB
  rw [h2, h1]; simp [h]
theorem match_tail (a b : ByteArray) (h : a.size + b.size < 40) : matchB (a ++ ⟨#[42]⟩) (a ++ b) = true := by
  have h0 : hits (a ++ ⟨#[42]⟩) (a ++ b) 0 0 = true := by simp [hits]
  have h1 := hits_diag h0 a.size (fun j hj => by rw [Nat.zero_add, cAt_append_left _ _ _ hj, cAt_append_left _ _ _ hj])
  rw [Nat.zero_add] at h1
  have hs : cAt (a ++ ⟨#[42]⟩) a.size = 42 := by have := cAt_append_right a ⟨#[42]⟩ 0; rw [Nat.add_zero] at this; rw [this]; rfl
  have h2 := star_more hs (star_ge hs h1) b.size
  have e : (⟨#[42]⟩ : ByteArray).size = 1 := rfl
  unfold matchB
  rw [ByteArray.size_append, ByteArray.size_append, e, h2]
  simp; omega
theorem match_head (a b : ByteArray) (h : a.size + b.size < 40) : matchB (⟨#[42]⟩ ++ b) (a ++ b) = true := by
  have hs : cAt (⟨#[42]⟩ ++ b) 0 = 42 := by rw [cAt_append_left _ _ _ (by decide)]; rfl
  have h1 := star_more hs (star_ge (n := a ++ b) (k := 0) hs (by simp [hits])) a.size
  rw [Nat.zero_add, Nat.zero_add] at h1
  have e : (⟨#[42]⟩ : ByteArray).size = 1 := rfl
  have h2 := hits_diag h1 b.size (fun j hj => by
    rw [cAt_append_right]
    have := cAt_append_right ⟨#[42]⟩ b j
    rw [e] at this
    exact this)
  unfold matchB
  rw [ByteArray.size_append, ByteArray.size_append, e, h2]
  simp; omega
theorem match_self (a : ByteArray) (h : a.size ≤ 40) : matchB a a = true := by
  have h0 : hits a a 0 0 = true := by simp [hits]
  have h1 := hits_diag h0 a.size (fun j hj => rfl)
  rw [Nat.zero_add] at h1
  unfold matchB
  rw [h1]; simp [h]
theorem match_plain (a b : ByteArray) (ha : a.size ≤ 40) (hb : b.size ≤ 40) (h : ∀ j, j < a.size → cAt a j ≠ 42 ∧ cAt a j ≠ 63) : matchB a b = decide (a = b) := by
  have h1 := hits_plain (p := a) (n := b) a.size b.size h
  unfold matchB
  by_cases e : a = b
  · subst e
    rw [h1.2 ⟨rfl, fun _ _ => rfl⟩]; simp [ha]
  · have : hits a b a.size b.size = false := by
      cases hh : hits a b a.size b.size with
      | false => rfl
      | true => obtain ⟨h2, h3⟩ := h1.1 hh; exact absurd (cAt_ext h2 h3) e
    rw [this]; simp [e]
theorem match_one (b : ByteArray) (h : b.size ≤ 40) : matchB ⟨#[63]⟩ b = decide (b.size = 1) := by
  have e : (⟨#[63]⟩ : ByteArray).size = 1 := rfl
  unfold matchB
  rw [e]
  have h1 : hits ⟨#[63]⟩ b 1 b.size = decide (b.size = 1) := by
    have hs : ¬ cAt ⟨#[63]⟩ 0 = 42 := by decide
    cases hk : b.size with
    | zero => rw [hits_o0 _ _ 0 hs]; rfl
    | succ k => rw [hits_o1 _ _ 0 k hs (.inl (by rfl)), hits_0]; simp
  rw [h1]; simp [h]
end Go.Proofs.YtlnhkdiecfccaaaDoor
