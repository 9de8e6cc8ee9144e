/- ExtentLasts: what stands where, as two tables. -/
import Derived.Test.YthdmclhccbjgoaaREnd
import Derived.Test.YthdmclhccbjgoaaEMapT
namespace Go.Proofs.Ythdmclhccbjgoaa
open Go.RowKit Kit
set_option linter.unusedVariables false

/-- The two tables say what the pieces say. -/
structure Tab (ps : List Pc) (f g : Int → Int) : Prop where
  here : ∀ k, 0 ≤ k → k < 64 → valB ps k = if f k = 0 then none else some (f k, g k)
  out : ∀ k, k < 0 ∨ 64 ≤ k → valB ps k = none
def overT (f : Int → Int) (a b : Int) (h : Int → Int) : Int → Int := fun j => if a ≤ j ∧ j < b then h j else f j
theorem overT_nil (f h : Int → Int) (a : Int) : overT f a a h = f := by
  funext j
  unfold overT
  rw [if_neg (by omega)]
theorem overT_step (f h : Int → Int) (a k : Int) (x : Int) (hk : a ≤ k) (hx : x = h k) : overT (overT f a k h) k (k + 1) (fun _ => x) = overT f a (k + 1) h := by
  funext j
  unfold overT
  by_cases h1 : j = k
  · subst h1
    rw [if_pos (by omega), if_pos (by omega), hx]
  · rw [if_neg (by omega)]
    by_cases h2 : a ≤ j ∧ j < k
    · rw [if_pos h2, if_pos (by omega)]
    · rw [if_neg h2, if_neg (by omega)]
theorem tab_new : Tab [] (fun _ => 0) (fun _ => 0) := ⟨fun k _ _ => rfl, fun k _ => rfl⟩
theorem tab_put {ps : List Pc} {f g : Int → Int} (h : Tab ps f g) (hr : Rise ps) (o l p s : Int) (h0 : 0 ≤ o) (h1 : 1 ≤ l) (h2 : o + l ≤ 64) (hp : p ≠ 0) :
    Tab (putB ps ⟨o, l, p, s⟩) (overT f o (o + l) (fun _ => p)) (overT g o (o + l) (fun j => s + j - o)) := by
  have hv := (can_put (p := ⟨o, l, p, s⟩) hr h1).2
  refine ⟨fun k k0 k1 => ?_, fun k hk => ?_⟩
  · rw [hv]
    unfold overT
    by_cases hin : o ≤ k ∧ k < o + l
    · rw [if_pos hin, if_pos hin, if_pos hin, if_neg hp]
    · rw [if_neg hin, if_neg hin, if_neg hin]
      exact h.here k k0 k1
  · rw [hv, if_neg (by show ¬ (o ≤ k ∧ k < o + l); omega)]
    exact h.out k hk
theorem tab_cut {ps : List Pc} {f g : Int → Int} (h : Tab ps f g) (hc : Can ps) (a b : Int) (e : Int → Int) :
    Tab (cutB ps a b) (overT f a b (fun _ => 0)) (overT g a b e) := by
  have hv := (can_cut (a := a) (b := b) hc).2
  refine ⟨fun k k0 k1 => ?_, fun k hk => ?_⟩
  · rw [hv]
    unfold overT
    by_cases hin : a ≤ k ∧ k < b
    · rw [if_pos hin, if_pos hin, if_pos rfl]
    · rw [if_neg hin, if_neg hin, if_neg hin]
      exact h.here k k0 k1
  · rw [hv, h.out k hk]
    split <;> rfl
theorem tab_find {ps : List Pc} {f g : Int → Int} (h : Tab ps f g) {k : Int} (k0 : 0 ≤ k) (k1 : k < 64) :
    (∀ p, findB ps k = some p → p.page = f k ∧ f k ≠ 0 ∧ g k = p.pos + k - p.off) ∧ (findB ps k = none → f k = 0) := by
  have hh := h.here k k0 k1
  unfold valB at hh
  refine ⟨fun p hp => ?_, fun hn => ?_⟩
  · rw [hp] at hh
    by_cases hf : f k = 0
    · rw [if_pos hf] at hh
      cases hh
    · rw [if_neg hf] at hh
      injection hh with hh
      injection hh with h1 h2
      exact ⟨h1, hf, h2.symm⟩
  · rw [hn] at hh
    by_cases hf : f k = 0
    · exact hf
    · rw [if_neg hf] at hh
      cases hh
/-- Behind what place no table says a thing. -/
def EndIs (f : Int → Int) (k e : Int) : Prop := 0 ≤ e ∧ e ≤ k ∧ (∀ j, e ≤ j → j < k → f j = 0) ∧ (0 < e → f (e - 1) ≠ 0)
theorem endIs_new (f : Int → Int) : EndIs f 0 0 := ⟨Int.le_refl _, Int.le_refl _, fun j h1 h2 => by omega, fun h => by omega⟩
theorem endIs_no {f : Int → Int} {k e : Int} (h : EndIs f k e) (h0 : f k = 0) : EndIs f (k + 1) e :=
  ⟨h.1, by have := h.2.1; omega, fun j h1 h2 => by
    by_cases hj : j = k
    · rw [hj]; exact h0
    · exact h.2.2.1 j h1 (by omega), h.2.2.2⟩
theorem endIs_yes {f : Int → Int} {k e : Int} (h : EndIs f k e) (h0 : f k ≠ 0) : EndIs f (k + 1) (k + 1) :=
  ⟨by have := h.1; have := h.2.1; omega, Int.le_refl _, fun j h1 h2 => by omega, fun _ => by rw [show k + 1 - 1 = k by omega]; exact h0⟩
theorem val_some {ps : List Pc} (hr : Rise ps) {y : Pc} (hy : y ∈ ps) {k : Int} (h : y.off ≤ k ∧ k < y.off + y.len) : valB ps k ≠ none := by
  intro e
  unfold valB at e
  rw [Option.map_eq_none_iff] at e
  unfold findB at e
  rw [List.find?_eq_none] at e
  have := e y hy
  unfold hasB at this
  rw [decide_eq_true_iff] at this
  exact this h
theorem val_mem {ps : List Pc} {k : Int} (h : valB ps k ≠ none) : ∃ y ∈ ps, y.off ≤ k ∧ k < y.off + y.len := by
  apply Classical.byContradiction
  intro hn
  exact h (valB_none fun p hp e => hn ⟨p, hp, e⟩)
theorem end_is {ps : List Pc} {f g : Int → Int} {e : Int} (h : Tab ps f g) (hr : Rise ps) (hf : Fits ps) (he : EndIs f 64 e) : endB ps = e := by
  obtain ⟨e0, e1, e2, e3⟩ := he
  have hno : ∀ k, 0 ≤ k → k < 64 → (valB ps k = none ↔ f k = 0) := fun k k0 k1 => by
    rw [h.here k k0 k1]
    by_cases hz : f k = 0
    · rw [if_pos hz]; exact ⟨fun _ => hz, fun _ => rfl⟩
    · rw [if_neg hz]; exact ⟨fun h => (by cases h), fun h => absurd h hz⟩
  rcases Nat.eq_zero_or_pos ps.length with hl | hl
  · rw [end_nil hl]
    have hp : ps = [] := List.length_eq_zero_iff.1 hl
    subst hp
    by_cases hz : e = 0
    · exact hz.symm
    · exact absurd ((hno (e - 1) (by omega) (by omega)).1 rfl) (e3 (by omega))
  · obtain ⟨m, hm⟩ : ∃ m, ps.length = m + 1 := ⟨ps.length - 1, by omega⟩
    have hml : m < ps.length := by omega
    rw [end_at hm hml]
    obtain ⟨y, hy⟩ : ∃ y, y = ps[m] := ⟨_, rfl⟩
    have hym : y ∈ ps := by rw [hy]; exact List.getElem_mem hml
    have hall : ∀ z ∈ ps, z.off + z.len ≤ y.off + y.len := fun z hz => by
      obtain ⟨i, hi, rfl⟩ := List.getElem_of_mem hz
      by_cases him : i = m
      · subst him; rw [hy]; exact Int.le_refl _
      · have := (List.pairwise_iff_getElem.1 hr.2) i m hi hml (by omega)
        rw [← hy] at this
        have := hr.1 y hym
        omega
    rw [← hy]
    have hyf := hf y hym
    obtain ⟨f0, f1, _⟩ := hyf
    have hv := val_some hr hym (k := y.off + y.len - 1) (by omega)
    have hin : y.off + y.len - 1 < 64 := by
      by_cases hh : y.off + y.len - 1 < 64
      · exact hh
      · exact absurd (h.out _ (by omega)) hv
    have hfy : f (y.off + y.len - 1) ≠ 0 := fun e => hv ((hno _ (by omega) hin).2 e)
    have h1 : y.off + y.len ≤ e := by
      by_cases hh : y.off + y.len ≤ e
      · exact hh
      · exact absurd (e2 _ (by omega) hin) hfy
    have h2 : e ≤ y.off + y.len := by
      have h3 := e3 (by omega)
      have h4 : valB ps (e - 1) ≠ none := fun e' => h3 ((hno _ (by omega) (by omega)).1 e')
      obtain ⟨z, hz, h5⟩ := val_mem h4
      have := hall z hz
      omega
    omega
end Go.Proofs.Ythdmclhccbjgoaa
