/- Pieces: how many there are, and how great their numbers. (No program in it.) -/
import Derived.Test.YthdmclhccbjgoaaMExt2
namespace Go.Proofs.Ythdmclhccbjgoaa
open Go.RowKit Kit
set_option linter.unusedVariables false

/-- A piece whose numbers are small. -/
def Fit (p : Pc) : Prop := 0 ≤ p.off ∧ 1 ≤ p.len ∧ p.off + p.len ≤ 2147483648 ∧ 0 ≤ p.page ∧ p.page ≤ 1073741824 ∧ 0 ≤ p.pos ∧ p.pos + p.len ≤ 2147483648
def Fits (l : List Pc) : Prop := ∀ p ∈ l, Fit p
theorem fits_clear {a b : Int} {l : List Pc} (h : Fits l) : Fits (clearB a b l) := by
  intro x hx
  obtain ⟨p, hp, hx⟩ := List.mem_flatMap.1 hx
  have hf := h p hp
  obtain ⟨h1, h2, h3, _, h4, h5⟩ := clear1_mem hf.2.1 hx
  unfold Fit at *
  rw [h4, h5]
  omega
theorem fits_join1 : ∀ (l : List Pc) (q : Pc), Fit q → Fits l → Fits (join1 q l)
  | [], q, h1, _ => fun x hx => by rw [show join1 q [] = [q] from rfl, List.mem_singleton] at hx; rw [hx]; exact h1
  | p :: l, q, h1, h2 => by
    have hp := h2 p (List.mem_cons_self ..)
    have hl : Fits l := fun x hx => h2 x (List.mem_cons_of_mem _ hx)
    unfold join1
    cases ht : touchB q p with
    | true =>
      simp only [touchB, decide_eq_true_eq] at ht
      rw [if_pos rfl]
      refine fits_join1 l _ ?_ hl
      unfold Fit at *
      simp only []
      omega
    | false =>
      rw [if_neg (by simp)]
      intro x hx
      rcases List.mem_cons.1 hx with rfl | hx
      · exact h1
      · exact fits_join1 l p hp hl x hx
theorem fits_join {l : List Pc} (h : Fits l) : Fits (joinB l) := by
  cases l with
  | nil => exact h
  | cons q l => exact fits_join1 l q (h q (List.mem_cons_self ..)) fun x hx => h x (List.mem_cons_of_mem _ hx)
theorem fits_mid {l : List Pc} {p : Pc} (h : Fits l) (hp : Fit p) (n : Nat) : Fits (l.take n ++ p :: l.drop n) := by
  intro x hx
  rcases List.mem_append.1 hx with hx | hx
  · exact h x (List.mem_of_mem_take hx)
  · rcases List.mem_cons.1 hx with rfl | hx
    · exact hp
    · exact h x (List.mem_of_mem_drop hx)
theorem fits_put {l : List Pc} {p : Pc} (h : Fits l) (hp : Fit p) : Fits (putB l p) := fits_join (fits_mid (fits_clear h) hp _)
theorem fits_cut {l : List Pc} {a b : Int} (h : Fits l) : Fits (cutB l a b) := by
  unfold cutB
  split
  · exact fits_join (fits_clear h)
  · exact h
theorem join1_len : ∀ (l : List Pc) (q : Pc), (join1 q l).length ≤ l.length + 1
  | [], q => by simp [join1]
  | p :: l, q => by
    unfold join1
    split
    · have := join1_len l { q with len := q.len + p.len }; simp; omega
    · have := join1_len l p; simp; omega
theorem join_len (l : List Pc) : (joinB l).length ≤ l.length := by
  cases l with
  | nil => simp [joinB]
  | cons q l => exact join1_len l q
theorem clear1_len (a b : Int) (p : Pc) : (clear1 a b p).length ≤ 1 ∨ (clear1 a b p).length = 2 ∧ p.off < a ∧ b < p.off + p.len := by
  unfold clear1
  by_cases h1 : p.off < a <;> by_cases h2 : b < p.off + p.len <;> simp [h1, h2]
theorem clear_len0 {a b : Int} : ∀ {l : List Pc}, (∀ p ∈ l, a ≤ p.off) → (clearB a b l).length ≤ l.length
  | [], _ => by simp [clearB]
  | p :: l, h => by
    have ih := clear_len0 (b := b) fun q hq => h q (List.mem_cons_of_mem _ hq)
    unfold clearB at *
    rw [List.flatMap_cons, List.length_append]
    have := h p (List.mem_cons_self ..)
    rcases clear1_len a b p with h1 | h1
    · rw [List.length_cons]; omega
    · omega
theorem clear_len {a b : Int} (hab : a ≤ b) : ∀ {l : List Pc}, Rise l → (clearB a b l).length ≤ l.length + 1
  | [], _ => by simp [clearB]
  | p :: l, h => by
    obtain ⟨h1, h2, h3⟩ := rise_cons.1 h
    have ih := clear_len hab h3
    rcases clear1_len a b p with k | k
    · unfold clearB at *
      rw [List.flatMap_cons, List.length_append]
      rw [List.length_cons]; omega
    · have ih := clear_len0 (a := a) (b := b) (l := l) fun q hq => by have := h2 q hq; omega
      unfold clearB at *
      rw [List.flatMap_cons, List.length_append]
      rw [List.length_cons]; omega
theorem put_len {l : List Pc} {p : Pc} (h : Rise l) (hp : 1 ≤ p.len) : (putB l p).length ≤ l.length + 2 := by
  unfold putB
  refine Nat.le_trans (join_len _) ?_
  have := clear_len (a := p.off) (b := p.off + p.len) (by omega) h
  simp
  omega
theorem cut_len {l : List Pc} {a b : Int} (h : Rise l) : (cutB l a b).length ≤ l.length + 1 := by
  unfold cutB
  split
  · exact Nat.le_trans (join_len _) (clear_len (by omega) h)
  · omega
/-- A map that may be: what the steps of a law make. -/
structure Good9 (l : List Pc) : Prop where
  can : Can l
  fits : Fits l
theorem good9_nil : Good9 [] := ⟨⟨rise_nil, trivial⟩, fun p h => by cases h⟩
theorem good9_put {l : List Pc} {p : Pc} (h : Good9 l) (hp : Fit p) : Good9 (putB l p) := ⟨(can_put h.can.1 hp.2.1).1, fits_put h.fits hp⟩
theorem good9_cut {l : List Pc} {a b : Int} (h : Good9 l) : Good9 (cutB l a b) := ⟨(can_cut h.can).1, fits_cut h.fits⟩
/-- Joining what is joined already changes nothing. -/
theorem join1_apart : ∀ (l : List Pc) (q : Pc), Apart (q :: l) → join1 q l = q :: l
  | [], _, _ => rfl
  | p :: l, q, h => by
    unfold join1
    rw [h.1 p rfl, if_neg (by simp), join1_apart l p h.2]
end Go.Proofs.Ythdmclhccbjgoaa
